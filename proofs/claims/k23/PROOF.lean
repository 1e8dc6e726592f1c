import PyProof.Rows.All
import Wide.All
import OpenK.AllK
import Wide.FinOn
import HandS.ForMost
import HandS.Codes
import HandS.FStr
import HandS.Walk
import HandS.FStrTup
import HandS.SortRule
import HandS.Deep
import HandS.DictComp
import HandS.Conv
import HandS.Iter
import HandS.Style
import HandS.IsInst
import HandS.SetKeys
import HandS.Exc
import HandS.Defaults
import HandS.Small
import PySem.Challenge.RW_ordermerge_k23_whole_logs_by_a_model
set_option Elab.async false
set_option linter.all false
set_option maxRecDepth 100000
set_option maxHeartbeats 8000000
/-! a def's promise where no repr is under way -/
namespace OM
open PySem PySem.Spec PyProof.Rows L2

/-- FnOk, for callers around whom nothing is being shown -/
structure FnG (P : Program) (w : World) (K : PySem.W.Frag)
    (mg : Str → Option Value) (base : Heap) (CX : CXT)
    (k : Nat) (f : Addr) (fd : FuncData) (ps : List Str) (sp : Sp) : Prop where
  len : ∀ vs H Q E, sp vs H Q E → vs.length = ps.length
  run : ∀ (A : Around) (outer : List Env) (s : Shared) (H : Hp)
      (args : Args) (us : List Value) (vs : List V) (Q : VK) (E : XK),
    Room k A → A.guards = some [] →
    Env0 P w K mg base A outer s H →
    BindsTo s fd args (ps.zip us) → Vals vs us → sp vs H Q E →
    codeAny (model P w) A (.call (.ref f) args)
      (CR CX outer P w H s Q E) s

section
variable {P : Program} {w : World} {K : PySem.W.Frag}
  {mg : Str → Option Value} {base : Heap} {CX : CXT}
theorem FnG.ofOk {k : Nat} {f : Addr} {fd : FuncData} {ps : List Str} {sp : Sp}
    (F : FnOk P w K mg base CX k f fd ps sp) :
    FnG P w K mg base CX k f fd ps sp :=
  ⟨F.len, fun A o s H ar us vs Q E r _ e b v z =>
    F.run A o s H ar us vs Q E r e b v z⟩

theorem FnG.mk' {k : Nat} {f : Addr} {nm qual : Str} {pr : Arguments}
    {bd : List Stmt} {sc : Scope} {dV kV dc pm cv ct oc : Value}
    {an od : Option Addr} {sl : Array (Option Value)} {N ps : List Str} {sp : Sp}
    (lk : K.lookup f = some ⟨oc, od,
      .func (PySem.W.fnOf nm qual pr bd sc dV kV dc pm an cv ct), sl⟩)
    (hc : PySem.W.codeIn K cv qual = true) (S : FnScope N ps sc)
    (len : ∀ vs H Q E, sp vs H Q E → vs.length = ps.length)
    (body : ∀ (A : Around) (outer : List Env) (s : Shared) (H : Hp)
        (vs : List V) (Q : VK) (E : XK),
      Room k (A.deeper (envOfC qual sc s.heap.objs.size f cv)) →
      A.guards = some [] → sp vs H Q E →
      ∃ t, PSs (cxOf CX P w K mg base N qual sc f cv A outer s H E) bd t ∧
        t { nx := fun _ H' => Q .non H', rt := Q } (start N vs) H) :
    FnG P w K mg base CX (k + 1) f
      (PySem.W.fnOf nm qual pr bd sc dV kV dc pm an cv ct) ps sp := by
  refine ⟨len, ?_⟩
  intro A outer s H args us vs Q E room gd env bnd rel hsp
  have kin : K.In s.heap :=
    env.mod.kin.keeps fun b o q => (env.bs b o q).1
  have nol : s.heap.NoLimit :=
    env.mod.nolimit.keeps fun b o q => (env.bs b o q).1
  have kinds : ∀ y ∈ ps.zip us, sc.names.lookup y.1 = some .local ∨
      (sc.names.lookup y.1 = some .cell ∧
        ((cellsFrom (s.heap.objs.size + 1) sc.names []).lookup y.1).isSome
          = true) := by
    rintro ⟨n, v⟩ hy
    cases S.par n (List.of_mem_zip hy).1 with
    | inl q => exact Or.inl q
    | inr q => exact Or.inr ⟨q, PySem.W.cellsFrom_some _ _ _ (.inl q)⟩
  refine codeAny_call_function room.depth (kin _ _ lk) rfl S.co S.gen rfl
    (PySem.W.codeRec_of kin hc) (bnd _ _ _ _ ?_)
  refine wpAny_newFunctionEnv_cells S.kind kinds ?_
  intro env' he s1 x
  subst he
  refine ⟨nol.keeps x.toInCall.keep, codeAny_func ?_⟩
  obtain ⟨t, ht, hq⟩ := body A outer s H vs Q E (room.deeper _) gd hsp
  have I := inv_start (CX := CX) (E := E) S room.hd env
    (len _ _ _ _ hsp) rel x
  refine wpAny_mono (ht.run [] s1 (start N vs) H _ I hq) ?_
    (fun e s' z => z)
  intro fl s' hs
  cases fl with
  | ret u =>
    obtain ⟨v, σ', H', J, rv, q⟩ := hs
    exact ⟨v, H', J.os, J.bare, J.base, J.hok, rv, q⟩
  | next =>
    obtain ⟨σ', H', J, q⟩ := hs
    exact ⟨V.non, H', J.os, J.bare, J.base, J.hok, rfl, q⟩
  | brk => exact (hs.choose_spec.choose_spec.2 : False).elim
  | cont => exact (hs.choose_spec.choose_spec.2 : False).elim

/-- a def of the text, by its body -/
theorem okG {x qual : Str} {st : Stmt} {f : Addr} {fd : FuncData}
    {N ps : List Str} {k : Nat} {sp : Sp} (F : Fun K x qual st f fd)
    (S : FnScope N ps (defScope st))
    (len : ∀ vs H Q E, sp vs H Q E → vs.length = ps.length)
    (body : ∀ (cv : Value) (A : Around) (outer : List Env) (s : Shared)
        (H : Hp) (vs : List V) (Q : VK) (E : XK),
      Room k (A.deeper (envOfC qual (defScope st) s.heap.objs.size f cv)) →
      A.guards = some [] → sp vs H Q E →
      ∃ t, PSs (cxOf CX0 P w K mg base N qual (defScope st) f cv A
          outer s H E).nox (defBody st) t ∧
        t { nx := fun _ H' => Q .non H', rt := Q } (start N vs) H) :
    FnG P w K mg base CX0 (k + 1) f fd ps sp := by
  obtain ⟨oc, od, kV, dc, pm, an, cv, ct, sl, rfl, lk, hc⟩ := F.ex
  refine FnG.mk' lk hc S len ?_
  intro A outer s H vs Q E room gd hsp
  obtain ⟨t, h, q⟩ := body cv A outer s H vs Q E room gd hsp
  exact ⟨t, h.nox, q⟩
end

section
variable {X : Cx} {CX : CXT} {k : Nat} {f : Addr} {fd : FuncData}
  {ps : List Str} {sp : Sp} {dvs : List V} {ds : List Value} {E : XK}
theorem runG {pins : List (Addr × Obj)} {σ : L2.St} {H : Hp} {s : Shared}
    {Q : VK} {us : List Value} {vs : List V}
    (F : FnG X.prog X.w X.K X.mg X.base CX k f fd ps sp)
    (room : Room k X.A) (gd : X.A.guards = some [])
    (hb : Binds X.K fd ps ds) (hd : Vals dvs ds) (hx : Passes CX X E)
    (I : Inv X pins σ H s) (r : Vals vs us) (h : sp (vs ++ dvs) H Q E) :
    wpAny (model X.prog X.w) X.A (call (.ref f) us) (EP X pins σ Q) X.xe s := by
  have rr := r.append hd
  have hl : (us ++ ds).length = ps.length :=
    rr.length.symm.trans (F.len _ _ _ _ h)
  refine wpAny_call (codeAny_mono (F.run X.A X.stack s H ⟨us, []⟩ (us ++ ds)
    (vs ++ dvs) Q E room gd I.env0 (hb s us I.kIn hl) rr h) ?_)
  intro r s' hq
  match r, hq with
  | .error e, hq => exact hx pins σ H s e s' I hq
  | .ok (.ret u), hq => exact I.after hq
  | .ok .next, hq => exact False.elim hq
  | .ok .brk, hq => exact False.elim hq
  | .ok .cont, hq => exact False.elim hq

theorem pe_callG {x : Str} {p pos : Pos} {e : Expr} {es : List Expr} {t : TA}
    (F : FnG X.prog X.w X.K X.mg X.base CX k f fd ps sp)
    (room : Room k X.A) (gd : X.A.guards = some []) (hg : Gl X x)
    (hm : X.mg x = some (.ref f)) (hk : PySem.W.keepIn X.K (.ref f) = true)
    (hb : Binds X.K fd ps ds) (hd : Vals dvs ds) (hx : Passes CX X E)
    (ha : PA X (e :: es) t)
    (h1 : (x == ("__debug__" : Str)) = false := by decide)
    (h2 : starEach (e :: es) X.env =
      (false, eval e X.env) :: starEach es X.env := by rfl)
    (h3 : (backTo pos (starEach es X.env)).any (·.1) = false := by rfl) :
    PE X (.Call (.Name x p) (e :: es) [] pos) (tCall sp dvs E t) := by
  constructor
  intro pins s σ H Q I h
  refine wpAny_Call_Name_kw (ld_glob I hg hm ?_ h1)
  refine PySem.W.callWith_K (h₀ := X.base) I.ok.mod.kin hk
    (thn (ha.run pos pins s σ H _ I h) ?_) h2 h3
  rintro us s1 ⟨vs, H1, I1, r, q⟩
  exact ⟨I1.kIn, runG F room gd hb hd hx I1 r q⟩
end

/-! ### repr of data -/
section
variable {X : Cx}
theorem DpAll.noDict : ∀ {K : PySem.W.Frag} {H : Hp} (ds : List PyData)
    {vs : List V}, (∀ d ∈ ds, ∀ v, Dp K H v d → d.hasDict = false) →
    DpAll K H vs ds → PyData.hasDictAll ds = false
  | _, _, [], _, _, _ => by simp only [PyData.hasDictAll]
  | _, _, d :: ds, _, f, h => by
    cases h with
    | cons h1 h2 =>
      simp only [PyData.hasDictAll]
      rw [f d List.mem_cons_self _ h1,
        DpAll.noDict ds (fun e he => f e (List.mem_cons_of_mem _ he)) h2]
      rfl
mutual
theorem Dp.noDict {K : PySem.W.Frag} {H : Hp} :
    ∀ (d : PyData) {v : V}, Dp K H v d → d.hasDict = false
  | .none, _, _ => by simp only [PyData.hasDict]
  | .bool _, _, _ => by simp only [PyData.hasDict]
  | .int _, _, _ => by simp only [PyData.hasDict]
  | .str _, _, _ => by simp only [PyData.hasDict]
  | .list ds, _, h => by
    cases h with
    | lst _ h => simp only [PyData.hasDict]; exact Dp.noDicts ds h
  | .tuple ds, _, h => by
    cases h with
    | tup _ h => simp only [PyData.hasDict]; exact Dp.noDicts ds h
  | .dict _, _, h => by cases h
theorem Dp.noDicts {K : PySem.W.Frag} {H : Hp} :
    ∀ (ds : List PyData) {vs : List V}, DpAll K H vs ds →
      PyData.hasDictAll ds = false
  | [], _, _ => by simp only [PyData.hasDictAll]
  | d :: ds, _, h => by
    cases h with
    | cons h1 h2 =>
      simp only [PyData.hasDictAll]
      rw [Dp.noDict d h1, Dp.noDicts ds h2]
      rfl
end
/-- repr(x) of data without dicts -/
def rRepr (K : PySem.W.Frag) : List V → Hp → VK → Prop := fun xs H Q =>
  ∃ v d, xs = [v] ∧ Dp K H v d ∧ d.showable = true ∧ d.depth ≤ 60 ∧
    d.shown.length ≤ sizeLine ∧ Q (.str d.shown) H
theorem call_reprD {k : Nat} (room : Room k X.A)
    (gd : X.A.guards = some []) :
    CallR X (.builtin "repr") (rRepr X.K) := by
  intro pins s σ H xs us Q I r h
  obtain ⟨v, d, rfl, hd, sh, dp, sz, q⟩ := h
  cases r with
  | cons rv rn =>
    cases rn
    rename_i u
    obtain ⟨as, rd⟩ := Dp.reads I d v u hd rv
    have un := room.units
    cases hd with
    | non =>
      cases rv
      exact PySem.P.repr_of_none ⟨.str _, H, I.tok _, ⟨_, rfl⟩, q⟩
    | bl b =>
      cases rv
      exact PySem.P.repr_of_bool ⟨.str _, H, I.tok _, ⟨_, rfl⟩, q⟩
    | int i =>
      obtain ⟨t, rfl⟩ := rv
      refine PySem.P.repr_of_int ?_ ⟨.str _, H, I.tok _, ⟨_, rfl⟩, q⟩
      simpa [PyData.showable] using sh
    | str x =>
      obtain ⟨t, rfl⟩ := rv
      exact PySem.P.repr_of_str ⟨.str _, H, I.tok _, ⟨_, rfl⟩, q⟩ sz
    | lst a b =>
      cases rv
      refine repr_of_reads' rd sh (PyData.noDict_hsm
        (Dp.noDict _ (Dp.lst a b))) gd (by omega) (fun _ _ e => e)
        (fun h' u tk hk => ?_) sz
      exact ⟨.str _, H, I.kept hk, ⟨_, rfl⟩, q⟩
    | tup a b =>
      cases rv
      refine repr_of_reads' rd sh (PyData.noDict_hsm
        (Dp.noDict _ (Dp.tup a b))) gd (by omega) (fun _ _ e => e)
        (fun h' u tk hk => ?_) sz
      exact ⟨.str _, H, I.kept hk, ⟨_, rfl⟩, q⟩
end
end OM
namespace OM
open PySem PySem.Spec PyProof.Rows L2

/-- the law's call, nothing being shown around it -/
theorem lawG {P : Program} {w : World} {K : PySem.W.Frag}
    {mg mb : Str → Option Value} {k : Nat} {fa a : Addr} {fd : FuncData}
    {x : Str} {sp : Sp} {s1 : Shared} {vs : List Value} {ns : List Int}
    (kin : K.In s1.heap) (glob : s1.heap.Ns mainGlobals mg)
    (blt : s1.heap.Ns builtinsNs mb)
    (boot : ∀ x : Str, x ≠ "__name__" → mb x = bootBuiltins x)
    (nol : s1.heap.NoLimit) (gens : s1.gens = #[])
    (ha : s1.heap.get? a =
      some { cls := .type "list", data := .seq vs.toArray })
    (hints : IntsAre vs ns) (hl : ns.length ≤ sizeLine)
    (room : Room k callerA)
    (F : ∀ base : Heap, K.In base → base.Ns mainGlobals mg →
      FnG P w K mg base CX0 k fa fd [x] sp)
    (bind : ∀ (s : Shared) (u : Value), BindsTo s fd ⟨[u], []⟩ [(x, u)])
    (hsp : ∀ H : Hp, Only H → SqL K H a (ns.map V.int) →
      sp [.ref a] H (fun v _ => v = .bl true) E0) :
    codeAny (model P w) callerA (.call (.ref fa) ⟨[.ref a], []⟩)
      (fun r s' => r = .ok (.ret (.bool true)) ∧ OldK s1.heap s'.heap ∧
        s'.os = s1.os ∧ AllBare s'.gens) s1 := by
  have rel := vals_ints hints
  have lv := hints.length
  -- H tracks the script alone, or nothing
  suffices core : ∀ H : Hp, Only H → SqL K H a (ns.map V.int) →
      HOk P w H s1.heap → (∀ b, H b ≠ none → b = a) →
      (H a ≠ none → K.lookup a = none) →
      codeAny (model P w) callerA (.call (.ref fa) ⟨[.ref a], []⟩)
        (fun r s' => r = .ok (.ret (.bool true)) ∧ OldK s1.heap s'.heap ∧
          s'.os = s1.os ∧ AllBare s'.gens) s1 by
    by_cases hk : ∃ o, K.lookup a = some o
    · obtain ⟨o, hk⟩ := hk
      have e := kin a o hk
      rw [ha] at e
      cases e
      refine core (fun _ => none) (fun _ => Or.inl rfl) (Or.inr ?_)
        (fun b u z => ?_) (fun b z => absurd rfl z) (fun z => absurd rfl z)
      · exact ⟨_, vs.toArray, _, hk, rfl, rfl, rfl,
          by rw [List.size_toArray, lv]; exact hl, by simpa using rel⟩
      · cases (show (none : Option HO) = some u from z)
    · have hk : K.lookup a = none := by
        cases q : K.lookup a with
        | none => rfl
        | some o => exact absurd ⟨o, q⟩ hk
      let ob : Obj := { cls := .type "list", data := .seq vs.toArray }
      refine core (fun b => if b = a then
          some (.frz ob (.lst (ns.map V.int))) else none)
        (fun b => ?_) (Or.inl (Or.inr ⟨ob, if_pos rfl⟩))
        (fun b u z => ?_) (fun b z => ?_) (fun _ => hk)
      · by_cases hb : b = a
        · exact Or.inr ⟨_, _, if_pos hb⟩
        · exact Or.inl (if_neg hb)
      · by_cases hb : b = a
        · cases (if_pos hb).symm.trans z
          subst hb
          exact ⟨ha, by rw [List.length_map]; exact hl, vs, _, rel, ha⟩
        · cases (if_neg hb).symm.trans z
      · by_cases hb : b = a
        · exact hb
        · exact absurd (if_neg hb) z
  intro H only sq ok alone notK
  have untracked : ∀ {b : Addr} {o : Obj}, s1.heap.get? b = some o →
      (∀ z, o.data ≠ .seq z 0) → H b = none := by
    intro b o e d
    cases q : H b with
    | none => rfl
    | some u =>
      have z : b = a := alone b (by rw [q]; exact nofun)
      subst z
      rw [ha] at e
      cases e
      exact absurd rfl (d _)
  have ns' : ∀ {b : Addr} {m : Str → Option Value}, s1.heap.Ns b m →
      (hidT s1.heap H).Ns b m := by
    rintro b m ⟨o, es, ep, e, d, r⟩
    refine ⟨o, es, ep, hidT_get e (untracked e fun z y => ?_), d, r⟩
    cases d.symm.trans y
  have kin' : K.In (hidT s1.heap H) := by
    intro b o e
    refine hidT_get (kin b o e) ?_
    cases q : H b with
    | none => rfl
    | some u =>
      have z : b = a := alone b (by rw [q]; exact nofun)
      subst z
      rw [notK (by rw [q]; exact nofun)] at e
      cases e
  have md : Mod K mg (hidT s1.heap H) := by
    obtain ⟨mc, h1, h2⟩ := nol
    exact ⟨kin', ns' glob, ⟨mb, ns' blt, boot⟩, ⟨mc, ns' h1, h2⟩⟩
  have env : Env0 P w K mg (hidT s1.heap H) callerA [] s1 H :=
    ⟨rfl, md, fun b o e => of_hidT e, Nat.le_of_eq (hidT_size _ _), trivial,
      fun b hb => (nomatch (show b ∈ ([] : List Addr) from hb)), ok,
      .of_eq gens⟩
  refine codeAny_mono ((F _ kin' (ns' glob)).run callerA [] s1 H ⟨[.ref a], []⟩
    [.ref a] [.ref a] _ _ room rfl env (bind s1 (.ref a)) (.cons rfl .nil)
    (hsp H only sq)) ?_
  intro r s' h
  match r, h with
  | .error e, h => exact False.elim h
  | .ok .next, h => exact False.elim h
  | .ok .brk, h => exact False.elim h
  | .ok .cont, h => exact False.elim h
  | .ok (.ret u), h =>
    obtain ⟨v, H', os, bare, un, ok', rv, q⟩ := h
    cases (show v = .bl true from q)
    cases (show u = Value.bool true from rv)
    refine ⟨rfl, OldK.of_keep fun b o e => ?_, os, bare⟩
    cases q : H b with
    | none =>
      exact un.keep b o e q
        (fun z => nomatch (show b ∈ ([] : List Addr) from z)) (by simp)
    | some u =>
      cases only b with
      | inl z => rw [q] at z; cases z
      | inr z =>
        obtain ⟨ob, xs, z⟩ := z
        have e1 := (ok b _ z).1
        have e2 := (ok' b _ (un.frzs b ob _ z)).1
        rw [e] at e1
        cases e1
        exact e2

/-- what the head leaves, from the law's promise -/
theorem walkG {l : PySem.W.OpenLaw} {n k : Nat} {q : Program} {ls : List Str}
    {XP : (Str → Option Value) → Heap → Prop} {YP : World → Heap → Prop}
    {d : DefRec} {K : Params → PySem.W.Frag} {sp : PySem.W.Frag → Sp} {x : Str}
    (hn : l.most = some n) (hn2 : n ≤ sizeLine)
    (hdf : d.params.defaults = []) (room : Room k callerA)
    (hY : ∀ (w : World) (h : Heap), YP w h → (K w.params).In h)
    (F : ∀ (w : World) (mg : Str → Option Value) (fa : Addr) (h : Heap),
      (K w.params).In h → h.Ns mainGlobals mg → mg d.name = some (.ref fa) →
      ∃ fd : FuncData,
        (∀ (s : Shared) (u : Value), BindsTo s fd ⟨[u], []⟩ [(x, u)]) ∧
        ∀ base : Heap, (K w.params).In base → base.Ns mainGlobals mg →
          FnG l.prog w (K w.params) mg base CX0 k fa fd [x]
            (sp (K w.params)))
    (hsp : ∀ (K : PySem.W.Frag) (H : Hp) (a : Addr) (ns : List Int),
      ns.length ≤ n → Only H → SqL K H a (ns.map V.int) →
      sp K [.ref a] H (fun v _ => v = .bl true) E0) :
    PySem.W.WalkO q ls XP YP l.row.toRowW d []
      (fun f vs => PySem.call f vs) := by
  refine Att.attach_call hn hdf ?_
  intro w s₀ s1 mg mb fa o pm cd doc a vs ns G Y ho hd hcd hmg hobj hi hlen hg
  have KX := hY w _ Y
  obtain ⟨fd, hb, hF⟩ := F w mg fa _ KX G.T.g hmg
  exact lawG KX G.T.g G.T.b G.T.builtins G.T.nolimit hg hobj hi
    (Nat.le_trans hlen hn2) room hF hb
    (fun H hO hS => hsp (K w.params) H a ns hlen hO hS)
end OM
namespace OM
open PySem PySem.Spec PyProof.Rows L2

/-! ### a callee, in one word -/
structure Cal (P : Program) (w : World) (K : PySem.W.Frag)
    (mg : Str → Option Value) (base : Heap) (k : Nat) (x : Str)
    (ps : List Str) (sp : Sp) : Prop where
  ex : ∃ f fd, FnOk P w K mg base CX0 k f fd ps sp ∧
    mg x = some (.ref f) ∧ PySem.W.keepIn K (.ref f) = true ∧
    Binds K fd ps []
structure CalG (P : Program) (w : World) (K : PySem.W.Frag)
    (mg : Str → Option Value) (base : Heap) (k : Nat) (x : Str)
    (ps : List Str) (sp : Sp) : Prop where
  ex : ∃ f fd, FnG P w K mg base CX0 k f fd ps sp ∧
    mg x = some (.ref f) ∧ PySem.W.keepIn K (.ref f) = true ∧
    Binds K fd ps []
section
variable {X : Cx} {k : Nat} {ps : List Str} {sp : Sp} {x : Str}
  {p pos : Pos} {e : Expr} {es : List Expr} {t : TA}
theorem pe_cal (C : Cal X.prog X.w X.K X.mg X.base k x ps sp)
    (room : Room k X.A) (ha : PA X (e :: es) t)
    (hg : Gl X x := by rfl)
    (h1 : (x == ("__debug__" : Str)) = false := by decide)
    (h2 : starEach (e :: es) X.env =
      (false, eval e X.env) :: starEach es X.env := by rfl)
    (h3 : (backTo pos (starEach es X.env)).any (·.1) = false := by rfl) :
    PE X (.Call (.Name x p) (e :: es) [] pos) (tCall sp [] E0 t) := by
  obtain ⟨f, fd, F, m, kp, b⟩ := C.ex
  exact pe_call F room hg m kp b .nil pass0 ha h1 h2 h3
theorem pe_calG (C : CalG X.prog X.w X.K X.mg X.base k x ps sp)
    (room : Room k X.A) (gd : X.A.guards = some [])
    (ha : PA X (e :: es) t)
    (hg : Gl X x := by rfl)
    (h1 : (x == ("__debug__" : Str)) = false := by decide)
    (h2 : starEach (e :: es) X.env =
      (false, eval e X.env) :: starEach es X.env := by rfl)
    (h3 : (backTo pos (starEach es X.env)).any (·.1) = false := by rfl) :
    PE X (.Call (.Name x p) (e :: es) [] pos) (tCall sp [] E0 t) := by
  obtain ⟨f, fd, F, m, kp, b⟩ := C.ex
  exact pe_callG F room gd hg m kp b .nil pass0 ha h1 h2 h3
end

/-! ### heaps: what may have changed -/
/-- all but p is as it was -/
def But (p : Addr) (H H' : Hp) : Prop :=
  ∀ q o, H q = some o → q ≠ p → H' q = some o
theorem But.refl {p : Addr} (H : Hp) : But p H H := fun _ _ h _ => h
theorem But.trans {p : Addr} {H H1 H2 : Hp} (a : But p H H1)
    (b : But p H1 H2) : But p H H2 :=
  fun q o h n => b q o (a q o h n) n
theorem But.of {p : Addr} {H H' : Hp} (a : Same H H') : But p H H' :=
  fun q o h _ => a q o h
theorem But.new {p q : Addr} {o : HO} {H H' : Hp} (a : But p H H')
    (n : H q = none) : But p H (upd H' q o) := fun b u h nb => by
  rw [upd_ne (ne_of_none h n)]
  exact a b u h nb
theorem But.at {p : Addr} {o : HO} {H H' : Hp} (a : But p H H') :
    But p H (upd H' p o) := fun b u h nb => by
  rw [upd_ne nb]
  exact a b u h nb
theorem But.same {p : Addr} {H H' : Hp} (a : But p H H')
    (n : H p = none) : Same H H' := fun q o h =>
  a q o h (ne_of_none h n)
theorem sameNew {H : Hp} {p : Addr} {o : HO} (h : H p = none) :
    Same H (upd H p o) := fun b x e => by
  rw [upd_ne (ne_of_none e h)]
  exact e
theorem Same.put {H H' : Hp} {p : Addr} {o : HO} (a : Same H H')
    (h : H p = none) : Same H (upd H' p o) := fun b x e => by
  rw [upd_ne (ne_of_none e h)]
  exact a b x e
theorem But.free {p q : Addr} {H H' : Hp} (a : But p H H') (n : q ≠ p)
    (h : H' q = none) : H q = none := by
  cases e : H q with
  | none => rfl
  | some o => rw [a q o e n] at h; cases h
theorem But.seq {K : PySem.W.Frag} {p a : Addr} {H H' : Hp} {xs : List V}
    (b : But p H H') (h : SqL K H a xs) (n : a ≠ p) : SqL K H' a xs := by
  rcases h with (h | ⟨o, h⟩) | h
  · exact .inl (.inl (b _ _ h n))
  · exact .inl (.inr ⟨o, b _ _ h n⟩)
  · exact .inr h

/-! ### the built-ins' names -/
structure Bl (mg : Str → Option Value) : Prop where
  len : mg "len" = none
  divmod : mg "divmod" = none
  abs : mg "abs" = none
  max : mg "max" = none
  min : mg "min" = none
  range : mg "range" = none
  enum : mg "enumerate" = none
  isi : mg "isinstance" = none
  str : mg "str" = none
  list : mg "list" = none
  set : mg "set" = none
  all : mg "all" = none
  repr : mg "repr" = none
theorem bt_divmod : bootBuiltins "divmod" = some (.builtin "divmod") := by
  decide +kernel
theorem bt_abs : bootBuiltins "abs" = some (.builtin "abs") := by
  decide +kernel
theorem bt_max : bootBuiltins "max" = some (.builtin "max") := by
  decide +kernel
theorem bt_min : bootBuiltins "min" = some (.builtin "min") := by
  decide +kernel
theorem bt_isi : bootBuiltins "isinstance" = some (.builtin "isinstance") := by
  decide +kernel
theorem bt_str : bootBuiltins "str" = some (.type "str") := by
  decide +kernel
theorem bt_list : bootBuiltins "list" = some (.type "list") := by
  decide +kernel
theorem bt_set : bootBuiltins "set" = some (.type "set") := by
  decide +kernel
theorem bt_all : bootBuiltins "all" = some (.builtin "all") := by
  decide +kernel
theorem bt_repr : bootBuiltins "repr" = some (.builtin "repr") := by
  decide +kernel

/-! ### the drawing state -/
def Rng (H : Hp) (p : Addr) : Prop :=
  ∃ a b : Int, H p = some (.lst [.int a, .int b]) ∧ 0 ≤ a ∧ 0 ≤ b ∧
    b < 2147483647
theorem Rng.but {H H' : Hp} {p q : Addr} (r : Rng H p) (b : But q H H')
    (n : p ≠ q) : Rng H' p := by
  obtain ⟨x, y, e, z⟩ := r
  exact ⟨x, y, b _ _ e n, z⟩
theorem Rng.same {H H' : Hp} {p : Addr} (r : Rng H p) (b : Same H H') :
    Rng H' p := by
  obtain ⟨x, y, e, z⟩ := r
  exact ⟨x, y, b _ _ e, z⟩
theorem Rng.ne {H : Hp} {p q : Addr} (r : Rng H p) (n : H q = none) :
    p ≠ q := by
  obtain ⟨x, y, e, z⟩ := r
  exact ne_of_none e n

/-- a draw below m: some number, the state moved on -/
def spDraw : Sp := fun vs H Q _ => ∃ (p : Addr) (m : Int),
  vs = [.ref p, .int m] ∧ Rng H p ∧ 0 < m ∧ m < 1000000 ∧
  ∀ (d : Int) (H' : Hp), 0 ≤ d → d < m → Rng H' p → But p H H' →
    Q (.int d) H'
/-- a new drawing state -/
def spRng (K : PySem.W.Frag) : Sp := fun vs H Q _ =>
  ∃ (a : Addr) (ns : List Int) (k : Nat), vs = [.ref a, .int k] ∧
  SqL K H a (ns.map V.int) ∧ k ≤ 1000 ∧
  ∀ (p : Addr) (H' : Hp), H p = none → Rng H' p → Same H H' →
    Q (.ref p) H'
end OM
/-! names as lists of codes -/
namespace OM
open PySem L2

/-- one to eight letters from a to z -/
structure Nm (l : List Nat) : Prop where
  lo : 1 ≤ l.length
  hi : l.length ≤ 8
  az : ∀ c ∈ l, 97 ≤ c ∧ c ≤ 122
abbrev vS (l : List Nat) : V := .str (SX.S l)
theorem vS_inj {a b : List Nat} (h : vS a = vS b) : a = b :=
  SX.S_inj (V.str.inj h)

theorem nodup_le {α : Type} [BEq α] [LawfulBEq α] : ∀ {l m : List α},
    l.Nodup → (∀ x ∈ l, x ∈ m) → l.length ≤ m.length
  | [], _, _, _ => Nat.zero_le _
  | x :: l, m, nd, h => by
    have hx : x ∈ m := h x List.mem_cons_self
    have nd' := List.nodup_cons.mp nd
    have r : l.length ≤ (m.erase x).length := by
      refine nodup_le nd'.2 fun y hy => ?_
      have ne : y ≠ x := fun e => nd'.1 (e ▸ hy)
      exact (List.mem_erase_of_ne ne).mpr (h y (List.mem_cons_of_mem _ hy))
    rw [List.length_erase_of_mem hx] at r
    have : 0 < m.length := List.length_pos_of_mem hx
    rw [List.length_cons]
    omega

/-- the k-th name to fall back upon -/
def frs6 (l : List Nat) (k : Nat) : List Nat :=
  l.take 6 ++ [97 + k / 26, 97 + k % 26]
theorem frs6_inj {l : List Nat} {j k : Nat} (h : frs6 l j = frs6 l k) :
    j = k := by
  have e := List.append_cancel_left h
  injection e with e1 e2
  injection e2 with e2 _
  omega
theorem Nm.frs {l : List Nat} (n : Nm l) {k : Nat} (hk : k < 676) :
    Nm (frs6 l k) := by
  unfold frs6
  refine ⟨?_, ?_, ?_⟩
  · simp
  · rw [List.length_append, List.length_take]
    show min 6 l.length + 2 ≤ 8
    omega
  · intro c hc
    rcases List.mem_append.mp hc with h | h
    · exact n.az c (List.mem_of_mem_take h)
    · rcases List.mem_cons.mp h with h | h
      · omega
      · rcases List.mem_cons.mp h with h | h
        · omega
        · cases h
def fresh (l : List Nat) : List (List Nat) :=
  l :: (List.range 676).map (frs6 l)
theorem fresh_nm {l : List Nat} (n : Nm l) : ∀ x ∈ fresh l, Nm x := by
  intro x hx
  rcases List.mem_cons.mp hx with h | h
  · rw [h]; exact n
  · obtain ⟨k, hk, rfl⟩ := List.mem_map.mp h
    exact n.frs (List.mem_range.mp hk)
theorem nodup_map {α β : Type} {f : α → β} (hf : ∀ a b, f a = f b → a = b) :
    ∀ {l : List α}, l.Nodup → (l.map f).Nodup
  | [], _ => List.nodup_nil
  | x :: l, h => by
    have h' := List.nodup_cons.mp h
    rw [List.map_cons]
    refine List.nodup_cons.mpr ⟨fun m => ?_, nodup_map hf h'.2⟩
    obtain ⟨y, hy, e⟩ := List.mem_map.mp m
    exact h'.1 (hf _ _ e ▸ hy)
theorem fresh_some {l : List Nat} {us : List (List Nat)}
    (h : us.length < 676) :
    ∃ x r, (fresh l).filter (fun y => decide (y ∉ us)) = x :: r := by
  cases e : (fresh l).filter (fun y => decide (y ∉ us)) with
  | cons x r => exact ⟨x, r, rfl⟩
  | nil =>
    exfalso
    have all : ∀ x ∈ (List.range 676).map (frs6 l), x ∈ us := by
      intro x hx
      apply Classical.byContradiction
      intro nx
      have : x ∈ (fresh l).filter (fun y => decide (y ∉ us)) :=
        List.mem_filter.mpr ⟨List.mem_cons_of_mem _ hx, decide_eq_true nx⟩
      rw [e] at this
      cases this
    have le := nodup_le (nodup_map (fun a b => frs6_inj (l := l))
      List.nodup_range) all
    rw [List.length_map, List.length_range] at le
    omega
theorem inV_S (x : List Nat) : ∀ us : List (List Nat),
    inV (vS x) (us.map vS) = decide (x ∈ us)
  | [] => by simp [inV]
  | u :: us => by
    have ih := inV_S x us
    unfold inV at ih ⊢
    rw [List.map_cons, List.any_cons, ih]
    by_cases e : u = x
    · subst e
      simp [eqV]
    · have ne : ¬ x = u := fun z => e z.symm
      have : eqV (vS u) (vS x) = false := by
        unfold eqV
        simp
        intro z
        exact e z
      rw [this]
      simp [ne]
theorem flat_S (us : List (List Nat)) : (us.map vS).all flatV = true := by
  rw [List.all_eq_true]
  intro v hv
  obtain ⟨l, _, rfl⟩ := List.mem_map.mp hv
  rfl
end OM
namespace OM
open PySem PySem.Spec PyProof.Rows L2
/-- an expression, with a word behind it -/
def tMid (t : TE) : TE := fun σ H Q =>
  ∃ M : V → Hp → Prop, t σ H M ∧ ∀ v H', M v H' → Q v H'
theorem pe_mid {X : Cx} {e : Expr} {t : TE} (h : PE X e t) :
    PE X e (tMid t) := by
  constructor
  intro pins s σ H Q I q
  obtain ⟨M, m, k⟩ := q
  refine thn (h.run pins s σ H M I m) ?_
  rintro u s1 ⟨v, H1, I1, r, z⟩
  exact ⟨v, H1, I1, r, k v H1 z⟩
def tMidT (t : TT) : TT := fun σ H Q =>
  ∃ M : Bool → Hp → Prop, t σ H M ∧ ∀ v H', M v H' → Q v H'
theorem pt_mid {X : Cx} {e : Expr} {t : TT} (h : PT X e t) :
    PT X e (tMidT t) := by
  constructor
  intro pins s σ H Q I q
  obtain ⟨M, m, k⟩ := q
  refine thn (h.run pins s σ H M I m) ?_
  rintro u s1 ⟨H1, I1, z⟩
  exact ⟨H1, I1, k u H1 z⟩
theorem But.put {p t : Addr} {o : HO} {H H1 : Hp} (a : But p H H1)
    (n : H1 t = none) (ne : t ≠ p) : But p H (upd H1 t o) :=
  a.new (a.free ne n)
/-- len of a list or tuple, the written part a letter -/
def rLenK (K : PySem.W.Frag) : List V → Hp → VK → Prop := fun xs H Q =>
  ∃ p ys, xs = [.ref p] ∧ (SqL K H p ys ∨ SqT K H p ys) ∧
    Q (.int ys.length) H
theorem call_lenK {X : Cx} : CallR X (.builtin "len") (rLenK X.K) :=
  call_len_seq
theorem sz {n : Nat} (h : n ≤ 100000) : n ≤ sizeLine :=
  Nat.le_trans h (by decide)
theorem sz' {n : Nat} (h : n < 100000) : n < sizeLine :=
  Nat.lt_of_lt_of_le h (by decide)
end OM
namespace OM
open PySem PySem.Spec PyProof.Rows L2
section
variable {X : Cx} {n : Nat} {f C : Addr} {fd : FuncData} {ps : List Str}
  {sp : Sp}
/-- a def runs at another depth of the same frame -/
theorem runAt {A : Around} {pins : List (Addr × Obj)} {σ : L2.St} {H : Hp}
    {s : Shared} {Q : VK} {us : List Value} {vs : List V}
    (F : FnG X.prog X.w X.K X.mg X.base CX0 n f fd ps sp)
    (room : Room n A) (gd : A.guards = some []) (fr : A.frames = X.A.frames)
    (hb : Binds X.K fd ps []) (I : Inv X pins σ H s) (r : Vals vs us)
    (h : sp vs H Q E0) :
    wpAny (model X.prog X.w) A (call (.ref f) us) (EP X pins σ Q) X.xe s := by
  have hl : us.length = ps.length := r.length.symm.trans (F.len _ _ _ _ h)
  have e0 : Env0 X.prog X.w X.K X.mg X.base A X.stack s H := by
    have e := I.env0
    exact ⟨by rw [fr]; exact e.frames, e.mod, e.bs, e.bsz, e.funs, e.frf,
      e.hok, e.bare⟩
  have bd : BindsTo s fd ⟨us, []⟩ (ps.zip us) := by
    have := hb s us I.kIn (by rw [List.append_nil]; exact hl)
    rw [List.append_nil] at this
    exact this
  refine wpAny_call (codeAny_mono (F.run A X.stack s H ⟨us, []⟩ us vs Q E0
    room gd e0 bd r h) ?_)
  intro r s' hq
  match r, hq with
  | .error e, hq => exact False.elim hq
  | .ok (.ret u), hq => exact I.after hq
  | .ok .next, hq => exact False.elim hq
  | .ok .brk, hq => exact False.elim hq
  | .ok .cont, hq => exact False.elim hq
/-- the same of a def that asks nothing of what is shown -/
theorem runAt0 {A : Around} {pins : List (Addr × Obj)} {σ : L2.St} {H : Hp}
    {s : Shared} {Q : VK} {us : List Value} {vs : List V}
    (F : FnOk X.prog X.w X.K X.mg X.base CX0 n f fd ps sp)
    (room : Room n A) (fr : A.frames = X.A.frames)
    (hb : Binds X.K fd ps []) (I : Inv X pins σ H s) (r : Vals vs us)
    (h : sp vs H Q E0) :
    wpAny (model X.prog X.w) A (call (.ref f) us) (EP X pins σ Q) X.xe s := by
  have hl : us.length = ps.length := r.length.symm.trans (F.len _ _ _ _ h)
  have e0 : Env0 X.prog X.w X.K X.mg X.base A X.stack s H := by
    have e := I.env0
    exact ⟨by rw [fr]; exact e.frames, e.mod, e.bs, e.bsz, e.funs, e.frf,
      e.hok, e.bare⟩
  have bd : BindsTo s fd ⟨us, []⟩ (ps.zip us) := by
    have := hb s us I.kIn (by rw [List.append_nil]; exact hl)
    rw [List.append_nil] at this
    exact this
  refine wpAny_call (codeAny_mono (F.run A X.stack s H ⟨us, []⟩ us vs Q E0
    room e0 bd r h) ?_)
  intro r s' hq
  match r, hq with
  | .error e, hq => exact False.elim hq
  | .ok (.ret u), hq => exact I.after hq
  | .ok .next, hq => exact False.elim hq
  | .ok .brk, hq => exact False.elim hq
  | .ok .cont, hq => exact False.elim hq
/-- an own method that the interpreter calls by itself -/
structure Spec1 (K : PySem.W.Frag) (C : Addr) (m : Str) (f : Addr)
    (fd : FuncData) (ps : List Str) : Prop where
  at_ : PySem.W.findIn K (.ref C) m = some (some (.ref f))
  fn : PySem.W.isFn K (.ref f) = true
  bd : Binds K fd ps []
/-- x == y, both of the class at C -/
def rEqOwn (C : Addr) (sp : Sp) : R2 := fun x y H Q =>
  ∃ a b dx dy fs gs, x = .ref a ∧ y = .ref b ∧
    H a = some (.ins C dx fs) ∧ H b = some (.ins C dy gs) ∧
    sp [.ref a, .ref b] H (fun v H' => ∃ r, v = .bl r ∧ Q (.bl r) H') E0
theorem op_eqOwn (S : Spec1 X.K C "__eq__" f fd ps)
    (F : FnOk X.prog X.w X.K X.mg X.base CX0 n f fd ps sp)
    (room : Room n X.A) : OpR X (compareOp .Eq) (rEqOwn C sp) := by
  intro pins s σ H x y v u Q I rx ry h
  obtain ⟨a, b, dx, dy, fs, gs, rfl, rfl, ha, hb, q⟩ := h
  cases rx
  cases ry
  obtain ⟨mA, J, _⟩ := ins_get I.hok ha
  obtain ⟨mB, J', _⟩ := ins_get I.hok hb
  obtain ⟨od, J, _⟩ := J.look
  obtain ⟨od', J', _⟩ := J'.look
  obtain ⟨m, hF⟩ := I.fr
  show wpAny _ X.A (richCompare .Eq (.ref a) (.ref b)) _ _ s
  refine PySem.W.cmp_K (op := .Eq) (tb := .ref C) room.units0 hF
    I.ok.mod.kin J J'.type (by simp [PySem.W.notFirst]) S.at_ S.fn ?_
  refine wpAny_mono (runAt0 F room rfl S.bd I (us := [.ref a, .ref b])
    (vs := [.ref a, .ref b])
    (.cons rfl (.cons rfl .nil)) q) ?_ (fun _ _ z => z)
  rintro z s' ⟨v, H', I', rv, r, rfl, q'⟩
  cases rv
  exact ⟨.bl r, H', I', rfl, q'⟩
/-- len(x) of the class at C -/
def rLenOwn (C : Addr) (sp : Sp) : List V → Hp → VK → Prop := fun xs H Q =>
  ∃ a dx fs, xs = [.ref a] ∧ H a = some (.ins C dx fs) ∧
    sp [.ref a] H (fun v H' => ∃ n : Nat, v = .int n ∧ n < 2 ^ 60 ∧
      Q (.int n) H') E0
theorem call_lenOwn (S : Spec1 X.K C "__len__" f fd ps)
    (F : FnOk X.prog X.w X.K X.mg X.base CX0 n f fd ps sp)
    (room : Room (n + 1) X.A) :
    CallR X (.builtin "len") (rLenOwn C sp) := by
  intro pins s σ H xs us Q I r h
  obtain ⟨a, dx, fs, rfl, ha, q⟩ := h
  cases r with
  | cons rv rn =>
    cases rn
    cases rv
    obtain ⟨mA, J, _⟩ := ins_get I.hok ha
    obtain ⟨od, J, _⟩ := J.look
    obtain ⟨m, hF⟩ := I.fr
    refine PySem.W.len_K hF I.ok.mod.kin J S.at_ S.fn ?_
    refine wpAny_mono (runAt0 (A := X.A.in1) F room.in1 rfl S.bd I
      (us := [.ref a]) (vs := [.ref a]) (.cons rfl .nil) q) ?_ (fun _ _ z => z)
    rintro z s' ⟨v, H', I', rv, k, rfl, hk, q'⟩
    obtain ⟨t, rfl⟩ := rv
    exact ⟨⟨by omega, by omega⟩, .int k, H', I'.tok _, ⟨_, rfl⟩, q'⟩
/-- repr(x) of the class at C -/
def rReprOwn (C : Addr) (sp : Sp) : List V → Hp → VK → Prop := fun xs H Q =>
  ∃ a dx fs, xs = [.ref a] ∧ H a = some (.ins C dx fs) ∧
    sp [.ref a] H (fun v H' => ∃ x : Str, v = .str x ∧ Q (.str x) H') E0
theorem call_reprOwn (S : Spec1 X.K C "__repr__" f fd ps)
    (F : FnG X.prog X.w X.K X.mg X.base CX0 n f fd ps sp)
    (room : Room (n + 1) X.A) (gd : X.A.guards = some []) :
    CallR X (.builtin "repr") (rReprOwn C sp) := by
  intro pins s σ H xs us Q I r h
  obtain ⟨a, dx, fs, rfl, ha, q⟩ := h
  cases r with
  | cons rv rn =>
    cases rn
    cases rv
    obtain ⟨mA, J, _⟩ := ins_get I.hok ha
    obtain ⟨od, J, _⟩ := J.look
    obtain ⟨m, hF⟩ := I.fr
    refine PySem.W.repr_K (by have := room.units; show X.A.units + 1 < _; omega) hF I.ok.mod.kin J S.at_ S.fn ?_
    refine wpAny_mono (runAt (A := X.A.in1) F room.in1 gd rfl S.bd I
      (us := [.ref a]) (vs := [.ref a]) (.cons rfl .nil) q) ?_ (fun _ _ z => z)
    rintro z s' ⟨v, H', I', rv, x, rfl, q'⟩
    obtain ⟨t, rfl⟩ := rv
    exact ⟨.str x, H', I', ⟨_, rfl⟩, q'⟩
/-- {x!r} of data -/
def tFmtD (K : PySem.W.Frag) (te : TE) : TE := fun σ H Q =>
  te σ H fun v H1 => ∃ a d, v = .ref a ∧ Dp K H1 v d ∧ d.showable = true ∧
    d.depth ≤ 60 ∧ d.shown.length ≤ sizeLine ∧ Q (.str d.shown) H1
theorem pe_fmtD {e : Expr} {te : TE} {pos : Pos} {k : Nat}
    (room : Room k X.A) (gd : X.A.guards = some []) (he : PE X e te) :
    PE X (.FormattedValue e 114 none pos) (tFmtD X.K te) := by
  constructor
  intro pins s σ H Q I h
  refine wpAny_FormattedValue_repr (thn (he.run pins s σ H _ I h) ?_)
  rintro v s1 ⟨x, H1, I1, r1, a, d, rfl, hd, sh, dp, sz, q⟩
  cases r1
  obtain ⟨as, rd⟩ := Dp.reads I1 d _ _ hd rfl
  have un := room.units
  refine pyReprObj_of_reads rd sh (PyData.noDict_hsm (Dp.noDict _ hd)) gd
    (by omega) (fun _ _ e => e) (fun h' u tk hk => ?_) sz
  exact wpAny_formatField_str ⟨.str _, H1, I1.kept hk, ⟨_, rfl⟩, q⟩
    ⟨.str _, H1, (I1.kept (t' := tk) hk).tok _, ⟨_, rfl⟩, q⟩ sz
end
end OM
namespace OM
open PySem PySem.Spec PyProof.Rows L2
abbrev dN (ls : List (List Nat)) : List PyData := ls.map fun l => .str (SX.S l)
theorem dpAll_N {K : PySem.W.Frag} {H : Hp} : ∀ ls : List (List Nat),
    DpAll K H (ls.map vS) (dN ls)
  | [] => .nil
  | l :: r => .cons (.str _) (dpAll_N r)
theorem dp_N {K : PySem.W.Frag} {H : Hp} {a : Addr} {ls : List (List Nat)}
    (h : SqL K H a (ls.map vS)) : Dp K H (.ref a) (.list (dN ls)) :=
  .lst h (dpAll_N ls)
theorem eqv_N : ∀ ls ms : List (List Nat),
    PyData.eqvAll (dN ls) (dN ms) = decide (ls = ms)
  | [], [] => by simp [PyData.eqvAll]
  | [], m :: ms => by simp [PyData.eqvAll]
  | l :: ls, [] => by simp [PyData.eqvAll]
  | l :: ls, m :: ms => by
    have ih := eqv_N ls ms
    show (PyData.eqv (.str (SX.S l)) (.str (SX.S m)) &&
      PyData.eqvAll (dN ls) (dN ms)) = _
    rw [ih]
    unfold PyData.eqv
    rw [SX.S_beq_eq]
    by_cases e : l = m
    · subst e
      simp
    · have : ¬ (l :: ls = m :: ms) := fun z => e (List.cons.inj z).1
      rw [decide_eq_false e, decide_eq_false this]
      rfl
theorem eqv_L (ls ms : List (List Nat)) :
    PyData.eqv (.list (dN ls)) (.list (dN ms)) = decide (ls = ms) := by
  rw [show PyData.eqv (.list (dN ls)) (.list (dN ms)) =
    PyData.eqvAll (dN ls) (dN ms) by simp only [PyData.eqv]]
  exact eqv_N ls ms
/-- texts of Unicode's codes -/
def Uni (ls : List (List Nat)) : Prop := ∀ l ∈ ls, ∀ c ∈ l, c < 1114112
theorem lay_N : ∀ ls : List (List Nat), Uni ls →
    PyData.canLayAll0 (dN ls) = true
  | [], _ => by simp [PyData.canLayAll0]
  | l :: ls, h => by
    have ih := lay_N ls fun x hx => h x (List.mem_cons_of_mem _ hx)
    have ok : PyData.strOk (SX.S l) = true := by
      unfold PyData.strOk
      rw [Array.all_eq_true]
      intro i hi
      have := h l List.mem_cons_self l.toArray[i] (by simp)
      exact decide_eq_true this
    show PyData.canLayAll0 (.str (SX.S l) :: dN ls) = true
    simp only [PyData.canLayAll0, PyData.canLay0, ih, ok, Bool.and_self]
theorem depth_N : ∀ ls : List (List Nat), PyData.depthAll (dN ls) ≤ 1
  | [] => by simp [PyData.depthAll]
  | l :: ls => by
    have ih := depth_N ls
    show PyData.depthAll (.str (SX.S l) :: dN ls) ≤ 1
    simp only [PyData.depthAll, PyData.depth]
    omega
theorem depth_L (ls : List (List Nat)) : (PyData.list (dN ls)).depth ≤ 2 := by
  simp only [PyData.depth]
  have := depth_N ls
  omega
theorem shaped_L {ls : List (List Nat)} (h : Uni ls) :
    SeqAt.shaped (.list (dN ls)) = true := by
  unfold SeqAt.shaped
  rw [show PyData.canLay0 (.list (dN ls)) = PyData.canLayAll0 (dN ls) by
    simp only [PyData.canLay0], lay_N ls h]
  have := depth_L ls
  exact decide_eq_true (by omega)
theorem showable_N : ∀ ls : List (List Nat), PyData.showableAll (dN ls) = true
  | [] => by simp [PyData.showableAll]
  | l :: ls => by
    have ih := showable_N ls
    show PyData.showableAll (.str (SX.S l) :: dN ls) = true
    simp only [PyData.showableAll, PyData.showable, ih, Bool.and_self]
theorem showable_L (ls : List (List Nat)) :
    (PyData.list (dN ls)).showable = true := by
  simp only [PyData.showable]
  exact showable_N ls
/-- short lists of short texts are shown shortly -/
theorem piled_N : ∀ (ls : List (List Nat)) (m : Nat),
    (∀ l ∈ ls, l.length ≤ m ∧ ∀ c ∈ l, c < 1114112) →
    piled (PyData.shownAll (dN ls)) ≤ ls.length * (10 * m + 4)
  | [], _, _ => by
    show piled (PyData.shownAll []) ≤ _
    simp only [PyData.shownAll]
    exact Nat.zero_le _
  | l :: ls, m, h => by
    have ih := piled_N ls m fun x hx => h x (List.mem_cons_of_mem _ hx)
    obtain ⟨h1, h2⟩ := h l List.mem_cons_self
    have h3 := StrLaws.reprText_len (SX.S l) (fun c hc => Nat.lt_of_lt_of_le
      (h2 c hc) (by decide))
    have h4 : (SX.S l).length = l.length := SX.S_len l
    have h5 : (reprText (SX.S l)).length ≤ 10 * m + 2 := by
      refine Nat.le_trans h3 ?_
      rw [h4]
      omega
    show piled (PyData.shownAll (.str (SX.S l) :: dN ls)) ≤ _
    simp only [PyData.shownAll, PyData.shown]
    rw [piled_cons, List.length_cons, Nat.add_mul]
    omega
theorem shown_L {ls : List (List Nat)} {m : Nat} (hn : ls.length ≤ 1000)
    (hm : m ≤ 1000) (h : ∀ l ∈ ls, l.length ≤ m ∧ ∀ c ∈ l, c < 1114112) :
    (PyData.list (dN ls)).shown.length ≤ sizeLine := by
  have p := piled_N ls m h
  have e : (PyData.list (dN ls)).shown =
      listText (PyData.shownAll (dN ls)) := by simp only [PyData.shown]
  rw [e]
  have q := listText_len_le (PyData.shownAll (dN ls))
  have r : ((PyData.shownAll (dN ls)).map (·.length)).sum +
      2 * (PyData.shownAll (dN ls)).length =
      piled (PyData.shownAll (dN ls)) := by
    generalize PyData.shownAll (dN ls) = ts
    induction ts with
    | nil => rfl
    | cons t ts ih =>
      rw [piled_cons, List.map_cons, List.sum_cons, List.length_cons]
      omega
  have s : ls.length * (10 * m + 4) ≤ 1000 * 10004 :=
    Nat.mul_le_mul hn (by omega)
  refine Nat.le_trans (show _ ≤ 10004003 by omega) (by decide)
end OM
/-! two neighbours exchanged -/
namespace OM
def exch {α : Type} : List α → Nat → List α
  | x :: y :: r, 0 => y :: x :: r
  | x :: r, i + 1 => x :: exch r i
  | l, _ => l
theorem exch_succ {α : Type} (x : α) (l : List α) (i : Nat) :
    exch (x :: l) (i + 1) = x :: exch l i := by cases l <;> rfl
theorem exch_map {α β : Type} (f : α → β) : ∀ (xs : List α) (i : Nat),
    exch (xs.map f) i = (exch xs i).map f
  | [], i => by cases i <;> rfl
  | [x], 0 => rfl
  | [x], i + 1 => by
    show f x :: exch [] i = (x :: exch [] i).map f
    rw [List.map_cons, ← exch_map f [] i]
    rfl
  | x :: y :: r, 0 => rfl
  | x :: y :: r, i + 1 => by
    show f x :: exch ((y :: r).map f) i = (x :: exch (y :: r) i).map f
    rw [exch_map f (y :: r) i, List.map_cons]
theorem exch_perm {α : Type} : ∀ (xs : List α) (i : Nat), (exch xs i).Perm xs
  | [], i => by cases i <;> exact List.Perm.refl _
  | [x], 0 => List.Perm.refl _
  | [x], i + 1 => (exch_perm [] i).cons x
  | x :: y :: r, 0 => List.Perm.swap x y r
  | x :: y :: r, i + 1 => (exch_perm (y :: r) i).cons x
theorem exch_len {α : Type} (xs : List α) (i : Nat) :
    (exch xs i).length = xs.length := (exch_perm xs i).length_eq
theorem exch_exch {α : Type} : ∀ (xs : List α) (i : Nat),
    exch (exch xs i) i = xs
  | [], i => by cases i <;> rfl
  | [x], 0 => rfl
  | [x], i + 1 => by
    show x :: exch (exch [] i) i = [x]
    rw [exch_exch [] i]
  | x :: y :: r, 0 => rfl
  | x :: y :: r, i + 1 => by
    rw [exch_succ, exch_succ, exch_exch (y :: r) i]
theorem exch_eq {α : Type} : ∀ {xs : List α} {i : Nat} (h : i + 1 < xs.length),
    exch xs i = xs.take i ++ [xs[i + 1], xs[i]] ++ xs.drop (i + 2)
  | [], i, h => absurd h (by simp)
  | [x], i, h => absurd h (by simp)
  | x :: y :: r, 0, h => rfl
  | x :: y :: r, i + 1, h => by
    have ih := exch_eq (xs := y :: r) (i := i) (by simpa using h)
    show x :: exch (y :: r) i = _
    rw [ih]
    rfl
theorem exch_getD {α : Type} (d : α) : ∀ {xs : List α} {i : Nat}
    (h : i + 1 < xs.length), (exch xs i).getD i d = xs.getD (i + 1) d ∧
      (exch xs i).getD (i + 1) d = xs.getD i d
  | [], i, h => absurd h (by simp)
  | [x], i, h => absurd h (by simp)
  | x :: y :: r, 0, h => ⟨rfl, rfl⟩
  | x :: y :: r, i + 1, h => by
    have ih := exch_getD d (xs := y :: r) (i := i) (by simpa using h)
    show (x :: exch (y :: r) i).getD (i + 1) d = _ ∧
      (x :: exch (y :: r) i).getD (i + 1 + 1) d = _
    rw [List.getD_cons_succ, List.getD_cons_succ, List.getD_cons_succ,
      List.getD_cons_succ]
    exact ih
theorem getD_map {α β : Type} (f : α → β) {xs : List α} {i : Nat} (d : α)
    (h : i < xs.length) : (xs.map f)[i]? = some (f (xs.getD i d)) := by
  rw [List.getElem?_map, List.getElem?_eq_getElem h,
    List.getD_eq_getElem?_getD, List.getElem?_eq_getElem h]
  rfl
theorem getD_mem {α : Type} {xs : List α} {i : Nat} (d : α)
    (h : i < xs.length) : xs.getD i d ∈ xs := by
  rw [List.getD_eq_getElem?_getD, List.getElem?_eq_getElem h]
  exact List.getElem_mem h
/-- does a swap there go outward -/
def outB (ls os : List (List Nat)) (i : Nat) : Bool :=
  decide (ls.idxOf (os.getD i []) < ls.idxOf (os.getD (i + 1) []))
theorem exch_get {α : Type} : ∀ {xs : List α} {i : Nat}
    (h : i + 1 < xs.length) (j : Nat), (exch xs i)[j]? =
      if j = i then xs[i + 1]? else if j = i + 1 then xs[i]? else xs[j]?
  | [], i, h, _ => absurd h (by simp)
  | [x], i, h, _ => absurd h (by simp)
  | x :: y :: r, 0, h, 0 => rfl
  | x :: y :: r, 0, h, 1 => rfl
  | x :: y :: r, 0, h, j + 2 => by
    rw [if_neg (by omega), if_neg (by omega)]
    rfl
  | x :: y :: r, i + 1, h, 0 => by
    rw [exch_succ, if_neg (by omega), if_neg (by omega)]
    rfl
  | x :: y :: r, i + 1, h, j + 1 => by
    have ih := exch_get (xs := y :: r) (i := i) (by simpa using h) j
    rw [exch_succ, List.getElem?_cons_succ, ih, List.getElem?_cons_succ,
      List.getElem?_cons_succ]
    by_cases e : j = i
    · subst e
      rw [if_pos rfl, if_pos rfl]
      rfl
    · by_cases e2 : j = i + 1
      · subst e2
        rw [if_neg e, if_pos rfl, if_neg (by omega), if_pos rfl]
        rfl
      · rw [if_neg e, if_neg e2, if_neg (by omega), if_neg (by omega)]
        rfl
end OM
/-! words of swaps: which pairs they invert, and what a swap back cancels -/
namespace OM
abbrev Nme := List Nat
theorem m_idx {l : List Nme} {i : Nat} {x : Nme} (nd : l.Nodup)
    (h : l[i]? = some x) : l.idxOf x = i := by
  have hm := List.mem_of_getElem? h
  have hl := List.idxOf_lt_length_of_mem hm
  obtain ⟨hi, e⟩ := List.getElem?_eq_some_iff.mp h
  have e2 := List.getElem_idxOf hl
  exact (List.getElem_inj nd).mp (e2.trans e.symm)
theorem m_get {l : List Nme} {x : Nme} (h : x ∈ l) :
    l[l.idxOf x]? = some x := by
  have hl := List.idxOf_lt_length_of_mem h
  rw [List.getElem?_eq_getElem hl, List.getElem_idxOf hl]
theorem m_inj {l : List Nme} {x y : Nme} (hx : x ∈ l) (hy : y ∈ l)
    (h : l.idxOf x = l.idxOf y) : x = y := by
  have a := m_get hx
  rw [h, m_get hy] at a
  exact (Option.some.inj a).symm
theorem m_getD {l : List Nme} {i : Nat} (h : i < l.length) :
    l[i]? = some (l.getD i []) := by
  rw [List.getD_eq_getElem?_getD, List.getElem?_eq_getElem h]
  rfl
/-- where the items stand behind a swap -/
theorem idx_exch {l : List Nme} {i : Nat} (nd : l.Nodup)
    (h : i + 1 < l.length) {x : Nme} (hx : x ∈ l) :
    (exch l i).idxOf x = if x = l.getD i [] then i + 1
      else if x = l.getD (i + 1) [] then i else l.idxOf x := by
  have nd' : (exch l i).Nodup := (exch_perm l i).nodup_iff.mpr nd
  have g0 := m_getD (show i < l.length by omega)
  have g1 := m_getD h
  refine m_idx nd' ?_
  rw [exch_get h]
  by_cases e0 : x = l.getD i []
  · rw [if_pos e0, if_neg (by omega), if_pos rfl, g0, e0]
  · rw [if_neg e0]
    by_cases e1 : x = l.getD (i + 1) []
    · rw [if_pos e1, if_pos rfl, g1, e1]
    · rw [if_neg e1]
      have gx := m_get hx
      rw [if_neg fun z => e0 ?_, if_neg fun z => e1 ?_, gx]
      · rw [z, g1] at gx
        exact (Option.some.inj gx).symm
      · rw [z, g0] at gx
        exact (Option.some.inj gx).symm
/-- a pair of the base that stands the other way round in os -/
def Iv (ls os : List Nme) (p : Nme × Nme) : Prop :=
  p.1 ∈ ls ∧ p.2 ∈ ls ∧ ls.idxOf p.1 < ls.idxOf p.2 ∧
    os.idxOf p.2 < os.idxOf p.1
/-- T lists the inverted pairs of os -/
structure Rep (ls os : List Nme) (T : List (Nme × Nme)) : Prop where
  nd : T.Nodup
  mem : ∀ p, p ∈ T ↔ Iv ls os p
theorem Rep.len {ls os : List Nme} {T U : List (Nme × Nme)} (a : Rep ls os T)
    (b : Rep ls os U) : T.length = U.length := by
  have h : T.Perm U := (List.perm_ext_iff_of_nodup a.nd b.nd).mpr fun p =>
    (a.mem p).trans (b.mem p).symm
  exact h.length_eq
/-- the two neighbours there, the smaller position first -/
def nbr (os : List Nme) (i : Nat) : Nme × Nme :=
  (os.getD i [], os.getD (i + 1) [])
structure Of (ls os : List Nme) : Prop where
  nd : ls.Nodup
  pm : os.Perm ls
theorem Of.ndo {ls os : List Nme} (o : Of ls os) : os.Nodup :=
  o.pm.nodup_iff.mpr o.nd
theorem Of.exch {ls os : List Nme} (o : Of ls os) (i : Nat) :
    Of ls (exch os i) := ⟨o.nd, (exch_perm os i).trans o.pm⟩
section
variable {ls os : List Nme} {i : Nat}
theorem Of.ne (o : Of ls os) (h : i + 1 < os.length) :
    os.getD i [] ≠ os.getD (i + 1) [] := fun e => by
  have a := m_idx o.ndo (m_getD (show i < os.length by omega))
  have b := m_idx o.ndo (m_getD h)
  rw [e] at a
  omega
theorem Of.m0 (o : Of ls os) (h : i + 1 < os.length) : os.getD i [] ∈ ls :=
  o.pm.mem_iff.mp (getD_mem [] (by omega))
theorem Of.m1 (o : Of ls os) (h : i + 1 < os.length) :
    os.getD (i + 1) [] ∈ ls := o.pm.mem_iff.mp (getD_mem [] h)
/-- a swap changes just one pair -/
theorem iv_exch (o : Of ls os) (h : i + 1 < os.length) {x y : Nme}
    (hx : x ∈ ls) (hy : y ∈ ls) (ne : x ≠ y) :
    ((exch os i).idxOf y < (exch os i).idxOf x) ↔
      (if x = os.getD i [] ∧ y = os.getD (i + 1) [] then True
       else if x = os.getD (i + 1) [] ∧ y = os.getD i [] then False
       else os.idxOf y < os.idxOf x) := by
  have ox : x ∈ os := o.pm.mem_iff.mpr hx
  have oy : y ∈ os := o.pm.mem_iff.mpr hy
  rw [idx_exch o.ndo h ox, idx_exch o.ndo h oy]
  have n01 := o.ne h
  have i0 := m_idx o.ndo (m_getD (show i < os.length by omega))
  have i1 := m_idx o.ndo (m_getD h)
  generalize os.getD i [] = a at *
  generalize os.getD (i + 1) [] = b at *
  have hneq : os.idxOf x ≠ os.idxOf y := fun e => ne (m_inj ox oy e)
  by_cases xa : x = a
  · subst xa
    have ya : ¬ y = x := fun e => ne e.symm
    rw [if_pos rfl, if_neg ya]
    by_cases yb : y = b
    · subst yb
      rw [if_pos rfl, if_pos ⟨rfl, rfl⟩]
      simp
    · rw [if_neg yb, if_neg (fun z => yb z.2), if_neg (fun z => n01 z.1)]
      have : os.idxOf y ≠ i + 1 := fun e => yb (m_inj oy
        (o.pm.mem_iff.mpr (by
          have := (List.idxOf_lt_length_of_mem oy)
          have gb : os[i + 1]? = some b := by
            rw [← i1]
            refine m_get ?_
            exact Classical.byContradiction fun nb => by
              have := List.idxOf_eq_length nb
              omega
          exact o.pm.mem_iff.mp (List.mem_of_getElem? gb))) (by omega))
      omega
  · rw [if_neg xa]
    by_cases xb : x = b
    · subst xb
      rw [if_pos rfl]
      by_cases ya : y = a
      · subst ya
        rw [if_pos rfl, if_neg (fun z => xa z.1), if_pos ⟨rfl, rfl⟩]
        simp
      · have yb : ¬ y = x := fun e => ne e.symm
        rw [if_neg ya, if_neg yb, if_neg (fun z => xa z.1),
          if_neg (fun z => ya z.2)]
        have ma : a ∈ os := Classical.byContradiction fun na => by
          have := List.idxOf_eq_length na
          omega
        have : os.idxOf y ≠ i := fun e => ya (m_inj oy ma (by omega))
        omega
    · rw [if_neg xb, if_neg (show ¬ (x = a ∧ y = b) from fun z => xa z.1),
        if_neg (show ¬ (x = b ∧ y = a) from fun z => xb z.1)]
      have ma : a ∈ os := Classical.byContradiction fun na => by
        have := List.idxOf_eq_length na
        omega
      have mb : b ∈ os := Classical.byContradiction fun nb => by
        have := List.idxOf_eq_length nb
        omega
      have x0 : os.idxOf x ≠ i := fun e => xa (m_inj ox ma (by omega))
      have x1 : os.idxOf x ≠ i + 1 := fun e => xb (m_inj ox mb (by omega))
      by_cases ya : y = a
      · subst ya
        rw [if_pos rfl]
        omega
      · rw [if_neg ya]
        by_cases yb : y = b
        · subst yb
          rw [if_pos rfl]
          omega
        · rw [if_neg yb]
theorem out_lt : outB ls os i = true ↔
    ls.idxOf (os.getD i []) < ls.idxOf (os.getD (i + 1) []) := by
  unfold outB
  exact decide_eq_true_iff
theorem in_lt (o : Of ls os) (h : i + 1 < os.length) :
    outB ls os i = false ↔
    ls.idxOf (os.getD (i + 1) []) < ls.idxOf (os.getD i []) := by
  unfold outB
  rw [decide_eq_false_iff_not]
  have : ls.idxOf (os.getD i []) ≠ ls.idxOf (os.getD (i + 1) []) := fun e =>
    o.ne h (m_inj (o.m0 h) (o.m1 h) e)
  omega
/-- an outward swap inverts its pair -/
theorem Rep.out {T : List (Nme × Nme)} (r : Rep ls os T) (o : Of ls os)
    (h : i + 1 < os.length) (ob : outB ls os i = true) :
    nbr os i ∉ T ∧ Rep ls (exch os i) (T ++ [nbr os i]) := by
  have lt := out_lt.mp ob
  have i0 := m_idx o.ndo (m_getD (show i < os.length by omega))
  have i1 := m_idx o.ndo (m_getD h)
  have no : nbr os i ∉ T := fun z => by
    have := ((r.mem _).mp z).2.2.2
    unfold nbr at this
    simp only at this
    omega
  refine ⟨no, ⟨?_, ?_⟩⟩
  · refine List.nodup_append.mpr ⟨r.nd, by simp, ?_⟩
    intro x hx y hy e
    rw [List.mem_singleton.mp hy] at e
    exact no (e ▸ hx)
  · rintro ⟨x, y⟩
    rw [List.mem_append, List.mem_singleton, r.mem]
    unfold Iv
    simp only
    constructor
    · rintro (⟨hx, hy, hl, hv⟩ | e)
      · have ne : x ≠ y := fun z => by rw [z] at hl; omega
        refine ⟨hx, hy, hl, (iv_exch o h hx hy ne).mpr ?_⟩
        split
        · trivial
        · rw [if_neg]
          · exact hv
          · rintro ⟨rfl, rfl⟩
            omega
      · cases e
        have ne := o.ne h
        refine ⟨o.m0 h, o.m1 h, lt, (iv_exch o h (o.m0 h) (o.m1 h) ne).mpr ?_⟩
        rw [if_pos ⟨rfl, rfl⟩]
        trivial
    · rintro ⟨hx, hy, hl, hv⟩
      have ne : x ≠ y := fun z => by rw [z] at hl; omega
      have z := (iv_exch o h hx hy ne).mp hv
      split at z
      · rename_i c
        refine Or.inr ?_
        rw [c.1, c.2]
        rfl
      · split at z
        · exact z.elim
        · exact Or.inl ⟨hx, hy, hl, z⟩
/-- an inward swap takes its pair away -/
theorem Rep.inn {T : List (Nme × Nme)} (r : Rep ls os T) (o : Of ls os)
    (h : i + 1 < os.length) (ob : outB ls os i = false) :
    (os.getD (i + 1) [], os.getD i []) ∈ T ∧
    Rep ls (exch os i) (T.erase (os.getD (i + 1) [], os.getD i [])) := by
  have lt := (in_lt o h).mp ob
  have i0 := m_idx o.ndo (m_getD (show i < os.length by omega))
  have i1 := m_idx o.ndo (m_getD h)
  refine ⟨(r.mem _).mpr ⟨o.m1 h, o.m0 h, lt, by show os.idxOf (os.getD i []) < os.idxOf (os.getD (i + 1) []); omega⟩,
    ⟨r.nd.erase _, ?_⟩⟩
  rintro ⟨x, y⟩
  rw [r.nd.mem_erase_iff, r.mem]
  unfold Iv
  simp only
  constructor
  · rintro ⟨ne, hx, hy, hl, hv⟩
    have nxy : x ≠ y := fun z => by rw [z] at hl; omega
    refine ⟨hx, hy, hl, (iv_exch o h hx hy nxy).mpr ?_⟩
    split
    · trivial
    · rw [if_neg]
      · exact hv
      · rintro ⟨rfl, rfl⟩
        exact ne rfl
  · rintro ⟨hx, hy, hl, hv⟩
    have nxy : x ≠ y := fun z => by rw [z] at hl; omega
    have z := (iv_exch o h hx hy nxy).mp hv
    split at z
    · rename_i c
      rw [c.1, c.2] at hl
      omega
    · split at z
      · exact z.elim
      · rename_i c
        refine ⟨fun e => c ?_, hx, hy, hl, z⟩
        cases e
        exact ⟨rfl, rfl⟩
end
/-! ### words -/
def run (os : List Nme) (ws : List Nat) : List Nme := ws.foldl exch os
/-- each index is one of a swap -/
def Ixs (n : Nat) (ws : List Nat) : Prop := ∀ i ∈ ws, i + 1 < n
/-- each swap goes outward -/
def Wd (ls : List Nme) : List Nme → List Nat → Prop
  | _, [] => True
  | os, i :: r => i + 1 < os.length ∧ outB ls os i = true ∧
    Wd ls (exch os i) r
/-- the pairs that the swaps exchange -/
def prsOf : List Nme → List Nat → List (Nme × Nme)
  | _, [] => []
  | os, i :: r => nbr os i :: prsOf (exch os i) r
theorem run_len (ws : List Nat) : ∀ os : List Nme,
    (run os ws).length = os.length := by
  induction ws with
  | nil => intro os; rfl
  | cons i r ih =>
    intro os
    show (run (exch os i) r).length = _
    rw [ih, exch_len]
theorem Of.run {ls : List Nme} (ws : List Nat) : ∀ {os : List Nme},
    Of ls os → Of ls (run os ws) := by
  induction ws with
  | nil => intro os o; exact o
  | cons i r ih => intro os o; exact ih (o.exch i)
theorem Wd.ixs {ls : List Nme} : ∀ {ws : List Nat} {os : List Nme},
    Wd ls os ws → Ixs os.length ws
  | [], _, _ => nofun
  | i :: r, os, h => fun j hj => by
    rcases List.mem_cons.mp hj with e | e
    · rw [e]; exact h.1
    · have := Wd.ixs h.2.2 j e
      rw [exch_len] at this
      exact this
theorem prsOf_len : ∀ (ws : List Nat) (os : List Nme),
    (prsOf os ws).length = ws.length
  | [], _ => rfl
  | i :: r, os => congrArg (· + 1) (prsOf_len r (exch os i))
theorem Rep.word {ls : List Nme} : ∀ {ws : List Nat} {os : List Nme}
    {T : List (Nme × Nme)}, Rep ls os T → Of ls os → Wd ls os ws →
    Rep ls (OM.run os ws) (T ++ prsOf os ws)
  | [], _, T, r, _, _ => by
    show Rep _ _ (T ++ [])
    rw [List.append_nil]
    exact r
  | i :: w, os, T, r, o, h => by
    have := Rep.word (r.out o h.1 h.2.1).2 (o.exch i) h.2.2
    rw [List.append_assoc] at this
    exact this
/-- any swaps: as many pairs as swaps only if all of them go outward -/
theorem Rep.any {ls : List Nme} : ∀ {ws : List Nat} {os : List Nme}
    {T : List (Nme × Nme)}, Rep ls os T → Of ls os → Ixs os.length ws →
    ∃ U, Rep ls (OM.run os ws) U ∧ U.length ≤ T.length + ws.length ∧
      (U.length = T.length + ws.length → Wd ls os ws)
  | [], _, T, r, _, _ => ⟨T, r, Nat.le_refl _, fun _ => trivial⟩
  | i :: w, os, T, r, o, h => by
    have hi := h i List.mem_cons_self
    have hw : Ixs (exch os i).length w := by
      rw [exch_len]
      exact fun j hj => h j (List.mem_cons_of_mem _ hj)
    cases ob : outB ls os i with
    | true =>
      obtain ⟨U, a, b, c⟩ := Rep.any (r.out o hi ob).2 (o.exch i) hw
      rw [List.length_append] at b c
      refine ⟨U, a, ?_, fun e => ⟨hi, ob, c ?_⟩⟩
      · rw [List.length_cons]
        simp at b
        omega
      · rw [List.length_cons] at e
        simp
        omega
    | false =>
      obtain ⟨m, q⟩ := r.inn o hi ob
      obtain ⟨U, a, b, c⟩ := Rep.any q (o.exch i) hw
      rw [List.length_erase_of_mem m] at b c
      have : 0 < T.length := List.length_pos_of_mem m
      refine ⟨U, a, ?_, fun e => ?_⟩
      · rw [List.length_cons]
        omega
      · rw [List.length_cons] at e
        omega
theorem Rep.nil {ls : List Nme} (nd : ls.Nodup) : Rep ls ls [] :=
  ⟨List.nodup_nil, fun p => ⟨nofun, fun h => by
    have := h.2.2
    omega⟩⟩
theorem run_app (us vs : List Nat) (os : List Nme) :
    run os (us ++ vs) = run (run os us) vs := List.foldl_append
/-! ### the swap back -/
/-- two labels exchanged -/
def lab (x y z : Nme) : Nme := if z = x then y else if z = y then x else z
theorem run_lab (x y : Nme) : ∀ (ws : List Nat) (os : List Nme),
    run (os.map (lab x y)) ws = (run os ws).map (lab x y)
  | [], _ => rfl
  | i :: r, os => by
    show run (exch (os.map (lab x y)) i) r = (run (exch os i) r).map (lab x y)
    rw [exch_map, run_lab x y r]
/-- a swap exchanges the labels of two neighbours -/
theorem exch_lab {os : List Nme} {i : Nat} (nd : os.Nodup)
    (h : i + 1 < os.length) :
    exch os i = os.map (lab (os.getD i []) (os.getD (i + 1) [])) := by
  refine List.ext_getElem? fun j => ?_
  have g0 := m_getD (show i < os.length by omega)
  have g1 := m_getD h
  rw [exch_get h, List.getElem?_map]
  have i0 := m_idx nd g0
  have i1 := m_idx nd g1
  by_cases e0 : j = i
  · subst e0
    rw [if_pos rfl, g0, g1]
    show _ = some (lab _ _ _)
    unfold lab
    rw [if_pos rfl]
  · rw [if_neg e0]
    by_cases e1 : j = i + 1
    · subst e1
      rw [if_pos rfl, g0, g1]
      show _ = some (lab _ _ _)
      unfold lab
      rw [if_neg, if_pos rfl]
      intro z
      rw [z] at i1
      omega
    · rw [if_neg e1]
      cases gj : os[j]? with
      | none => rfl
      | some z =>
        have ij := m_idx nd gj
        show _ = some (lab _ _ _)
        unfold lab
        rw [if_neg, if_neg]
        · intro e
          rw [e] at ij
          omega
        · intro e
          rw [e] at ij
          omega
theorem lab_comm (x y : Nme) : lab x y = lab y x := by
  funext z
  unfold lab
  by_cases a : z = x
  · by_cases b : z = y
    · rw [if_pos a, if_pos b, ← a, ← b]
    · rw [if_pos a, if_neg b, if_pos a]
  · by_cases b : z = y
    · rw [if_neg a, if_pos b, if_pos b]
    · rw [if_neg a, if_neg b, if_neg b, if_neg a]
theorem prsOf_get : ∀ (us : List Nat) (i : Nat) (vs : List Nat)
    (os : List Nme), (prsOf os (us ++ i :: vs))[us.length]? =
      some (nbr (run os us) i)
  | [], i, vs, os => rfl
  | u :: us, i, vs, os => prsOf_get us i vs (exch os u)
/-- the swap back of the pair at position j: without that entry the others
    are outward swaps and lead to the order behind the swap -/
theorem cancel {ls : List Nme} {ws : List Nat} {i j : Nat} (nd : ls.Nodup)
    (w : Wd ls ls ws) (h : i + 1 < ls.length)
    (ob : outB ls (run ls ws) i = false)
    (hj : (prsOf ls ws)[j]? = some ((run ls ws).getD (i + 1) [],
      (run ls ws).getD i [])) :
    Wd ls ls (ws.eraseIdx j) ∧
      run ls (ws.eraseIdx j) = exch (run ls ws) i := by
  have o0 : Of ls ls := ⟨nd, List.Perm.refl _⟩
  have o := o0.run ws
  have lo : (run ls ws).length = ls.length := run_len ws ls
  have jl : j < ws.length := by
    have := (List.getElem?_eq_some_iff.mp hj).1
    rw [prsOf_len] at this
    exact this
  have sp : ws = ws.take j ++ ws[j] :: ws.drop (j + 1) := by
    rw [← List.drop_eq_getElem_cons jl, List.take_append_drop]
  have er : ws.eraseIdx j = ws.take j ++ ws.drop (j + 1) :=
    List.eraseIdx_eq_take_drop_succ ws j
  have lt : (ws.take j).length = j := by rw [List.length_take]; omega
  have jx : ws[j] + 1 < ls.length := w.ixs _ (List.getElem_mem jl)
  generalize hu : ws.take j = us at sp er lt
  generalize hv : ws.drop (j + 1) = vs at sp er
  generalize ws[j] = m at sp jx
  have pj := prsOf_get us m vs ls
  rw [← sp, lt, hj] at pj
  have pe := Option.some.inj pj
  -- the order behind the other entries
  have o1 := o0.run us
  have l1 : (run ls us).length = ls.length := run_len us ls
  have e1 : run ls ws = run (exch (run ls us) m) vs := by
    rw [sp, run_app]
    rfl
  have eq : run ls (us ++ vs) = exch (run ls ws) i := by
    rw [run_app, exch_lab o.ndo (by omega)]
    have ea : (run ls ws).getD (i + 1) [] = (run ls us).getD m [] :=
      congrArg Prod.fst pe
    have eb : (run ls ws).getD i [] = (run ls us).getD (m + 1) [] :=
      congrArg Prod.snd pe
    rw [ea, eb, lab_comm, e1, ← run_lab]
    have : (exch (run ls us) m).map (lab ((run ls us).getD m [])
        ((run ls us).getD (m + 1) [])) = run ls us := by
      have x := exch_lab ((o1.exch m).ndo) (i := m) (by rw [exch_len]; omega)
      obtain ⟨g0, g1⟩ := exch_getD ([] : Nme) (xs := run ls us) (i := m)
        (by omega)
      rw [exch_exch, g0, g1, lab_comm] at x
      exact x.symm
    rw [this]
  rw [er]
  refine ⟨?_, eq⟩
  -- all of them go outward, by counting
  have r0 := Rep.nil nd
  have rw' := r0.word o0 w
  obtain ⟨mm, ri⟩ := rw'.inn o (by omega) ob
  have ix : Ixs ls.length (us ++ vs) := fun k hk => w.ixs k (by
    rw [sp]
    rcases List.mem_append.mp hk with z | z
    · exact List.mem_append_left _ z
    · exact List.mem_append_right _ (List.mem_cons_of_mem _ z))
  obtain ⟨U, ru, _, hU⟩ := r0.any o0 ix
  rw [eq] at ru
  have l2 := ru.len ri
  refine hU ?_
  rw [l2, List.length_erase_of_mem mm, List.nil_append, prsOf_len]
  have : ws.length = us.length + (vs.length + 1) := by
    rw [sp, List.length_append, List.length_cons]
  rw [List.length_append, List.length_nil]
  omega
end OM
namespace OM
open PySem PySem.Spec PyProof.Rows L2
/-- what a comprehension walks, whatever its turn does -/
theorem walkW {J : It} {n : Nat} {G : Hp → Prop}
    {Y : Nat → Hp → V → Hp → Prop} (wk : Walk J n G Y) {H0 : Hp}
    {Qd : Hp → Prop} {body : V → Hp → (Hp → Prop) → Prop}
    (Pv : Nat → Hp → Prop) (h0 : Pv 0 H0) (hG : ∀ i H, i ≤ n → Pv i H → G H)
    (hs : ∀ i x H H', i < n → Pv i H → Y i H x H' → body x H' (Pv (i + 1)))
    (hd : ∀ H, Pv n H → Qd H) :
    ∃ W : Nat → Nat → Hp → Prop, (∃ m, W 0 m H0) ∧
      ∀ i m H, W i m H → (J.stop i H ∧ Qd H) ∨ (J.go i H ∧
        ∃ Nx : Hp → Prop, (∀ H', Nx H' → ∃ m', m' < m ∧ W (i + 1) m' H') ∧
        ∀ x H', J.yld i H x H' → body x H' Nx) := by
  refine ⟨fun i m H => m + i = n ∧ Pv i H, ⟨n, rfl, h0⟩, ?_⟩
  rintro i m H ⟨e, p⟩
  have q := hG i H (by omega) p
  rcases Nat.lt_or_ge i n with lt | ge
  · exact .inr ⟨wk.goes i H lt q, Pv (i + 1),
      fun H' p' => ⟨m - 1, by omega, by omega, p'⟩,
      fun x H' y => hs i x H H' lt p (wk.yields i H x H' lt q y)⟩
  · have e' : i = n := by omega
    subst e'
    exact .inl ⟨wk.stops H q, hd H p⟩
/-! ### pairs of names -/
abbrev Pr := List Nat × List Nat
abbrev vT (p : Pr) : List V := [vS p.1, vS p.2]
def PrsAt (H : Hp) (rs : List Addr) (ps : List Pr) : Prop :=
  Paired (fun r p => H r = some (.tup (vT p))) rs ps
theorem PrsAt.same {H H' : Hp} : ∀ {rs : List Addr} {ps : List Pr},
    PrsAt H rs ps → Same H H' → PrsAt H' rs ps
  | _, _, .nil, _ => .nil
  | _, _, .cons h t, s => .cons (s _ _ h) (PrsAt.same t s)
theorem PrsAt.snoc {H : Hp} {r : Addr} {p : Pr} (h : H r = some (.tup (vT p))) :
    ∀ {rs : List Addr} {ps : List Pr}, PrsAt H rs ps →
      PrsAt H (rs ++ [r]) (ps ++ [p])
  | _, _, .nil => .cons h .nil
  | _, _, .cons a t => .cons a (PrsAt.snoc h t)
theorem PrsAt.app {H : Hp} {qs : List Addr} {us : List Pr}
    (h : PrsAt H qs us) : ∀ {rs : List Addr} {ps : List Pr}, PrsAt H rs ps →
      PrsAt H (rs ++ qs) (ps ++ us)
  | _, _, .nil => h
  | _, _, .cons a t => .cons a (PrsAt.app h t)
theorem PrsAt.len {H : Hp} : ∀ {rs : List Addr} {ps : List Pr},
    PrsAt H rs ps → rs.length = ps.length
  | _, _, .nil => rfl
  | _, _, .cons _ t => congrArg (· + 1) (PrsAt.len t)
abbrev dT (p : Pr) : PyData := .tuple [.str (SX.S p.1), .str (SX.S p.2)]
abbrev dP (ps : List Pr) : List PyData := ps.map dT
theorem dp_T {K : PySem.W.Frag} {H : Hp} {r : Addr} {p : Pr}
    (h : H r = some (.tup (vT p))) : Dp K H (.ref r) (dT p) :=
  .tup (SqT.of h) (.cons (.str _) (.cons (.str _) .nil))
theorem dpAll_P {K : PySem.W.Frag} {H : Hp} : ∀ {rs : List Addr}
    {ps : List Pr}, PrsAt H rs ps → DpAll K H (rs.map V.ref) (dP ps)
  | _, _, .nil => .nil
  | _, _, .cons h t => .cons (dp_T h) (dpAll_P t)
theorem dp_P {K : PySem.W.Frag} {H : Hp} {a : Addr} {rs : List Addr}
    {ps : List Pr} (h : SqL K H a (rs.map V.ref)) (p : PrsAt H rs ps) :
    Dp K H (.ref a) (.list (dP ps)) := .lst h (dpAll_P p)
theorem eqv_T (p q : Pr) : PyData.eqv (dT p) (dT q) = decide (p = q) := by
  obtain ⟨a, b⟩ := p
  obtain ⟨c, d⟩ := q
  show PyData.eqv (.tuple [.str (SX.S a), .str (SX.S b)])
    (.tuple [.str (SX.S c), .str (SX.S d)]) = _
  simp only [PyData.eqv, PyData.eqvAll, SX.S_beq_eq, Bool.and_true]
  by_cases e : a = c
  · by_cases f : b = d
    · subst e; subst f; simp
    · simp [e, f]
  · simp [e]
theorem eqv_PA : ∀ ps qs : List Pr,
    PyData.eqvAll (dP ps) (dP qs) = decide (ps = qs)
  | [], [] => by simp [PyData.eqvAll]
  | [], m :: ms => by simp [PyData.eqvAll]
  | l :: ls, [] => by simp [PyData.eqvAll]
  | l :: ls, m :: ms => by
    have ih := eqv_PA ls ms
    show (PyData.eqv (dT l) (dT m) && PyData.eqvAll (dP ls) (dP ms)) = _
    rw [ih, eqv_T]
    by_cases e : l = m
    · subst e
      simp
    · have : ¬ (l :: ls = m :: ms) := fun z => e (List.cons.inj z).1
      rw [decide_eq_false e, decide_eq_false this]
      rfl
theorem eqv_P (ps qs : List Pr) :
    PyData.eqv (.list (dP ps)) (.list (dP qs)) = decide (ps = qs) := by
  rw [show PyData.eqv (.list (dP ps)) (.list (dP qs)) =
    PyData.eqvAll (dP ps) (dP qs) by simp only [PyData.eqv]]
  exact eqv_PA ps qs
theorem any_P (q : Pr) : ∀ ps : List Pr,
    ((dP ps).any fun z => PyData.eqv z (dT q)) = decide (q ∈ ps)
  | [] => by simp
  | p :: ps => by
    have ih := any_P q ps
    rw [show dP (p :: ps) = dT p :: dP ps from rfl, List.any_cons, ih, eqv_T]
    by_cases e : p = q
    · subst e
      simp
    · have ne : ¬ q = p := fun z => e z.symm
      simp [e, ne]
/-- names in pairs -/
def UniP (ps : List Pr) : Prop := ∀ p ∈ ps,
  (p.1.length ≤ 8 ∧ ∀ c ∈ p.1, c < 1114112) ∧
  (p.2.length ≤ 8 ∧ ∀ c ∈ p.2, c < 1114112)
theorem strOkS {l : List Nat} (h : ∀ c ∈ l, c < 1114112) :
    PyData.strOk (SX.S l) = true := by
  unfold PyData.strOk
  rw [Array.all_eq_true]
  intro i hi
  have := h l.toArray[i] (by simp)
  exact decide_eq_true this
theorem lay_T {p : Pr} (h1 : ∀ c ∈ p.1, c < 1114112)
    (h2 : ∀ c ∈ p.2, c < 1114112) : PyData.canLay0 (dT p) = true := by
  simp only [PyData.canLay0, PyData.canLayAll0, strOkS h1, strOkS h2,
    Bool.and_self]
theorem lay_P : ∀ ps : List Pr, UniP ps → PyData.canLayAll0 (dP ps) = true
  | [], _ => by simp [PyData.canLayAll0]
  | p :: ps, h => by
    have ih := lay_P ps fun x hx => h x (List.mem_cons_of_mem _ hx)
    have hp := h p List.mem_cons_self
    show PyData.canLayAll0 (dT p :: dP ps) = true
    rw [show PyData.canLayAll0 (dT p :: dP ps) =
      (PyData.canLay0 (dT p) && PyData.canLayAll0 (dP ps)) by
        simp only [PyData.canLayAll0], ih, lay_T hp.1.2 hp.2.2]
    rfl
theorem depth_T (p : Pr) : (dT p).depth ≤ 2 := by
  simp only [PyData.depth, PyData.depthAll]
  omega
theorem depth_PA : ∀ ps : List Pr, PyData.depthAll (dP ps) ≤ 2
  | [] => by simp [PyData.depthAll]
  | p :: ps => by
    have ih := depth_PA ps
    have h := depth_T p
    show PyData.depthAll (dT p :: dP ps) ≤ 2
    rw [show PyData.depthAll (dT p :: dP ps) =
      max (dT p).depth (PyData.depthAll (dP ps)) by
        simp only [PyData.depthAll]]
    omega
theorem depth_P (ps : List Pr) : (PyData.list (dP ps)).depth ≤ 3 := by
  rw [show (PyData.list (dP ps)).depth = PyData.depthAll (dP ps) + 1 by
    simp only [PyData.depth]]
  have := depth_PA ps
  omega
theorem shaped_T {p : Pr} (h1 : ∀ c ∈ p.1, c < 1114112)
    (h2 : ∀ c ∈ p.2, c < 1114112) : SeqAt.shaped (dT p) = true := by
  unfold SeqAt.shaped
  rw [lay_T h1 h2]
  have := depth_T p
  exact decide_eq_true (by omega)
theorem shaped_P {ps : List Pr} (h : UniP ps) :
    SeqAt.shaped (.list (dP ps)) = true := by
  unfold SeqAt.shaped
  rw [show PyData.canLay0 (.list (dP ps)) = PyData.canLayAll0 (dP ps) by
    simp only [PyData.canLay0], lay_P ps h]
  have := depth_P ps
  exact decide_eq_true (by omega)
theorem showable_P : ∀ ps : List Pr, PyData.showableAll (dP ps) = true
  | [] => by simp [PyData.showableAll]
  | p :: ps => by
    have ih := showable_P ps
    show PyData.showableAll (dT p :: dP ps) = true
    simp only [PyData.showableAll, PyData.showable, ih, Bool.and_self]
theorem showable_PL (ps : List Pr) : (PyData.list (dP ps)).showable = true := by
  rw [show (PyData.list (dP ps)).showable = PyData.showableAll (dP ps) by
    simp only [PyData.showable]]
  exact showable_P ps
theorem shown_T {p : Pr} (h1 : p.1.length ≤ 8 ∧ ∀ c ∈ p.1, c < 1114112)
    (h2 : p.2.length ≤ 8 ∧ ∀ c ∈ p.2, c < 1114112) :
    (dT p).shown.length ≤ 200 := by
  have e : (dT p).shown = tupleText [reprText (SX.S p.1),
    reprText (SX.S p.2)] := by simp only [PyData.shown, PyData.shownAll]
  rw [e]
  have t := fmt_text [reprText (SX.S p.1), reprText (SX.S p.2)]
  rw [piled_cons, piled_cons, piled_nil] at t
  have a := StrLaws.reprText_len (SX.S p.1) (fun c hc => Nat.lt_of_lt_of_le
    (h1.2 c hc) (by decide))
  have b := StrLaws.reprText_len (SX.S p.2) (fun c hc => Nat.lt_of_lt_of_le
    (h2.2 c hc) (by decide))
  have c : (SX.S p.1).length = p.1.length := SX.S_len _
  have d : (SX.S p.2).length = p.2.length := SX.S_len _
  rw [c] at a
  rw [d] at b
  omega
theorem shown_PA : ∀ (ps : List Pr), UniP ps →
    piled (PyData.shownAll (dP ps)) ≤ ps.length * 202
  | [], _ => by
    show piled (PyData.shownAll []) ≤ _
    simp only [PyData.shownAll]
    exact Nat.zero_le _
  | p :: ps, h => by
    have ih := shown_PA ps fun x hx => h x (List.mem_cons_of_mem _ hx)
    have hp := h p List.mem_cons_self
    have t := shown_T hp.1 hp.2
    show piled (PyData.shownAll (dT p :: dP ps)) ≤ _
    rw [show PyData.shownAll (dT p :: dP ps) =
      (dT p).shown :: PyData.shownAll (dP ps) by simp only [PyData.shownAll],
      piled_cons, List.length_cons, Nat.add_mul]
    omega
theorem shown_P {ps : List Pr} (h : UniP ps) (hn : ps.length ≤ 2000) :
    (PyData.list (dP ps)).shown.length ≤ sizeLine := by
  have p := shown_PA ps h
  have e : (PyData.list (dP ps)).shown =
      listText (PyData.shownAll (dP ps)) := by simp only [PyData.shown]
  rw [e]
  have q := listText_len_le (PyData.shownAll (dP ps))
  have r : ((PyData.shownAll (dP ps)).map (·.length)).sum +
      2 * (PyData.shownAll (dP ps)).length =
      piled (PyData.shownAll (dP ps)) := by
    generalize PyData.shownAll (dP ps) = ts
    induction ts with
    | nil => rfl
    | cons t ts ih =>
      rw [piled_cons, List.map_cons, List.sum_cons, List.length_cons]
      omega
  refine Nat.le_trans (show _ ≤ 404003 by omega) (by decide)
/-! ### the inverted pairs -/
def invF (os : List (List Nat)) (f : List Nat) (r : List (List Nat)) :
    List Pr :=
  (r.filter fun s => decide (os.idxOf s < os.idxOf f)).map fun s => (f, s)
def invTo (ls os : List (List Nat)) : Nat → List Pr
  | 0 => []
  | i + 1 => invTo ls os i ++ match ls[i]? with
    | some f => invF os f (ls.drop (i + 1))
    | none => []
def invAll (ls os : List (List Nat)) : List Pr := invTo ls os ls.length
theorem invF_mem {os : List (List Nat)} {f : List Nat} {r : List (List Nat)}
    {p : Pr} : p ∈ invF os f r ↔ p.1 = f ∧ p.2 ∈ r ∧
      os.idxOf p.2 < os.idxOf f := by
  unfold invF
  obtain ⟨a, b⟩ := p
  simp only [List.mem_map, List.mem_filter, decide_eq_true_eq, Prod.mk.injEq]
  constructor
  · rintro ⟨x, ⟨h1, h2⟩, rfl, rfl⟩
    exact ⟨rfl, h1, h2⟩
  · rintro ⟨rfl, h1, h2⟩
    exact ⟨b, ⟨h1, h2⟩, rfl, rfl⟩
theorem invTo_mem {ls os : List (List Nat)} {p : Pr} : ∀ {i : Nat},
    p ∈ invTo ls os i ↔ ∃ j < i, ls[j]? = some p.1 ∧ p.2 ∈ ls.drop (j + 1) ∧
      os.idxOf p.2 < os.idxOf p.1
  | 0 => by simp [invTo]
  | i + 1 => by
    have ih := invTo_mem (ls := ls) (os := os) (p := p) (i := i)
    show p ∈ invTo ls os i ++ _ ↔ _
    rw [List.mem_append, ih]
    constructor
    · rintro (⟨j, hj, h⟩ | h)
      · exact ⟨j, by omega, h⟩
      · cases e : ls[i]? with
        | none => rw [e] at h; cases h
        | some f =>
          rw [e] at h
          obtain ⟨h1, h2, h3⟩ := invF_mem.mp h
          exact ⟨i, by omega, by rw [h1]; exact e, h2, by rw [h1]; exact h3⟩
    · rintro ⟨j, hj, h1, h2, h3⟩
      by_cases e : j = i
      · subst e
        refine .inr ?_
        rw [h1]
        exact invF_mem.mpr ⟨rfl, h2, h3⟩
      · exact .inl ⟨j, by omega, h1, h2, h3⟩
theorem invF_len (os : List (List Nat)) (f : List Nat) (r : List (List Nat)) :
    (invF os f r).length ≤ r.length := by
  unfold invF
  rw [List.length_map]
  exact List.length_filter_le _ _
theorem invTo_len (ls os : List (List Nat)) : ∀ i, i ≤ ls.length →
    (invTo ls os i).length ≤ i * ls.length
  | 0, _ => Nat.zero_le _
  | i + 1, h => by
    have ih := invTo_len ls os i (by omega)
    show (invTo ls os i ++ _).length ≤ _
    rw [List.length_append, Nat.add_mul]
    have : (match ls[i]? with
      | some f => invF os f (ls.drop (i + 1))
      | none => []).length ≤ ls.length := by
      cases ls[i]? with
      | none => exact Nat.zero_le _
      | some f =>
        refine Nat.le_trans (invF_len _ _ _) ?_
        rw [List.length_drop]
        omega
    omega
end OM
namespace OM
open PySem PySem.Spec PyProof.Rows L2
/-! ### o.m(e, .., k = v, ..) -/
def tMethK (C : Addr) (m : Str) (sp : Sp) (gV : List V → List V → List V)
    (E : XK) (ta : TE) (t tk : TA) : TE := fun σ H Q => ta σ H fun x H1 =>
  ∃ a dx fs, x = .ref a ∧ H1 a = some (.ins C dx fs) ∧ fs.lookup m = none ∧
    t σ H1 fun vs H2 => tk σ H2 fun zs H3 => sp (gV (x :: vs) zs) H3 Q E
section
variable {X : Cx} {CX : CXT} {k : Nat} {f C : Addr} {fd : FuncData}
  {ps ks : List Str} {sp : Sp} {E : XK} {m : Str} {apos pos : Pos}
  {o e : Expr} {es : List Expr} {kws : List Keyword} {ta : TE} {t tk : TA}
  {g : List Value → List Value → List Value} {gV : List V → List V → List V}
theorem pe_methK {pl : Sem Bool} (he : PE X o ta) (c : Cls X.K C)
    (hm : Meth X.K C m f)
    (F : FnOk X.prog X.w X.K X.mg X.base CX k f fd ps sp) (hr : Room k X.A)
    (hb : KBinds X.K fd ps ks g gV) (hx : Passes CX X E)
    (ha : PA X (e :: es) t) (hkw : PK X kws tk)
    (hall : (backToKw pos (keywordEach kws X.env)).all (·.1.isSome) = true
      := by rfl)
    (hks : (backToKw pos (keywordEach kws X.env)).filterMap (·.1) = ks
      := by rfl)
    (hst : starEach (e :: es) X.env = (false, eval e X.env) ::
      starEach es X.env := by rfl)
    (hpl : ((backTo pos (starEach (e :: es) X.env)).any (·.1) ||
      (backToKw pos (keywordEach kws X.env)).any (·.1.isNone)) = false
      := by rfl)
    (ht : eval (.Call (.Attribute o m apos) (e :: es) kws pos) X.env = (do
      let ov ← eval o X.env
      standAt apos.atName
      let (f, first) ← holding [ov] (getMethod ov m pl)
      callWith pos f first (backTo pos (starEach (e :: es) X.env))
        (backToKw pos (keywordEach kws X.env))) := by rfl) :
    PE X (.Call (.Attribute o m apos) (e :: es) kws pos)
      (tMethK C m sp gV E ta t tk) := by
  refine ⟨fun pins s σ H Q I h => ?_⟩
  refine PySem.W.methodCall_KW (pl := pl) (thn (he.run pins s σ H _ I h)
    fun u s1 ⟨x, H1, I1, rx, a, dx, fs, ex, ea, l, q⟩ => ?_) ht
  subst ex
  obtain rfl : u = Value.ref a := rx
  refine getmeth_ok I1 ea c hm l ?_
  refine PySem.W.callWith_KW (first := [.ref a]) (h₀ := X.base) I.ok.mod.kin
    hm.kp hall (thn (ha.run pos pins s1 σ H1 _ I1 q)
      fun us s2 ⟨vs, H2, I2, r, q2⟩ => ?_) hpl hst
  refine thn (hkw.run pos pins s2 σ H2 _ I2 q2)
    fun ws s3 ⟨zs, H3, I3, rz, q3⟩ => ⟨I3.kIn, ?_⟩
  rw [hks]
  exact run_fnk (us := .ref a :: us) (vs := .ref a :: vs) F hr hb hx I3
    (.cons rfl r) rz q3
end
/-! ### a method whose last parameter is given by its name -/
def kwG {α : Type} (n : Nat) (us ws : List α) : List α :=
  if us.length = n ∧ ws.length = 1 then us ++ ws else []
theorem kw_rel {n : Nat} {vs zs : List V} {us ws : List Value}
    (a : Vals vs us) (b : Vals zs ws) : Vals (kwG n vs zs) (kwG n us ws) := by
  unfold kwG
  rw [a.length, b.length]
  split
  · exact a.append b
  · exact .nil
structure CalMK (P : Program) (w : World) (K : PySem.W.Frag)
    (mg : Str → Option Value) (base : Heap) (C : Addr) (k : Nat) (x kw : Str)
    (n : Nat) (ps : List Str) (sp : Sp) : Prop where
  cl : Cls K C
  ex : ∃ f fd, FnOk P w K mg base CX0 k f fd ps sp ∧ Meth K C x f ∧
    KBinds K fd ps [kw] (kwG n) (kwG n)
section
variable {X : Cx} {k n : Nat} {ps : List Str} {sp : Sp} {x kw : Str} {C : Addr}
  {p pos : Pos} {o e : Expr} {es : List Expr} {t tk : TA} {to : TE}
  {kws : List Keyword}
theorem pe_calMK {pl : Sem Bool}
    (M : CalMK X.prog X.w X.K X.mg X.base C k x kw n ps sp)
    (room : Room k X.A) (ho : PE X o to) (ha : PA X (e :: es) t)
    (hk : PK X kws tk)
    (hall : (backToKw pos (keywordEach kws X.env)).all (·.1.isSome) = true
      := by rfl)
    (hks : (backToKw pos (keywordEach kws X.env)).filterMap (·.1) = [kw]
      := by rfl)
    (hst : starEach (e :: es) X.env = (false, eval e X.env) ::
      starEach es X.env := by rfl)
    (hpl : ((backTo pos (starEach (e :: es) X.env)).any (·.1) ||
      (backToKw pos (keywordEach kws X.env)).any (·.1.isNone)) = false
      := by rfl)
    (ht : eval (.Call (.Attribute o x p) (e :: es) kws pos) X.env = (do
      let ov ← eval o X.env
      standAt p.atName
      let (f, first) ← holding [ov] (getMethod ov x pl)
      callWith pos f first (backTo pos (starEach (e :: es) X.env))
        (backToKw pos (keywordEach kws X.env))) := by rfl) :
    PE X (.Call (.Attribute o x p) (e :: es) kws pos)
      (tMethK C x sp (kwG n) E0 to t tk) := by
  obtain ⟨f, fd, F, m, b⟩ := M.ex
  exact pe_methK (pl := pl) ho M.cl m F room b pass0 ha hk hall hks hst hpl ht
end
/-! ### entries -/
abbrev En := Nat × List Nat
abbrev vE (e : En) : List V := [.int e.1, vS e.2]
def EnsAt (H : Hp) (rs : List Addr) (es : List En) : Prop :=
  Paired (fun r e => H r = some (.tup (vE e))) rs es
theorem EnsAt.same {H H' : Hp} : ∀ {rs : List Addr} {es : List En},
    EnsAt H rs es → Same H H' → EnsAt H' rs es
  | _, _, .nil, _ => .nil
  | _, _, .cons h t, s => .cons (s _ _ h) (EnsAt.same t s)
/-- entries stand where tuples stay -/
theorem EnsAt.keep {H H' : Hp} (k : ∀ a xs, H a = some (.tup xs) →
    H' a = some (.tup xs)) : ∀ {rs : List Addr} {es : List En},
    EnsAt H rs es → EnsAt H' rs es
  | _, _, .nil => .nil
  | _, _, .cons h t => .cons (k _ _ h) (EnsAt.keep k t)
theorem EnsAt.snoc {H : Hp} {r : Addr} {e : En}
    (h : H r = some (.tup (vE e))) :
    ∀ {rs : List Addr} {es : List En}, EnsAt H rs es →
      EnsAt H (rs ++ [r]) (es ++ [e])
  | _, _, .nil => .cons h .nil
  | _, _, .cons a t => .cons a (EnsAt.snoc h t)
theorem EnsAt.app {H : Hp} {qs : List Addr} {us : List En}
    (h : EnsAt H qs us) : ∀ {rs : List Addr} {es : List En}, EnsAt H rs es →
      EnsAt H (rs ++ qs) (es ++ us)
  | _, _, .nil => h
  | _, _, .cons a t => .cons a (EnsAt.app h t)
theorem EnsAt.len {H : Hp} : ∀ {rs : List Addr} {es : List En},
    EnsAt H rs es → rs.length = es.length
  | _, _, .nil => rfl
  | _, _, .cons _ t => congrArg (· + 1) (EnsAt.len t)
theorem EnsAt.take {H : Hp} : ∀ {rs : List Addr} {es : List En} (n : Nat),
    EnsAt H rs es → EnsAt H (rs.take n) (es.take n)
  | _, _, 0, _ => .nil
  | _, _, _ + 1, .nil => .nil
  | _, _, n + 1, .cons h t => .cons h (EnsAt.take n t)
theorem EnsAt.drop {H : Hp} : ∀ {rs : List Addr} {es : List En} (n : Nat),
    EnsAt H rs es → EnsAt H (rs.drop n) (es.drop n)
  | _, _, 0, h => h
  | _, _, _ + 1, .nil => .nil
  | _, _, n + 1, .cons _ t => EnsAt.drop n t
theorem EnsAt.erase {H : Hp} : ∀ {rs : List Addr} {es : List En} (n : Nat),
    EnsAt H rs es → EnsAt H (rs.eraseIdx n) (es.eraseIdx n)
  | _, _, _, .nil => .nil
  | _, _, 0, .cons _ t => t
  | _, _, n + 1, .cons h t => .cons h (EnsAt.erase n t)
theorem EnsAt.get {H : Hp} : ∀ {rs : List Addr} {es : List En} {i : Nat}
    {e : En}, EnsAt H rs es → es[i]? = some e →
    ∃ r, rs[i]? = some r ∧ H r = some (.tup (vE e))
  | _, _, _, _, .nil, h => by simp at h
  | _, _, 0, _, .cons h _, e => by cases e; exact ⟨_, rfl, h⟩
  | _, _, n + 1, _, .cons _ t, e => EnsAt.get (i := n) t (by simpa using e)
theorem PrsAt.get {H : Hp} : ∀ {rs : List Addr} {es : List Pr} {i : Nat}
    {e : Pr}, PrsAt H rs es → es[i]? = some e →
    ∃ r, rs[i]? = some r ∧ H r = some (.tup (vT e))
  | _, _, _, _, .nil, h => by simp at h
  | _, _, 0, _, .cons h _, e => by cases e; exact ⟨_, rfl, h⟩
  | _, _, n + 1, _, .cons _ t, e => PrsAt.get (i := n) t (by simpa using e)
abbrev dE (e : En) : PyData := .tuple [.int (e.1 : Int), .str (SX.S e.2)]
abbrev dEs (es : List En) : List PyData := es.map dE
theorem dp_E {K : PySem.W.Frag} {H : Hp} {r : Addr} {e : En}
    (h : H r = some (.tup (vE e))) : Dp K H (.ref r) (dE e) :=
  .tup (SqT.of h) (.cons (.int _) (.cons (.str _) .nil))
theorem dpAll_E {K : PySem.W.Frag} {H : Hp} : ∀ {rs : List Addr}
    {es : List En}, EnsAt H rs es → DpAll K H (rs.map V.ref) (dEs es)
  | _, _, .nil => .nil
  | _, _, .cons h t => .cons (dp_E h) (dpAll_E t)
theorem dp_Es {K : PySem.W.Frag} {H : Hp} {a : Addr} {rs : List Addr}
    {es : List En} (h : SqL K H a (rs.map V.ref)) (p : EnsAt H rs es) :
    Dp K H (.ref a) (.list (dEs es)) := .lst h (dpAll_E p)
theorem eqv_E1 (p q : En) : PyData.eqv (dE p) (dE q) = decide (p = q) := by
  obtain ⟨a, b⟩ := p
  obtain ⟨c, d⟩ := q
  show PyData.eqv (.tuple [.int (a : Int), .str (SX.S b)])
    (.tuple [.int (c : Int), .str (SX.S d)]) = _
  simp only [PyData.eqv, PyData.eqvAll, SX.S_beq_eq, Bool.and_true]
  by_cases e : a = c
  · by_cases f : b = d
    · subst e; subst f; simp
    · simp [e, f]
  · have : ¬ ((a : Int) = (c : Int)) := by omega
    simp [e, this]
theorem eqv_EA : ∀ ps qs : List En,
    PyData.eqvAll (dEs ps) (dEs qs) = decide (ps = qs)
  | [], [] => by simp [PyData.eqvAll]
  | [], m :: ms => by simp [PyData.eqvAll]
  | l :: ls, [] => by simp [PyData.eqvAll]
  | l :: ls, m :: ms => by
    have ih := eqv_EA ls ms
    show (PyData.eqv (dE l) (dE m) && PyData.eqvAll (dEs ls) (dEs ms)) = _
    rw [ih, eqv_E1]
    by_cases e : l = m
    · subst e
      simp
    · have : ¬ (l :: ls = m :: ms) := fun z => e (List.cons.inj z).1
      rw [decide_eq_false e, decide_eq_false this]
      rfl
theorem eqv_E (ps qs : List En) :
    PyData.eqv (.list (dEs ps)) (.list (dEs qs)) = decide (ps = qs) := by
  rw [show PyData.eqv (.list (dEs ps)) (.list (dEs qs)) =
    PyData.eqvAll (dEs ps) (dEs qs) by simp only [PyData.eqv]]
  exact eqv_EA ps qs
/-- small indexes, short reasons -/
def SmE (es : List En) : Prop := ∀ e ∈ es, e.1 < 64 ∧ e.2.length ≤ 8 ∧
  ∀ c ∈ e.2, c < 1114112
theorem SmE.app {a b : List En} (x : SmE a) (y : SmE b) : SmE (a ++ b) :=
  fun e h => (List.mem_append.mp h).elim (x e) (y e)
theorem SmE.erase {a : List En} (x : SmE a) (j : Nat) : SmE (a.eraseIdx j) :=
  fun e h => x e (List.mem_of_mem_eraseIdx h)
theorem int64 : ∀ i : Fin 64, (PyData.int (i.val : Int)).showable = true ∧
    (PyData.int (i.val : Int)).shown.length ≤ 5 := by decide +kernel
theorem lay_E {e : En} (h : ∀ c ∈ e.2, c < 1114112) :
    PyData.canLay0 (dE e) = true := by
  simp only [PyData.canLay0, PyData.canLayAll0, strOkS h, Bool.and_self]
theorem lay_Es : ∀ es : List En, SmE es → PyData.canLayAll0 (dEs es) = true
  | [], _ => by simp [PyData.canLayAll0]
  | p :: ps, h => by
    have ih := lay_Es ps fun x hx => h x (List.mem_cons_of_mem _ hx)
    have hp := h p List.mem_cons_self
    show PyData.canLayAll0 (dE p :: dEs ps) = true
    rw [show PyData.canLayAll0 (dE p :: dEs ps) =
      (PyData.canLay0 (dE p) && PyData.canLayAll0 (dEs ps)) by
        simp only [PyData.canLayAll0], ih, lay_E hp.2.2]
    rfl
theorem depth_E1 (p : En) : (dE p).depth ≤ 2 := by
  simp only [PyData.depth, PyData.depthAll]
  omega
theorem depth_EA : ∀ ps : List En, PyData.depthAll (dEs ps) ≤ 2
  | [] => by simp [PyData.depthAll]
  | p :: ps => by
    have ih := depth_EA ps
    have h := depth_E1 p
    show PyData.depthAll (dE p :: dEs ps) ≤ 2
    rw [show PyData.depthAll (dE p :: dEs ps) =
      max (dE p).depth (PyData.depthAll (dEs ps)) by
        simp only [PyData.depthAll]]
    omega
theorem depth_E (ps : List En) : (PyData.list (dEs ps)).depth ≤ 3 := by
  rw [show (PyData.list (dEs ps)).depth = PyData.depthAll (dEs ps) + 1 by
    simp only [PyData.depth]]
  have := depth_EA ps
  omega
theorem shaped_E {ps : List En} (h : SmE ps) :
    SeqAt.shaped (.list (dEs ps)) = true := by
  unfold SeqAt.shaped
  rw [show PyData.canLay0 (.list (dEs ps)) = PyData.canLayAll0 (dEs ps) by
    simp only [PyData.canLay0], lay_Es ps h]
  have := depth_E ps
  exact decide_eq_true (by omega)
theorem showable_EA : ∀ ps : List En, SmE ps →
    PyData.showableAll (dEs ps) = true
  | [], _ => by simp [PyData.showableAll]
  | p :: ps, h => by
    have ih := showable_EA ps fun x hx => h x (List.mem_cons_of_mem _ hx)
    have hp := (int64 ⟨p.1, (h p List.mem_cons_self).1⟩).1
    show PyData.showableAll (dE p :: dEs ps) = true
    simp only [PyData.showableAll, PyData.showable, ih, Bool.and_true]
    simpa only [PyData.showable] using hp
theorem showable_E {ps : List En} (h : SmE ps) :
    (PyData.list (dEs ps)).showable = true := by
  rw [show (PyData.list (dEs ps)).showable = PyData.showableAll (dEs ps) by
    simp only [PyData.showable]]
  exact showable_EA ps h
theorem shown_E1 {p : En} (h0 : p.1 < 64)
    (h1 : p.2.length ≤ 8 ∧ ∀ c ∈ p.2, c < 1114112) :
    (dE p).shown.length ≤ 200 := by
  have e : (dE p).shown = tupleText [(PyData.int (p.1 : Int)).shown,
    reprText (SX.S p.2)] := by simp only [PyData.shown, PyData.shownAll]
  rw [e]
  have t := fmt_text [(PyData.int (p.1 : Int)).shown, reprText (SX.S p.2)]
  rw [piled_cons, piled_cons, piled_nil] at t
  have a := (int64 ⟨p.1, h0⟩).2
  have b := StrLaws.reprText_len (SX.S p.2) (fun c hc => Nat.lt_of_lt_of_le
    (h1.2 c hc) (by decide))
  have d : (SX.S p.2).length = p.2.length := SX.S_len _
  rw [d] at b
  have a' : (PyData.int (p.1 : Int)).shown.length ≤ 5 := a
  omega
theorem shown_EA : ∀ (ps : List En), SmE ps →
    piled (PyData.shownAll (dEs ps)) ≤ ps.length * 202
  | [], _ => by
    show piled (PyData.shownAll []) ≤ _
    simp only [PyData.shownAll]
    exact Nat.zero_le _
  | p :: ps, h => by
    have ih := shown_EA ps fun x hx => h x (List.mem_cons_of_mem _ hx)
    have hp := h p List.mem_cons_self
    have t := shown_E1 hp.1 hp.2
    show piled (PyData.shownAll (dE p :: dEs ps)) ≤ _
    rw [show PyData.shownAll (dE p :: dEs ps) =
      (dE p).shown :: PyData.shownAll (dEs ps) by simp only [PyData.shownAll],
      piled_cons, List.length_cons, Nat.add_mul]
    omega
theorem shown_E {ps : List En} (h : SmE ps) (hn : ps.length ≤ 2000) :
    (PyData.list (dEs ps)).shown.length ≤ sizeLine := by
  have p := shown_EA ps h
  have e : (PyData.list (dEs ps)).shown =
      listText (PyData.shownAll (dEs ps)) := by simp only [PyData.shown]
  rw [e]
  have q := listText_len_le (PyData.shownAll (dEs ps))
  have r : ((PyData.shownAll (dEs ps)).map (·.length)).sum +
      2 * (PyData.shownAll (dEs ps)).length =
      piled (PyData.shownAll (dEs ps)) := by
    generalize PyData.shownAll (dEs ps) = ts
    induction ts with
    | nil => rfl
    | cons t ts ih =>
      rw [piled_cons, List.map_cons, List.sum_cons, List.length_cons]
      omega
  refine Nat.le_trans (show _ ≤ 404003 by omega) (by decide)
end OM
namespace OM
open PySem PySem.Spec PyProof.Rows L2
/-! ### sorted(xs), xs a list of pairs of texts -/
theorem ll_ir (a : List Nat) : ¬ a < a := List.lt_irrefl a
theorem ll_tr {a b c : List Nat} (h : a < b) (k : b < c) : a < c :=
  List.lt_trans h k
theorem ll_3 : ∀ a b : List Nat, a < b ∨ a = b ∨ b < a
  | [], [] => .inr (.inl rfl)
  | [], _ :: _ => .inl (List.nil_lt_cons _ _)
  | _ :: _, [] => .inr (.inr (List.nil_lt_cons _ _))
  | x :: a, y :: b => by
    rw [List.cons_lt_cons_iff, List.cons_lt_cons_iff]
    rcases Nat.lt_trichotomy x y with h | h | h
    · exact .inl (.inl h)
    · subst h
      rcases ll_3 a b with k | k | k
      · exact .inl (.inr ⟨rfl, k⟩)
      · rw [k]; exact .inr (.inl rfl)
      · exact .inr (.inr (.inr ⟨rfl, k⟩))
    · exact .inr (.inr (.inl h))
/-- by the first of two texts, then by the second -/
def lexS (p q : Pr) : Bool :=
  if p.1 = q.1 then decide (p.2 < q.2) else decide (p.1 < q.1)
theorem lexS_iff {p q : Pr} : lexS p q = true ↔
    p.1 < q.1 ∨ (p.1 = q.1 ∧ p.2 < q.2) := by
  unfold lexS
  by_cases e : p.1 = q.1
  · rw [if_pos e, decide_eq_true_eq]
    refine ⟨fun h => .inr ⟨e, h⟩, fun h => ?_⟩
    rcases h with h | h
    · rw [e] at h
      exact absurd h (ll_ir _)
    · exact h.2
  · rw [if_neg e, decide_eq_true_eq]
    refine ⟨fun h => .inl h, fun h => ?_⟩
    rcases h with h | h
    · exact h
    · exact absurd h.1 e
theorem lexS_no {p q : Pr} : lexS p q = false ↔
    ¬ (p.1 < q.1 ∨ (p.1 = q.1 ∧ p.2 < q.2)) := by
  rw [← lexS_iff]
  cases lexS p q <;> simp
theorem lexS_tot {p q : Pr} (h : lexS p q = false) (k : lexS q p = false) :
    p = q := by
  have a := lexS_no.mp h
  have b := lexS_no.mp k
  have e1 : p.1 = q.1 := by
    rcases ll_3 p.1 q.1 with z | z | z
    · exact absurd (.inl z) a
    · exact z
    · exact absurd (.inl z) b
  have e2 : p.2 = q.2 := by
    rcases ll_3 p.2 q.2 with z | z | z
    · exact absurd (.inr ⟨e1, z⟩) a
    · exact z
    · exact absurd (.inr ⟨e1.symm, z⟩) b
  exact Prod.ext e1 e2
theorem lexS_asym {p q : Pr} (h : lexS p q = true) : lexS q p = false := by
  have a := lexS_iff.mp h
  refine lexS_no.mpr fun b => ?_
  rcases a with a | ⟨e, a⟩
  · rcases b with b | ⟨e, b⟩
    · exact ll_ir _ (ll_tr a b)
    · rw [e] at a; exact ll_ir _ a
  · rcases b with b | ⟨_, b⟩
    · rw [e] at b; exact ll_ir _ b
    · exact ll_ir _ (ll_tr a b)
theorem lexS_tr {p q r : Pr} (h : lexS p q = true) (k : lexS q r = true) :
    lexS p r = true := by
  have a := lexS_iff.mp h
  have b := lexS_iff.mp k
  refine lexS_iff.mpr ?_
  rcases a with a | ⟨e, a⟩
  · rcases b with b | ⟨f, b⟩
    · exact .inl (ll_tr a b)
    · exact .inl (f ▸ a)
  · rcases b with b | ⟨f, b⟩
    · exact .inl (e ▸ b)
    · exact .inr ⟨e.trans f, ll_tr a b⟩
theorem lexS_ntr {p q r : Pr} (h : lexS p q = false) (k : lexS q r = false) :
    lexS p r = false := by
  cases z : lexS p r with
  | false => rfl
  | true =>
    exfalso
    cases a : lexS q p with
    | true =>
      have := lexS_tr a z
      rw [k] at this
      cases this
    | false =>
      have e := lexS_tot h a
      subst e
      rw [z] at k
      cases k
theorem swoS {α : Type} (k : α → Pr) :
    SrtO.Swo fun v u => lexS (k v) (k u) :=
  ⟨fun _ _ h => lexS_asym h, fun _ _ _ h1 h2 => lexS_ntr h2 h1⟩
def IsPairS (h : Heap) (v : Value) (p : Pr) : Prop := ∃ a o t u n,
  v = .ref a ∧ h.get? a = some o ∧ o.cls = .type "tuple" ∧
  o.data = .seq #[.str (SX.S p.1) t, .str (SX.S p.2) u] n
theorem IsPairS.keeps {h h' : Heap} {v : Value} {p : Pr} (x : IsPairS h v p)
    (k : ∀ b o, h.get? b = some o → o.cls = .type "tuple" →
      h'.get? b = some o) : IsPairS h' v p :=
  have ⟨r, ob, i, j, m, ev, at_, cl, parts⟩ := x
  ⟨r, ob, i, j, m, ev, k r ob at_ cl, cl, parts⟩
section
variable {prog : Program} {w : World} {A : Around} {s : Shared}
  {E : Value → Shared → Prop}
/-- two pairs of texts are compared by the first, then by the second -/
theorem lt_pairs {v v' : Value} {p p' : Pr} (h1 : IsPairS s.heap v p)
    (h2 : IsPairS s.heap v' p') :
    wpAny (model prog w) A (keyLt' (tuples' true) v v')
      (fun r s' => s' = s ∧ r = lexS p p') (fun _ _ => False) s := by
  obtain ⟨f, g⟩ := p
  obtain ⟨f', g'⟩ := p'
  obtain ⟨r, ob, i, j, m, rfl, at1, _, d1⟩ := h1
  obtain ⟨r', ob', i', j', m', rfl, at2, _, d2⟩ := h2
  have due : lexS (f, g) (f', g') =
    if f = f' then decide (g < g') else decide (f < f') := rfl
  refine PySem.W.kat_lt at1 d1 at2 d2 ?_
  show PySem.W.KatLex prog w A true (decide (2 < 2)) _
    [(.str (SX.S f) i, .str (SX.S f') i'),
      (.str (SX.S g) j, .str (SX.S g') j')] 0 s
  refine PySem.W.kat_cons (SeqAt.EqAt.str_str _ i _ i' prog w _ _ ?_)
  rw [SX.S_beq_eq]
  refine PySem.W.kat_go (fun same => PySem.W.kat_yes ?_) fun apart => ?_
  · rw [due, if_pos (of_decide_eq_true same)]
    refine PySem.W.kat_cons (SeqAt.EqAt.str_str _ j _ j' prog w _ _ ?_)
    rw [SX.S_beq_eq]
    refine PySem.W.kat_go (fun both => PySem.W.kat_yes ?_) fun sec => ?_
    · have z : decide (g < g') = false := by
        rw [of_decide_eq_true both]
        exact decide_eq_false (ll_ir _)
      rw [z]
      exact PySem.W.kat_nil ⟨rfl, rfl⟩
    · exact PySem.W.kat_no (PySem.W.kat_one _ _ (PyProof.Rows.lt_str
        ⟨rfl, rfl⟩))
  · rw [due, if_neg (of_decide_eq_false apart)]
    exact PySem.W.kat_no (oneLt_str ⟨rfl, rfl⟩)
theorem pair_cmpS {vs : List Value} {k : Value → Pr}
    (hp : ∀ v ∈ vs, IsPairS s.heap v (k v)) :
    SrtO.Cmp prog w A s (tuples' true) (fun p => p.1 ∈ vs)
      (SrtO.lt2 fun v u => lexS (k v) (k u)) :=
  fun _ _ m1 m2 => lt_pairs (hp _ m1) (hp _ m2)
theorem firstsS {h : Heap} : ∀ {vs : List Value},
    (∀ v ∈ vs, ∃ p, IsPairS h v p) → ∃ fs : List Value,
    PySem.W.KatTups h vs fs ∧ fs.length = vs.length ∧
    ∀ f ∈ fs, ∃ x t, f = Value.str x t
  | [], _ => ⟨[], .nil, rfl, nofun⟩
  | v :: vs, hp => by
    have ⟨p, r, ob, i, _, _, ev, at_, cl, parts⟩ := hp v List.mem_cons_self
    have ⟨fs, tups, len, txt⟩ := firstsS (vs := vs) fun x m =>
      hp x (List.mem_cons_of_mem _ m)
    cases ev
    exact ⟨.str (SX.S p.1) i :: fs, .cons at_ cl parts rfl tups,
      congrArg (· + 1) len, fun f m => (List.mem_cons.mp m).elim
        (fun e => ⟨_, _, e⟩) (txt f)⟩
theorem sortableS {a : Addr} {vs : List Value} {k : Value → Pr}
    (h0 : 0 < vs.length) (hp : ∀ v ∈ vs, IsPairS s.heap v (k v))
    (ha : ∀ o, s.heap.get? a = some o → o.cls ≠ .type "tuple") :
    SrtO.SortableO prog w A s a vs fun v u => lexS (k v) (k u) := by
  intro h' keep
  have hp' : ∀ v ∈ vs, IsPairS h' v (k v) := fun v hm => (hp v hm).keeps
    fun b o e c => keep b o (fun z => by subst z; exact ha o e c) e
  obtain ⟨fs, h1, h2, h3⟩ := firstsS fun v hm => ⟨_, hp' v hm⟩
  refine ⟨tuples' true, fun Q E hq => ?_, pair_cmpS hp'⟩
  refine PySem.W.kat_kind (T := .type "str") h1 (by omega) (fun f hm => ?_)
    (by rfl) ?_
  · have ⟨_, _, e⟩ := h3 f hm
    rw [e]
    exact PySem.W.Looks.now
  · have e : (Value.type "str" != Value.type "tuple") = true := by
      first | decide +kernel | rfl | decide
    rw [e]
    exact hq
theorem sorted_pairsS {l : Addr} {vs : List Value} {k : Value → Pr}
    {Q : Value → Shared → Prop} (hl : s.heap.IsList l vs.toArray)
    (hz : vs.length ≤ sizeLine) (hp : ∀ v ∈ vs, IsPairS s.heap v (k v))
    (h : ∀ (h' : Heap) (d : Addr) (out : List Value),
      SrtO.Srtd (fun v u => lexS (k v) (k u)) out →
      SrtO.Stb (fun v u => lexS (k v) (k u)) out vs →
      (∀ b o, s.heap.get? b = some o → h'.get? b = some o) →
      s.heap.objs.size ≤ d →
      (∃ n, h'.get? d = some (seqObj "list" out.toArray n)) →
      Q (.ref d) { s with heap := h' }) :
    wpAny (model prog w) A (call (.builtin "sorted") [.ref l]) Q E s := by
  refine SrtO.sorted_ord (swoS k) hl hz (fun h2 h₁ a ha kk => ?_)
    fun out hs hb => ?_
  · refine sortableS (s := { s with heap := h₁ }) (by omega) (fun v hm =>
      (hp v hm).keeps fun b o e _ => (kk b o e).2) fun o e => ?_
    rw [ha] at e
    cases e
    exact fun z => nomatch (show ("list" : String) ≠ "tuple" by decide)
      (Value.type.inj z)
  · exact h _ _ out hs hb (fun b o e => sortedAll_old e) (Nat.le_succ _)
      (sortedAll_at s.heap vs out.toArray)
end
/-- the pair at an address -/
def keyT (H : Hp) : V → Pr
  | .ref a => match H a with
    | some (.tup [.str x, .str y]) => (x.cps.toList, y.cps.toList)
    | _ => ([], [])
  | _ => ([], [])
theorem keyT_eq {H : Hp} {a : Addr} {p : Pr} (h : H a = some (.tup (vT p))) :
    keyT H (.ref a) = p := by
  unfold keyT
  simp only [h]
theorem keyT_map {H : Hp} : ∀ {rs : List Addr} {ps : List Pr}, PrsAt H rs ps →
    (rs.map V.ref).map (keyT H) = ps
  | _, _, .nil => rfl
  | _, _, .cons h t => by
    rw [List.map_cons, List.map_cons, keyT_eq h, keyT_map t]
theorem prs_of {H : Hp} : ∀ rs : List Addr,
    (∀ r ∈ rs, ∃ p, H r = some (.tup (vT p))) →
    PrsAt H rs ((rs.map V.ref).map (keyT H))
  | [], _ => .nil
  | r :: rs, h => by
    obtain ⟨p, hp⟩ := h r List.mem_cons_self
    have e := keyT_eq hp
    refine .cons (by
      show H r = some (.tup (vT (keyT H (.ref r))))
      rw [e]; exact hp)
      (prs_of rs fun x hx => h x (List.mem_cons_of_mem _ hx))
theorem prs_mem {H : Hp} : ∀ {rs : List Addr} {ps : List Pr}, PrsAt H rs ps →
    ∀ r ∈ rs, ∃ p, H r = some (.tup (vT p))
  | _, _, .nil, _, h => by cases h
  | _, _, .cons a t, r, h => by
    rcases List.mem_cons.mp h with e | h
    · rw [e]; exact ⟨_, a⟩
    · exact prs_mem t r h
def SrtdP (ps : List Pr) : Prop := ps.Pairwise fun x y => lexS y x = false
/-- sorted(xs): the pairs in their one order -/
def rSortedT (K : PySem.W.Frag) : List V → Hp → VK → Prop := fun vs H Q =>
  ∃ (a : Addr) (rs : List Addr) (ps : List Pr), vs = [.ref a] ∧
  SqL K H a (rs.map V.ref) ∧ PrsAt H rs ps ∧
  ∀ rs' ps' p, PrsAt H rs' ps' → ps'.Perm ps → SrtdP ps' → H p = none →
    Q (.ref p) (upd H p (.lst (rs'.map V.ref)))
theorem back_refs : ∀ {ys : List V}, (∀ y ∈ ys, ∃ a, y = V.ref a) →
    ∃ rs : List Addr, ys = rs.map V.ref
  | [], _ => ⟨[], rfl⟩
  | y :: ys, h => by
    obtain ⟨a, rfl⟩ := h y List.mem_cons_self
    obtain ⟨rs, e⟩ := back_refs fun z hz => h z (List.mem_cons_of_mem _ hz)
    exact ⟨a :: rs, by rw [e]; rfl⟩
theorem cr_sortedT {X : Cx} : CallR X (.builtin "sorted") (rSortedT X.K) := by
  intro pins s σ H vs us Q I r h
  obtain ⟨a, rs, ps, rfl, hs, hp, q⟩ := h
  have ⟨its, rv, hl, hz⟩ := I.list hs
  cases r with
  | cons ru rest =>
  cases rest
  cases ru
  have hx : ∀ x ∈ rs.map V.ref, ∃ t, x = V.ref t := fun x m => by
    obtain ⟨t, _, e⟩ := List.mem_map.mp m
    exact ⟨t, e.symm⟩
  obtain ⟨e1, e2⟩ := refs_back rv hx
  refine sorted_pairsS (k := fun u => keyT H (backV u)) hl.isList
    (by rw [← rv.length]; exact hz) (fun v hv => ?_)
    fun h' d out h1 h2 kp hd hn => ?_
  · obtain ⟨t, rfl⟩ := e2 v hv
    have hm : V.ref t ∈ rs.map V.ref := by
      rw [e1]; exact List.mem_map.mpr ⟨_, hv, rfl⟩
    obtain ⟨t', hm', e⟩ := List.mem_map.mp hm
    cases e
    obtain ⟨p, ht⟩ := prs_mem hp t hm'
    have ek : keyT H (backV (Value.ref t)) = p := keyT_eq ht
    rw [ek]
    have ⟨_, parts, rel, ob, at_, cl, m, data⟩ := I.hok _ _ ht
    cases rel with
    | cons r1 rest =>
    cases rest with
    | cons r2 rest =>
    cases rest
    obtain ⟨i, rfl⟩ := r1
    obtain ⟨j, rfl⟩ := r2
    exact ⟨t, ob, i, j, m, rfl, at_, cl, data⟩
  · have h3 : ∀ u ∈ out, ∃ a, u = Value.ref a := fun u hu =>
      e2 u (h2.perm.mem_iff.mp hu)
    obtain ⟨n, hn⟩ := hn
    have hb : SrtO.Stb (fun x y => lexS (keyT H x) (keyT H y)) (out.map backV)
        (rs.map V.ref) := by
      rw [e1]
      exact SrtO.Stb.map (swoS (keyT H)) backV h2
    obtain ⟨rs', er⟩ := back_refs (ys := out.map backV) fun y hy =>
      hx y (hb.perm.mem_iff.mp hy)
    have sr : SrtO.Srtd (fun x y => lexS (keyT H x) (keyT H y))
      (out.map backV) := SrtO.srtd_map h1
    refine ⟨.ref d, upd H d (.lst (out.map backV)), I.laid (t' := s.toks) kp hd
      ⟨?_, out, n, vals_back h3, hn⟩, rfl, ?_⟩
    · rw [hb.len]
      exact hz
    · rw [er]
      refine q rs' ((rs'.map V.ref).map (keyT H)) d (prs_of rs' fun x hx' => ?_)
        ?_ ?_ (I.hok.fresh hd)
      · have : V.ref x ∈ out.map backV := by
          rw [er]; exact List.mem_map.mpr ⟨x, hx', rfl⟩
        obtain ⟨y, hy, e⟩ := List.mem_map.mp (hb.perm.mem_iff.mp this)
        cases e
        exact prs_mem hp x hy
      · rw [← er, ← keyT_map hp]
        exact hb.perm.map _
      · rw [← er]
        exact List.pairwise_map.mpr sr
/-- there is just one such list -/
theorem srtdP_uniq : ∀ {l m : List Pr}, SrtdP l → SrtdP m → l.Perm m → l = m
  | [], m, _, _, h => (List.Perm.nil_eq h)
  | x :: l, [], _, _, h => absurd h.length_eq (by simp)
  | x :: l, y :: m, hl, hm, h => by
    have al := List.pairwise_cons.mp hl
    have am := List.pairwise_cons.mp hm
    have e : x = y := by
      have hx := h.mem_iff.mp (List.mem_cons_self (a := x) (l := l))
      have hy := h.mem_iff.mpr (List.mem_cons_self (a := y) (l := m))
      rcases List.mem_cons.mp hx with z | z
      · exact z
      · rcases List.mem_cons.mp hy with v | v
        · exact v.symm
        · exact lexS_tot (am.1 x z) (al.1 y v)
    subst e
    rw [srtdP_uniq al.2 am.2 (List.perm_cons x |>.mp h)]
end OM
namespace OM
open PySem PySem.Spec PyProof.Rows L2
/-! ### x in (y, z), of data at any depth -/
def rInDT (K : PySem.W.Frag) : R2 := fun x y H Q => ∃ d ds, Dp K H x d ∧
  Dp K H y (.tuple ds) ∧ SeqAt.shaped d = true ∧
  SeqAt.shaped (.tuple ds) = true ∧
  Q (.bl (ds.any fun z => PyData.eqv z d)) H
theorem op_inDT {X : Cx} (hu : X.A.units + 65 < cLine) :
    OpR X (compareOp .In) (rInDT X.K) := by
  intro pins s σ H x y v u Q I rx ry h
  obtain ⟨d, ds, hd, he, sd, se, q⟩ := h
  obtain ⟨as, r1⟩ := Dp.reads I d x v hd rx
  obtain ⟨bs, r2⟩ := Dp.reads I (.tuple ds) y u he ry
  exact SeqAt.in_tuple_reads r2 r1 (SeqAt.canLay_of_shaped se)
    (SeqAt.canLay_of_shaped sd) (room_in_shaped sd hu) ⟨.bl _, H, I, rfl, q⟩
end OM
namespace OM
open PySem PySem.Spec PyProof.Rows L2
section
variable {X : Cx}
/-- name = {.. for ..} on one line, the name a local -/
theorem ps_setDc {i : Nat} {y : Str} {py : Pos} {kx vx tg iter : Expr}
    {ifs : List Expr} {scope : Scope} {own : List (Str × Nat)} {pos spos : Pos}
    {wi : TI} {g : TG} {tt : TT} {tk tv : TE} (hc : X.calm = true)
    (hN : X.N.Nodup) (hy : X.N[i]? = some y)
    (hyl : X.env.scope.names.lookup y = some .local)
    (hsw : swapsWith (.DictComp kx vx [⟨tg, iter, ifs, 0⟩] scope pos)
      (some (.Name y py)) spos.line X.env = pure true)
    (hi : PI X tg iter wi) (ok : BlkOk X.N X.env.scope scope own)
    (hg : ∀ (s : Shared) (H : Hp) (C : Addr) (cl : List (Str × Addr))
      (fp : List Addr),
      PG (X.blk s H scope (compEnvC scope cl C X.env) fp) tg g)
    (ht : ∀ (s : Shared) (H : Hp) (C : Addr) (cl : List (Str × Addr))
      (fp : List Addr),
      PTs (X.blk s H scope (compEnvC scope cl C X.env) fp) ifs tt)
    (hk : ∀ (s : Shared) (H : Hp) (C : Addr) (cl : List (Str × Addr))
      (fp : List Addr),
      PE (X.blk s H scope (compEnvC scope cl C X.env) fp) kx tk)
    (he : ∀ (s : Shared) (H : Hp) (C : Addr) (cl : List (Str × Addr))
      (fp : List Addr),
      PE (X.blk s H scope (compEnvC scope cl C X.env) fp) vx tv)
    (hs : ∀ x, foldedSetIterable iter X.env x = pure x := by intro _; rfl) :
    PS X (.Assign [.Name y py] (.DictComp kx vx [⟨tg, iter, ifs, 0⟩] scope pos)
      spos) (tAsg (tDc wi g tt tk tv (own.map (·.2))) (gName i)) := by
  constructor
  intro pins s0 st H D I h
  have h' : tDc wi g tt tk tv (own.map (·.2)) st H
    (fun x H1 => gName i x st H1 D.nx) := h
  -- the comprehension's value goes into the name while its frame still stands
  have walk := dc_core (Qf := fun _ s' => SP X pins D .next s') (pos := pos)
    (pos' := firstIterPos [⟨tg, iter, ifs, 0⟩] pos)
    (use := some (assign (.Name y py) X.env)) hc hN I hi ok hg
    ht hk he hs h' fun L C s' m H' I' q hn f => (by
      obtain ⟨c0, cL, _, c3, c4, c5⟩ := f
      show wpAny _ _ (assign (Expr.Name y py) X.env (.ref L)) _ _ s'
      refine wpAny_assign_Name (store_ok2 (v := V.ref L) I' hN hy
        (.inl hyl) rfl (fun s2 I2 z => ?_) (.inr hyl))
      obtain ⟨d, sb, hd⟩ := z
      have nd : C ≠ d := by
        cases hd with
        | inl z => exact z ▸ cL
        | inr z => exact (c4 y d z).symm
      exact ⟨m, hn.sameBut sb nd, fun h3 sb3 => ⟨_, H', I2.turned (t' := s2.toks)
        (fun b o hb e => (sb3.2 b hb).trans e) c0 cL c3 c4 c5, q⟩⟩)
  rw [exec_Assign_Name_used _ _ _ _ hsw]
  exact wpAny_bind (wpAny_standAt (wpAny_bind (wpAny_bind (thn walk
    fun _ _ z => wpAny_pure (wpAny_pure z)))))
theorem swd_true {kx vx : Expr} {gs : List Comprehension} {scope : Scope}
    {pos py : Pos} {y : Str} {l : Nat} {env : Env}
    (hk : env.scope.kind = .function)
    (hy : env.scope.names.lookup y = some .local)
    (hl : (py.line == pos.line) = true)
    (ha : (scope.names.any fun (n, k) =>
      n == y && (k == .local || k == .cell)) = false) :
    swapsWith (.DictComp kx vx gs scope pos) (some (.Name y py)) l env =
      pure true := by
  have fn : env.blockKind = .function := by
    simp only [Env.blockKind, hk]
    rfl
  simp only [swapsWith, fn, show env.kindOf y = some .local from hy, ha, hl,
    Expr.pos]
  rfl
end
end OM
namespace OM
open PySem PySem.Spec PyProof.Rows L2
/-! ### list(range(a, b, c)) -/
def rgC (a c : Int) (n : Nat) : List V :=
  (List.range n).map fun i => V.int (a + (i : Nat) * c)
theorem rgC_len (a c : Int) (n : Nat) : (rgC a c n).length = n := by
  unfold rgC
  rw [List.length_map, List.length_range]
theorem vals_rgC {a c : Int} {n : Nat} {acc : Array Value}
    (h : ItemsOf (fun i v => ∃ t, v = .int (a + i * c) t) acc n) :
    Vals (rgC a c n) acc.toList := by
  have many : n = acc.toList.length := h.1.symm.trans Array.length_toList.symm
  subst many
  exact vals_of_get acc.toList _ fun j u at_ =>
    have ⟨t, e⟩ := h.2 j u (Array.getElem?_toList ▸ at_)
    ⟨t, e⟩
def tLstC (ta : TA) : TE := fun σ H Q => ta σ H fun vs H1 =>
  ∃ (i j c : Int) (n : Nat), vs = [.int i, .int j, .int c] ∧ RgC i j c n ∧
  n ≤ 10000 ∧ ∀ q, H1 q = none → Q (.ref q) (upd H1 q (.lst (rgC i c n)))
section
variable {X : Cx}
theorem pe_listC {a b c : Expr} {ta : TA} {p p' pos pos' : Pos}
    (hc : X.calm = true) (hl : Gl X "list") (ml : X.mg "list" = none)
    (hg : Gl X "range") (hm : X.mg "range" = none) (ha : PA X [a, b, c] ta)
    (hs : starEach [a, b, c] X.env =
      (false, eval a X.env) :: starEach [b, c] X.env := by rfl)
    (hpl : (backTo pos (starEach [b, c] X.env)).any (·.1) = false := by rfl)
    (na : starEach [Expr.Call (.Name "range" p) [a, b, c] [] pos] X.env =
      (false, eval (.Call (.Name "range" p) [a, b, c] [] pos) X.env) ::
        starEach [] X.env := by rfl) :
    PE X (.Call (.Name "list" p') [.Call (.Name "range" p) [a, b, c] [] pos] []
      pos') (tLstC ta) := by
  refine ⟨fun pins s σ H Q I h => ?_⟩
  refine Call_ (ld_blt I hl ml boot_list (PyProof.Rows.callWith_type1
    (args_cons ?_ na) na))
  refine Call_ (ld_blt I hg hm boot_range (PyProof.Rows.callWith_type1
    (thn (ha.run pos pins s σ H _ I h) fun us s1 ⟨vs, H1, I1, r1, q1⟩ => ?_)
    hs hpl))
  obtain ⟨i, j, k, n, e, ⟨c0, c1, c2, c3⟩, n4, q⟩ := q1
  subst e
  cases r1 with
  | cons r rr =>
    cases rr with
    | cons r' rr =>
      cases rr with
      | cons r'' rr =>
        cases rr
        obtain ⟨t, rfl⟩ := r
        obtain ⟨t', rfl⟩ := r'
        obtain ⟨t'', rfl⟩ := r''
        refine call_range_3 c0 ?_ (.inl (PyProof.noPylong_small c1))
        have I2 : L2.Inv X pins σ H1 ({ s1 with heap := s1.heap.push (Obj.mk
            (.type "range") none (.fields #[.int i t, .int j t', .int k t''])
            #[]) } : Shared) :=
          I1.kept (t' := s1.toks) fun b o e => Heap.get?_push_of_some _ e
        refine args_nil ?_
        refine call_list_range (n := n) (I2.ok.hd hc) (IsRange.new ..) c2 c3
          (by omega) fun h' tk acc c' hk e' hi => ?_
        refine ⟨.ref _, upd H1 _ (.lst (rgC i k n)), I2.laid hk (Nat.le_refl _)
          (show ObjOk X.prog X.w _ _ _ (.lst (rgC i k n)) from
            ⟨?_, acc.toList, c', vals_rgC hi, ?_⟩), rfl,
          q _ (I2.hok.fresh (Nat.le_refl _))⟩
        · rw [rgC_len, sizeLine_eq]; omega
        · rw [Array.toArray_toList]; exact e'
end
end OM
namespace OM
open PySem PySem.Spec PyProof.Rows L2
/-! ### a, b, c = x, y, z: three plain local names -/
def tPar3 (i j l : Nat) (ta : TA) : TS := fun D σ H => ta σ H fun vs H1 =>
  ∃ v w u, vs = [v, w, u] ∧
    D.nx (((σ.set i (some v)).set j (some w)).set l (some u)) H1
section
variable {X : Cx} {pos : Pos}
theorem ps_par3 {i j l : Nat} {x y z : Str} {a b c : Expr} {ta : TA}
    {px py pz pt : Pos} {kt k2 pt2} (hc : X.calm = true) (hN : X.N.Nodup)
    (hi : X.N[i]? = some x) (hj : X.N[j]? = some y) (hl : X.N[l]? = some z)
    (hij : i ≠ j) (hil : i ≠ l) (hjl : j ≠ l)
    (hx : X.env.scope.names.lookup x = some .local)
    (hy : X.env.scope.names.lookup y = some .local)
    (hz : X.env.scope.names.lookup z = some .local) (ha : PA X [a, b, c] ta)
    (hw : swappedStores [.Tuple [.Name x px, .Name y py, .Name z pz] kt pt]
      (.Tuple [a, b, c] k2 pt2) X.env = pure (some [x, y, z]))
    (hs : swapsWithSole [.Tuple [.Name x px, .Name y py, .Name z pz] kt pt]
      (.Tuple [a, b, c] k2 pt2) pos.line X.env = pure false := by rfl) :
    PS X (.Assign [.Tuple [.Name x px, .Name y py, .Name z pz] kt pt]
      (.Tuple [a, b, c] k2 pt2) pos) (tPar3 i j l ta) := by
  refine ⟨fun pins s σ H D I h => ?_⟩
  rw [exec_Assign_arm]
  refine wpAny_bind (wpAny_standAt ?_)
  rw [hs]
  refine wpAny_bind (wpAny_pure ?_)
  rw [if_neg (by decide)]
  refine wpAny_bind (Tuple_ (thn (ha.run _ pins s σ H _ I h)
    fun us s1 ⟨vs, H1, I1, r1, q1⟩ => ?_))
  obtain ⟨v, w, u, e1, q1⟩ := q1
  subst e1
  cases r1 with
  | cons rv rest =>
  cases rest with
  | cons rw' rest =>
  cases rest with
  | cons ru rest =>
  cases rest
  rename_i u1 u2 u3 _
  refine wpAny_newObj_type ?_ (show 3 ≤ sizeLine from by decide)
  have I2 : L2.Inv X pins σ H1 ({ s1 with heap := s1.heap.push (Obj.mk
      (.type "tuple") none (.seq [u1, u2, u3].toArray) #[]) } : Shared) :=
    I1.kept (t' := s1.toks) fun b o e => Heap.get?_push_of_some _ e
  rw [hw]
  refine wpAny_bind (wpAny_pure ?_)
  show wpAny (model X.prog X.w) X.A (do
    rule "assign.swapped-stores"
    let items ← unpackItems (.ref s1.heap.objs.size) 3 none
    assignInOrder [fun v => bindName X.env z v, fun v => bindName X.env y v,
      fun v => bindName X.env x v] items.reverse
    pure Flow.next) _ _ _
  refine wpAny_bind (wpAny_rule (wpAny_bind (unpackItems_tuple
    (items := #[u1, u2, u3]) (I.ok.hd hc) (IsTup.new s1.heap _)
    fun h' hx' => ?_)))
  have I3 := I2.kept (h' := h') (t' := s1.toks) fun b o e =>
    hx' b o (Nat.ne_of_lt (Heap.lt_size e)) e
  show wpAny _ _ (assignInOrder [fun v => bindName X.env z v,
    fun v => bindName X.env y v, fun v => bindName X.env x v] [u3, u2, u1] >>=
    fun _ => pure Flow.next) _ _ _
  refine wpAny_bind (assignInOrder_cons (wpAny_bindName (store_ok I3 hN hl
    (.inl hz) ru (fun s2 I4 => ?_) (.inr hz))))
  refine assignInOrder_cons (wpAny_bindName (store_ok I4 hN hj (.inl hy) rw'
    (fun s3 I5 => ?_) (.inr hy)))
  refine assignInOrder_cons (wpAny_bindName (store_ok I5 hN hi (.inl hx) rv
    (fun s4 I6 => assignInOrder_nil (wpAny_pure ?_)) (.inr hx)))
  rw [List.set_comm _ _ (Ne.symm hjl), List.set_comm _ _ (Ne.symm hil),
    List.set_comm _ _ (Ne.symm hij)] at I6
  exact ⟨_, H1, I6, q1⟩
end
end OM
namespace OM
open PySem PySem.Spec PyProof.Rows L2
/-! ### t[::-1] of a tuple of two -/
section
variable {prog : Program} {w : World} {A : Around} {E : Value → Shared → Prop}
  {s : Shared}
theorem if_no {α : Type} {B : Around} {c : Prop} [Decidable c] {x y : Sem α}
    {Q : α → Shared → Prop} (n : ¬ c) (h : wpAny (model prog w) B y Q E s) :
    wpAny (model prog w) B (if c then x else y) Q E s := (if_neg n).symm ▸ h
theorem if_yes {α : Type} {B : Around} {c : Prop} [Decidable c] {x y : Sem α}
    {Q : α → Shared → Prop} (n : c) (h : wpAny (model prog w) B x Q E s) :
    wpAny (model prog w) B (if c then x else y) Q E s := (if_pos n).symm ▸ h
/-- the places that [::-1] of two things takes -/
theorem places_rev2 {sl : Addr} {u v x : Value}
    {Q : Int × Int × Nat → Shared → Prop} (is : s.heap.IsSliceOf sl u v x)
    (nu : IsPart u none) (nv : IsPart v none) (nx : IsPart x (some (-1)))
    (q : Q (1, -1, 2) s) :
    wpAny (model prog w) A (Builtin.Slice.sliceApplied (.ref sl)
      (pure ((2 : Nat) : Int))) Q E s := by
  have ⟨ob, at_, _, parts⟩ := is
  have last : wpAny (model prog w) A (match Builtin.Slice.sliceAdjust none none
      (-1) ((2 : Nat) : Int) with
      | (i, j) => pure (i, (-1 : Int), Builtin.Slice.slicePlaces i j (-1)))
      Q E s := wpAny_pure q
  simp only [Builtin.Slice.sliceApplied, Builtin.Slice.sliceFields]
  refine wpAny_bind (wpAny_bind (wpAny_field at_ parts (x := u) rfl ?_))
  refine wpAny_bind (wpAny_field at_ parts (x := v) rfl ?_)
  refine wpAny_bind (wpAny_field at_ parts (x := x) rfl (wpAny_pure ?_))
  refine wpAny_bind (HT.slicePart_ nx ?_)
  refine if_no (by decide) ?_
  refine wpAny_bind (HT.slicePart_ nu ?_)
  refine wpAny_bind (HT.slicePart_ nv ?_)
  exact wpAny_bind (wpAny_pure last)
/-- (a, b)[::-1] -/
theorem item_rev2 {t sl : Addr} {a b u v x : Value}
    {Q : Value → Shared → Prop} (tt : IsTup s.heap t #[a, b])
    (is : s.heap.IsSliceOf sl u v x)
    (nu : IsPart u none) (nv : IsPart v none) (nx : IsPart x (some (-1)))
    (q : Q (.ref s.heap.objs.size) ({ s with heap := s.heap.push (Obj.mk
      (.type "tuple") none (.seq #[b, a]) #[]) } : Shared)) :
    wpAny (model prog w) A (getItem (.ref t) (.ref sl)) Q E s := by
  have two : sizeOk (.seq #[b, a]) := (by decide : 2 ≤ sizeLine)
  have tS : s.TypeIs (.ref sl) "slice" := by
    have ⟨ob, at_, cl, _⟩ := is
    exact ⟨ob, at_, cl⟩
  have slot := PyProof.Rows.slot_tuple_getitem
  have made : ∀ (B : Around), wpAny (model prog w) B
      (Builtin.«tuple.__getitem__» ⟨[.ref t, .ref sl], []⟩)
      (fun r s' => ∃ z, r = .done (.ret z) ∧ Q z s') E s := fun B => by
    show wpAny _ B (Builtin.Tuple.tupleItemsOf (.ref t) >>= _) _ _ s
    refine wpAny_bind (PyProof.Rows.tupleItemsOf_ tt (wpAny_bind
      (wpAny_typeOf tS ?_)))
    refine if_yes (by decide) (wpAny_bind (places_rev2 is nu nv nx ?_))
    refine if_no (fun z => Bool.false_ne_true z) ?_
    show wpAny _ B (Builtin.Tuple.tupleExact #[b, a] >>= _) _ _ s
    have new : ∀ {R : Value → Shared → Prop}, R (.ref s.heap.objs.size)
        ({ s with heap := s.heap.push (Obj.mk (.type "tuple") none
          (.seq #[b, a]) #[]) } : Shared) →
        wpAny (model prog w) B (Builtin.Tuple.tupleExact #[b, a]) R E s :=
      fun k => wpAny_newObj_type k two
    exact wpAny_bind (new (wpAny_pure ⟨_, rfl, q⟩))
  unfold getItem
  refine wpAny_holding (wpAny_bind (wpAny_sequenceKey tt.typeIs (by decide) ?_))
  refine wpAny_bind (wpAny_callSpecial?_slot (name := Str.ofString "__getitem__")
    tt.typeIs slot (wpAny_call_entry slot tt.typeIs
      PyProof.Rows.entry_tuple_getitem (wpAny_mono (made _)
        (fun r s' ⟨z, e, k⟩ => ⟨z, e, wpAny_pure k⟩) fun _ _ k => k)
      (PyProof.Rows.args_tuple_getitem _ _)))
end
def tRevT (K : PySem.W.Frag) (te : TE) : TE := fun σ H Q => te σ H fun x H1 =>
  ∃ a u v, x = .ref a ∧ SqT K H1 a [u, v] ∧ ∀ p, H1 p = none →
    Q (.ref p) (upd H1 p (.tup [v, u]))
theorem pe_revT {X : Cx} {e : Expr} {te : TE} {k : Nat} {p1 p2 p3 pos : Pos}
    (he : PE X e te) :
    PE X (.Subscript e (.Slice none none (some (.UnaryOp .USub
      (.Constant (.int 1) k p1) p2)) p3) pos) (tRevT X.K te) := by
  refine ⟨fun pins s σ H Q I h => ?_⟩
  refine Subscript_ (thn (he.run pins s σ H _ I h)
    fun v s1 ⟨x, H1, I1, r1, q1⟩ => ?_)
  obtain ⟨a, u0, v0, ex, hx, q⟩ := q1
  subst ex
  cases r1
  have hst : PO X (some (.UnaryOp .USub (.Constant (.int 1) k p1) p2))
      (tPart (tUn (rU fun i => .int (-i)) (tC (.int 1)))) :=
    po_some (pe_un un_neg pe_int)
  refine wpAny_Slice (thn (po_none.run pins s1 σ H1
    (fun o H2 => o = none ∧ H2 = H1) I1 ⟨rfl, rfl⟩)
    fun vl s2 ⟨l, H2, I2, pl, el, e2⟩ => ?_)
  subst el e2
  refine thn (po_none.run pins s2 σ H2 (fun o H3 => o = none ∧ H3 = H2) I2
    ⟨rfl, rfl⟩) fun vu s3 ⟨u, H3, I3, pu, eu, e3⟩ => ?_
  subst eu e3
  refine thn (hst.run pins s3 σ H3 (fun o H4 => o = some (-1) ∧ H4 = H3) I3
    ⟨1, rfl, -1, rfl, rfl, rfl⟩) fun vs s4 ⟨o, H4, I4, ps, eo, e4⟩ => ?_
  subst eo e4
  have I5 : L2.Inv X pins σ H4 ({ s4 with heap := s4.heap.push (Obj.mk
      (.type "slice") none (.fields #[vl, vu, vs]) #[]) } : Shared) :=
    I4.kept (t' := s4.toks) fun b ob q => Heap.get?_push_of_some _ q
  obtain ⟨its, r, ht, hz⟩ := I5.tuple hx
  obtain ⟨a1, a2, rfl, ra, rb⟩ : ∃ a1 a2, its = [a1, a2] ∧ RelV u0 a1 ∧
      RelV v0 a2 := by
    cases r with
    | cons p q =>
      cases q with
      | cons p' q' =>
        cases q'
        exact ⟨_, _, rfl, p, p'⟩
  show wpAny (model X.prog X.w) X.A (subscriptTail e (.Slice none none
    (some (.UnaryOp .USub (.Constant (.int 1) k p1) p2)) p3) (.ref a)
    (.ref s4.heap.objs.size)) (EP X pins σ Q) X.xe
    ({ s4 with heap := s4.heap.push (Obj.mk (.type "slice") none
      (.fields #[vl, vu, vs]) #[]) } : Shared)
  refine tail_any (ops := [.ref a, .ref s4.heap.objs.size]) ht.typeIs
    PyProof.Rows.slot_tuple_getitem.lookup ?_ (by with_unfolding_all rfl)
  refine item_rev2 ht (Heap.IsSliceOf.new _ vl vu vs) pl pu ps ?_
  refine ⟨.ref _, _, I5.laid (t' := s4.toks) (o := .tup [v0, u0])
    (fun b ob q => Heap.get?_push_of_some _ q) (Nat.le_refl _) ?_, rfl,
    q _ (I5.hok.fresh (Nat.le_refl _))⟩
  exact ⟨by show 2 ≤ sizeLine; decide, [a2, a1], .cons rb (.cons ra .nil),
    IsTup.new _ _⟩
end OM
namespace OM
open PySem PySem.Spec PyProof.Rows L2
def topS (i : Nat) : Stmt :=
  PySem.Challenge.pw_ordermerge_k23_whole_logs_by_a_model.main.body.getD i
    (.Pass ⟨0, 0, 0, 0⟩)
abbrev s_InvalidBase_init : Stmt := inClass (topS 3) 0
abbrev N_InvalidBase_init : List Str := ["self", "problem", "position"]
theorem sc_InvalidBase_init : FnScope N_InvalidBase_init
    ["self", "problem", "position"] (defScope s_InvalidBase_init) :=
  ⟨rfl, rfl, rfl, by decide +kernel, rfl,
    by decide +kernel, by decide +kernel⟩
abbrev s_InvalidOrder_init : Stmt := inClass (topS 4) 0
abbrev N_InvalidOrder_init : List Str := ["self", "position"]
theorem sc_InvalidOrder_init : FnScope N_InvalidOrder_init
    ["self", "position"] (defScope s_InvalidOrder_init) :=
  ⟨rfl, rfl, rfl, by decide +kernel, rfl,
    by decide +kernel, by decide +kernel⟩
abbrev s_InvalidIndex_init : Stmt := inClass (topS 5) 0
abbrev N_InvalidIndex_init : List Str := ["self", "value"]
theorem sc_InvalidIndex_init : FnScope N_InvalidIndex_init
    ["self", "value"] (defScope s_InvalidIndex_init) :=
  ⟨rfl, rfl, rfl, by decide +kernel, rfl,
    by decide +kernel, by decide +kernel⟩
abbrev s_InvalidReason_init : Stmt := inClass (topS 6) 0
abbrev N_InvalidReason_init : List Str := ["self", "value"]
theorem sc_InvalidReason_init : FnScope N_InvalidReason_init
    ["self", "value"] (defScope s_InvalidReason_init) :=
  ⟨rfl, rfl, rfl, by decide +kernel, rfl,
    by decide +kernel, by decide +kernel⟩
abbrev s_InvalidPosition_init : Stmt := inClass (topS 7) 0
abbrev N_InvalidPosition_init : List Str := ["self", "value"]
theorem sc_InvalidPosition_init : FnScope N_InvalidPosition_init
    ["self", "value"] (defScope s_InvalidPosition_init) :=
  ⟨rfl, rfl, rfl, by decide +kernel, rfl,
    by decide +kernel, by decide +kernel⟩
abbrev s_InvalidCount_init : Stmt := inClass (topS 8) 0
abbrev N_InvalidCount_init : List Str := ["self", "value"]
theorem sc_InvalidCount_init : FnScope N_InvalidCount_init
    ["self", "value"] (defScope s_InvalidCount_init) :=
  ⟨rfl, rfl, rfl, by decide +kernel, rfl,
    by decide +kernel, by decide +kernel⟩
abbrev s_UnknownItem_init : Stmt := inClass (topS 9) 0
abbrev N_UnknownItem_init : List Str := ["self", "value"]
theorem sc_UnknownItem_init : FnScope N_UnknownItem_init
    ["self", "value"] (defScope s_UnknownItem_init) :=
  ⟨rfl, rfl, rfl, by decide +kernel, rfl,
    by decide +kernel, by decide +kernel⟩
abbrev s_is_name : Stmt := topS 13
abbrev N_is_name : List Str := ["value", "letter"]
theorem sc_is_name : FnScope N_is_name
    ["value"] (defScope s_is_name) :=
  ⟨rfl, rfl, rfl, by decide +kernel, rfl,
    by decide +kernel, by decide +kernel⟩
abbrev s_names_fault : Stmt := topS 14
abbrev N_names_fault : List Str := ["value", "most", "seen", "at", "name"]
theorem sc_names_fault : FnScope N_names_fault
    ["value", "most"] (defScope s_names_fault) :=
  ⟨rfl, rfl, rfl, by decide +kernel, rfl,
    by decide +kernel, by decide +kernel⟩
abbrev s_check_items : Stmt := topS 15
abbrev N_check_items : List Str := ["items", "fault", "problem", "position"]
theorem sc_check_items : FnScope N_check_items
    ["items"] (defScope s_check_items) :=
  ⟨rfl, rfl, rfl, by decide +kernel, rfl,
    by decide +kernel, by decide +kernel⟩
abbrev s_Base_init : Stmt := inClass (topS 16) 0
abbrev N_Base_init : List Str := ["self", "items", "name", "at"]
theorem sc_Base_init : FnScope N_Base_init
    ["self", "items"] (defScope s_Base_init) :=
  ⟨rfl, rfl, rfl, by decide +kernel, rfl,
    by decide +kernel, by decide +kernel⟩
abbrev s_Base_eq : Stmt := inClass (topS 16) 1
abbrev N_Base_eq : List Str := ["self", "other"]
theorem sc_Base_eq : FnScope N_Base_eq
    ["self", "other"] (defScope s_Base_eq) :=
  ⟨rfl, rfl, rfl, by decide +kernel, rfl,
    by decide +kernel, by decide +kernel⟩
abbrev s_Base_len : Stmt := inClass (topS 16) 2
abbrev N_Base_len : List Str := ["self"]
theorem sc_Base_len : FnScope N_Base_len
    ["self"] (defScope s_Base_len) :=
  ⟨rfl, rfl, rfl, by decide +kernel, rfl,
    by decide +kernel, by decide +kernel⟩
abbrev s_Base_repr : Stmt := inClass (topS 16) 3
abbrev N_Base_repr : List Str := ["self"]
theorem sc_Base_repr : FnScope N_Base_repr
    ["self"] (defScope s_Base_repr) :=
  ⟨rfl, rfl, rfl, by decide +kernel, rfl,
    by decide +kernel, by decide +kernel⟩
abbrev s_Base_names : Stmt := inClass (topS 16) 4
abbrev N_Base_names : List Str := ["self"]
theorem sc_Base_names : FnScope N_Base_names
    ["self"] (defScope s_Base_names) :=
  ⟨rfl, rfl, rfl, by decide +kernel, rfl,
    by decide +kernel, by decide +kernel⟩
abbrev s_Base_has_item : Stmt := inClass (topS 16) 5
abbrev N_Base_has_item : List Str := ["self", "value"]
theorem sc_Base_has_item : FnScope N_Base_has_item
    ["self", "value"] (defScope s_Base_has_item) :=
  ⟨rfl, rfl, rfl, by decide +kernel, rfl,
    by decide +kernel, by decide +kernel⟩
abbrev s_Base_position_of : Stmt := inClass (topS 16) 6
abbrev N_Base_position_of : List Str := ["self", "item"]
theorem sc_Base_position_of : FnScope N_Base_position_of
    ["self", "item"] (defScope s_Base_position_of) :=
  ⟨rfl, rfl, rfl, by decide +kernel, rfl,
    by decide +kernel, by decide +kernel⟩
abbrev s_Base_precedes : Stmt := inClass (topS 16) 7
abbrev N_Base_precedes : List Str := ["self", "first", "second"]
theorem sc_Base_precedes : FnScope N_Base_precedes
    ["self", "first", "second"] (defScope s_Base_precedes) :=
  ⟨rfl, rfl, rfl, by decide +kernel, rfl,
    by decide +kernel, by decide +kernel⟩
abbrev s_check_item : Stmt := topS 17
abbrev N_check_item : List Str := ["base", "value"]
theorem sc_check_item : FnScope N_check_item
    ["base", "value"] (defScope s_check_item) :=
  ⟨rfl, rfl, rfl, by decide +kernel, rfl,
    by decide +kernel, by decide +kernel⟩
abbrev s_pair_of : Stmt := topS 18
abbrev N_pair_of : List Str := ["base", "first", "second"]
theorem sc_pair_of : FnScope N_pair_of
    ["base", "first", "second"] (defScope s_pair_of) :=
  ⟨rfl, rfl, rfl, by decide +kernel, rfl,
    by decide +kernel, by decide +kernel⟩
abbrev s_order_fault : Stmt := topS 19
abbrev N_order_fault : List Str := ["base", "value", "at", "name"]
theorem sc_order_fault : FnScope N_order_fault
    ["base", "value"] (defScope s_order_fault) :=
  ⟨rfl, rfl, rfl, by decide +kernel, rfl,
    by decide +kernel, by decide +kernel⟩
abbrev s_check_order : Stmt := topS 20
abbrev N_check_order : List Str := ["base", "order", "fault"]
theorem sc_check_order : FnScope N_check_order
    ["base", "order"] (defScope s_check_order) :=
  ⟨rfl, rfl, rfl, by decide +kernel, rfl,
    by decide +kernel, by decide +kernel⟩
abbrev s_is_integer : Stmt := topS 22
abbrev N_is_integer : List Str := ["value"]
theorem sc_is_integer : FnScope N_is_integer
    ["value"] (defScope s_is_integer) :=
  ⟨rfl, rfl, rfl, by decide +kernel, rfl,
    by decide +kernel, by decide +kernel⟩
abbrev s_is_integer_from : Stmt := topS 23
abbrev N_is_integer_from : List Str := ["value", "low", "high"]
theorem sc_is_integer_from : FnScope N_is_integer_from
    ["value", "low", "high"] (defScope s_is_integer_from) :=
  ⟨rfl, rfl, rfl, by decide +kernel, rfl,
    by decide +kernel, by decide +kernel⟩
abbrev s_is_swap_index : Stmt := topS 25
abbrev N_is_swap_index : List Str := ["base", "value"]
theorem sc_is_swap_index : FnScope N_is_swap_index
    ["base", "value"] (defScope s_is_swap_index) :=
  ⟨rfl, rfl, rfl, by decide +kernel, rfl,
    by decide +kernel, by decide +kernel⟩
abbrev s_check_swap_index : Stmt := topS 26
abbrev N_check_swap_index : List Str := ["base", "index"]
theorem sc_check_swap_index : FnScope N_check_swap_index
    ["base", "index"] (defScope s_check_swap_index) :=
  ⟨rfl, rfl, rfl, by decide +kernel, rfl,
    by decide +kernel, by decide +kernel⟩
abbrev s_exchanged : Stmt := topS 27
abbrev N_exchanged : List Str := ["order", "index"]
theorem sc_exchanged : FnScope N_exchanged
    ["order", "index"] (defScope s_exchanged) :=
  ⟨rfl, rfl, rfl, by decide +kernel, rfl,
    by decide +kernel, by decide +kernel⟩
abbrev s_goes_outward : Stmt := topS 28
abbrev N_goes_outward : List Str := ["base", "order", "index"]
theorem sc_goes_outward : FnScope N_goes_outward
    ["base", "order", "index"] (defScope s_goes_outward) :=
  ⟨rfl, rfl, rfl, by decide +kernel, rfl,
    by decide +kernel, by decide +kernel⟩
abbrev s_first_opposite : Stmt := topS 29
abbrev N_first_opposite : List Str := ["order", "places", "at"]
theorem sc_first_opposite : FnScope N_first_opposite
    ["order", "places"] (defScope s_first_opposite) :=
  ⟨rfl, rfl, rfl, by decide +kernel, rfl,
    by decide +kernel, by decide +kernel⟩
abbrev s_swaps_between : Stmt := topS 30
abbrev N_swaps_between : List Str := ["base", "order", "other", "places", "name", "at", "current", "indexes", "index"]
theorem sc_swaps_between : FnScope N_swaps_between
    ["base", "order", "other"] (defScope s_swaps_between) :=
  ⟨rfl, rfl, rfl, by decide +kernel, rfl,
    by decide +kernel, by decide +kernel⟩
abbrev s_order_after_swaps : Stmt := topS 31
abbrev N_order_after_swaps : List Str := ["base", "indexes", "order", "index"]
theorem sc_order_after_swaps : FnScope N_order_after_swaps
    ["base", "indexes"] (defScope s_order_after_swaps) :=
  ⟨rfl, rfl, rfl, by decide +kernel, rfl,
    by decide +kernel, by decide +kernel⟩
abbrev s_pairs_of_swaps : Stmt := topS 32
abbrev N_pairs_of_swaps : List Str := ["base", "indexes", "order", "pairs", "index"]
theorem sc_pairs_of_swaps : FnScope N_pairs_of_swaps
    ["base", "indexes"] (defScope s_pairs_of_swaps) :=
  ⟨rfl, rfl, rfl, by decide +kernel, rfl,
    by decide +kernel, by decide +kernel⟩
abbrev s_is_reason : Stmt := topS 35
abbrev N_is_reason : List Str := ["value"]
theorem sc_is_reason : FnScope N_is_reason
    ["value"] (defScope s_is_reason) :=
  ⟨rfl, rfl, rfl, by decide +kernel, rfl,
    by decide +kernel, by decide +kernel⟩
abbrev s_check_reason : Stmt := topS 36
abbrev N_check_reason : List Str := ["reason"]
theorem sc_check_reason : FnScope N_check_reason
    ["reason"] (defScope s_check_reason) :=
  ⟨rfl, rfl, rfl, by decide +kernel, rfl,
    by decide +kernel, by decide +kernel⟩
abbrev s_SwapLog_init : Stmt := inClass (topS 37) 0
abbrev N_SwapLog_init : List Str := ["self", "base"]
theorem sc_SwapLog_init : FnScope N_SwapLog_init
    ["self", "base"] (defScope s_SwapLog_init) :=
  ⟨rfl, rfl, rfl, by decide +kernel, rfl,
    by decide +kernel, by decide +kernel⟩
abbrev s_SwapLog_eq : Stmt := inClass (topS 37) 1
abbrev N_SwapLog_eq : List Str := ["self", "other"]
theorem sc_SwapLog_eq : FnScope N_SwapLog_eq
    ["self", "other"] (defScope s_SwapLog_eq) :=
  ⟨rfl, rfl, rfl, by decide +kernel, rfl,
    by decide +kernel, by decide +kernel⟩
abbrev s_SwapLog_len : Stmt := inClass (topS 37) 2
abbrev N_SwapLog_len : List Str := ["self"]
theorem sc_SwapLog_len : FnScope N_SwapLog_len
    ["self"] (defScope s_SwapLog_len) :=
  ⟨rfl, rfl, rfl, by decide +kernel, rfl,
    by decide +kernel, by decide +kernel⟩
abbrev s_SwapLog_repr : Stmt := inClass (topS 37) 3
abbrev N_SwapLog_repr : List Str := ["self"]
theorem sc_SwapLog_repr : FnScope N_SwapLog_repr
    ["self"] (defScope s_SwapLog_repr) :=
  ⟨rfl, rfl, rfl, by decide +kernel, rfl,
    by decide +kernel, by decide +kernel⟩
abbrev s_SwapLog_base : Stmt := inClass (topS 37) 4
abbrev N_SwapLog_base : List Str := ["self"]
theorem sc_SwapLog_base : FnScope N_SwapLog_base
    ["self"] (defScope s_SwapLog_base) :=
  ⟨rfl, rfl, rfl, by decide +kernel, rfl,
    by decide +kernel, by decide +kernel⟩
abbrev s_SwapLog_order : Stmt := inClass (topS 37) 5
abbrev N_SwapLog_order : List Str := ["self"]
theorem sc_SwapLog_order : FnScope N_SwapLog_order
    ["self"] (defScope s_SwapLog_order) :=
  ⟨rfl, rfl, rfl, by decide +kernel, rfl,
    by decide +kernel, by decide +kernel⟩
abbrev s_SwapLog_entries : Stmt := inClass (topS 37) 6
abbrev N_SwapLog_entries : List Str := ["self"]
theorem sc_SwapLog_entries : FnScope N_SwapLog_entries
    ["self"] (defScope s_SwapLog_entries) :=
  ⟨rfl, rfl, rfl, by decide +kernel, rfl,
    by decide +kernel, by decide +kernel⟩
abbrev s_SwapLog_indexes : Stmt := inClass (topS 37) 7
abbrev N_SwapLog_indexes : List Str := ["self", "index", "reason"]
theorem sc_SwapLog_indexes : FnScope N_SwapLog_indexes
    ["self"] (defScope s_SwapLog_indexes) :=
  ⟨rfl, rfl, rfl, by decide +kernel, rfl,
    by decide +kernel, by decide +kernel⟩
abbrev s_SwapLog_swap : Stmt := inClass (topS 37) 8
abbrev N_SwapLog_swap : List Str := ["self", "index", "reason"]
theorem sc_SwapLog_swap : FnScope N_SwapLog_swap
    ["self", "index", "reason"] (defScope s_SwapLog_swap) :=
  ⟨rfl, rfl, rfl, by decide +kernel, rfl,
    by decide +kernel, by decide +kernel⟩
abbrev s_SwapLog_swap_checked : Stmt := inClass (topS 37) 9
abbrev N_SwapLog_swap_checked : List Str := ["self", "index", "reason", "cancelled"]
theorem sc_SwapLog_swap_checked : FnScope N_SwapLog_swap_checked
    ["self", "index", "reason"] (defScope s_SwapLog_swap_checked) :=
  ⟨rfl, rfl, rfl, by decide +kernel, rfl,
    by decide +kernel, by decide +kernel⟩
abbrev s_SwapLog_swap_each : Stmt := inClass (topS 37) 10
abbrev N_SwapLog_swap_each : List Str := ["self", "indexes", "reason", "cancelled", "index"]
theorem sc_SwapLog_swap_each : FnScope N_SwapLog_swap_each
    ["self", "indexes", "reason"] (defScope s_SwapLog_swap_each) :=
  ⟨rfl, rfl, rfl, by decide +kernel, rfl,
    by decide +kernel, by decide +kernel⟩
abbrev s_SwapLog_move : Stmt := inClass (topS 37) 11
abbrev N_SwapLog_move : List Str := ["self", "item", "index", "reason", "start"]
theorem sc_SwapLog_move : FnScope N_SwapLog_move
    ["self", "item", "index", "reason"] (defScope s_SwapLog_move) :=
  ⟨rfl, rfl, rfl, by decide +kernel, rfl,
    by decide +kernel, by decide +kernel⟩
abbrev s_SwapLog_adopt : Stmt := inClass (topS 37) 12
abbrev N_SwapLog_adopt : List Str := ["self", "order", "reason"]
theorem sc_SwapLog_adopt : FnScope N_SwapLog_adopt
    ["self", "order", "reason"] (defScope s_SwapLog_adopt) :=
  ⟨rfl, rfl, rfl, by decide +kernel, rfl,
    by decide +kernel, by decide +kernel⟩
abbrev s_SwapLog_check_position : Stmt := inClass (topS 37) 13
abbrev N_SwapLog_check_position : List Str := ["self", "position"]
theorem sc_SwapLog_check_position : FnScope N_SwapLog_check_position
    ["self", "position"] (defScope s_SwapLog_check_position) :=
  ⟨rfl, rfl, rfl, by decide +kernel, rfl,
    by decide +kernel, by decide +kernel⟩
abbrev s_SwapLog_remove_entry : Stmt := inClass (topS 37) 14
abbrev N_SwapLog_remove_entry : List Str := ["self", "position", "former", "again", "places", "at", "index", "reason", "cancelled"]
theorem sc_SwapLog_remove_entry : FnScope N_SwapLog_remove_entry
    ["self", "position"] (defScope s_SwapLog_remove_entry) :=
  ⟨rfl, rfl, rfl, by decide +kernel, rfl,
    by decide +kernel, by decide +kernel⟩
abbrev s_SwapLog_clear_entries : Stmt := inClass (topS 37) 15
abbrev N_SwapLog_clear_entries : List Str := ["self"]
theorem sc_SwapLog_clear_entries : FnScope N_SwapLog_clear_entries
    ["self"] (defScope s_SwapLog_clear_entries) :=
  ⟨rfl, rfl, rfl, by decide +kernel, rfl,
    by decide +kernel, by decide +kernel⟩
abbrev s_SwapLog_order_after : Stmt := inClass (topS 37) 16
abbrev N_SwapLog_order_after : List Str := ["self", "count"]
theorem sc_SwapLog_order_after : FnScope N_SwapLog_order_after
    ["self", "count"] (defScope s_SwapLog_order_after) :=
  ⟨rfl, rfl, rfl, by decide +kernel, rfl,
    by decide +kernel, by decide +kernel⟩
abbrev s_SwapLog_pair_at : Stmt := inClass (topS 37) 17
abbrev N_SwapLog_pair_at : List Str := ["self", "position"]
theorem sc_SwapLog_pair_at : FnScope N_SwapLog_pair_at
    ["self", "position"] (defScope s_SwapLog_pair_at) :=
  ⟨rfl, rfl, rfl, by decide +kernel, rfl,
    by decide +kernel, by decide +kernel⟩
abbrev s_SwapLog_entry_for : Stmt := inClass (topS 37) 18
abbrev N_SwapLog_entry_for : List Str := ["self", "first", "second", "pair", "pairs"]
theorem sc_SwapLog_entry_for : FnScope N_SwapLog_entry_for
    ["self", "first", "second"] (defScope s_SwapLog_entry_for) :=
  ⟨rfl, rfl, rfl, by decide +kernel, rfl,
    by decide +kernel, by decide +kernel⟩
abbrev s_Lrng : Stmt := topS 39
abbrev N_Lrng : List Str := ["_law_script", "_law_k", "_law_cell"]
theorem sc_Lrng : FnScope N_Lrng
    ["_law_script", "_law_k"] (defScope s_Lrng) :=
  ⟨rfl, rfl, rfl, by decide +kernel, rfl,
    by decide +kernel, by decide +kernel⟩
abbrev s_Ldraw : Stmt := topS 40
abbrev N_Ldraw : List Str := ["_law_rng_here", "_law_many", "_law_digit"]
theorem sc_Ldraw : FnScope N_Ldraw
    ["_law_rng_here", "_law_many"] (defScope s_Ldraw) :=
  ⟨rfl, rfl, rfl, by decide +kernel, rfl,
    by decide +kernel, by decide +kernel⟩
abbrev s_Lname : Stmt := topS 41
abbrev N_Lname : List Str := ["_law_rng_here", "_law_used", "_law_letters", "_law_length", "_law_name_here", "_law_k", "_law_fresh", "_law_one"]
theorem sc_Lname : FnScope N_Lname
    ["_law_rng_here", "_law_used"] (defScope s_Lname) :=
  ⟨rfl, rfl, rfl, by decide +kernel, rfl,
    by decide +kernel, by decide +kernel⟩
abbrev s_Lnames : Stmt := topS 42
abbrev N_Lnames : List Str := ["_law_rng_here", "_law_many", "_law_used", "_law_result", "_law_k"]
theorem sc_Lnames : FnScope N_Lnames
    ["_law_rng_here", "_law_many", "_law_used"] (defScope s_Lnames) :=
  ⟨rfl, rfl, rfl, by decide +kernel, rfl,
    by decide +kernel, by decide +kernel⟩
abbrev s_Lshuffled : Stmt := topS 43
abbrev N_Lshuffled : List Str := ["_law_rng_here", "_law_values", "_law_pool", "_law_k"]
theorem sc_Lshuffled : FnScope N_Lshuffled
    ["_law_rng_here", "_law_values"] (defScope s_Lshuffled) :=
  ⟨rfl, rfl, rfl, by decide +kernel, rfl,
    by decide +kernel, by decide +kernel⟩
abbrev s_Lnear_order : Stmt := topS 44
abbrev N_Lnear_order : List Str := ["_law_rng_here", "_law_order", "_law_many", "_law_result", "_law_turn", "_law_k"]
theorem sc_Lnear_order : FnScope N_Lnear_order
    ["_law_rng_here", "_law_order", "_law_many"] (defScope s_Lnear_order) :=
  ⟨rfl, rfl, rfl, by decide +kernel, rfl,
    by decide +kernel, by decide +kernel⟩
abbrev s_Linverted : Stmt := topS 45
abbrev N_Linverted : List Str := ["_law_items", "_law_order", "_law_place", "_law_item", "_law_k", "_law_result", "_law_first", "_law_second"]
theorem sc_Linverted : FnScope N_Linverted
    ["_law_items", "_law_order"] (defScope s_Linverted) :=
  ⟨rfl, rfl, rfl, by decide +kernel, rfl,
    by decide +kernel, by decide +kernel⟩
abbrev s_Lswapped_entries : Stmt := topS 46
abbrev N_Lswapped_entries : List Str := ["_law_items", "_law_entries", "_law_order", "_law_index", "_law_label", "_law_first", "_law_second", "_law_now", "_law_position", "_law_entry", "_law_at"]
theorem sc_Lswapped_entries : FnScope N_Lswapped_entries
    ["_law_items", "_law_entries", "_law_order", "_law_index", "_law_label"] (defScope s_Lswapped_entries) :=
  ⟨rfl, rfl, rfl, by decide +kernel, rfl,
    by decide +kernel, by decide +kernel⟩
abbrev s_Lswap : Stmt := topS 47
abbrev N_Lswap : List Str := ["_law_model", "_law_index", "_law_label", "_law_items", "_law_entries", "_law_order", "_law_position"]
theorem sc_Lswap : FnScope N_Lswap
    ["_law_model", "_law_index", "_law_label"] (defScope s_Lswap) :=
  ⟨rfl, rfl, rfl, by decide +kernel, rfl,
    by decide +kernel, by decide +kernel⟩
abbrev s_Lswaps : Stmt := topS 48
abbrev N_Lswaps : List Str := ["_law_model", "_law_path", "_law_label", "_law_positions", "_law_index", "_law_cancelled", "_law_position"]
theorem sc_Lswaps : FnScope N_Lswaps
    ["_law_model", "_law_path", "_law_label"] (defScope s_Lswaps) :=
  ⟨rfl, rfl, rfl, by decide +kernel, rfl,
    by decide +kernel, by decide +kernel⟩
abbrev s_Lpath_to : Stmt := topS 49
abbrev N_Lpath_to : List Str := ["_law_order", "_law_other", "_law_now", "_law_result", "_law_falling", "_law_k"]
theorem sc_Lpath_to : FnScope N_Lpath_to
    ["_law_order", "_law_other"] (defScope s_Lpath_to) :=
  ⟨rfl, rfl, rfl, by decide +kernel, rfl,
    by decide +kernel, by decide +kernel⟩
abbrev s_Lremoved : Stmt := topS 50
abbrev N_Lremoved : List Str := ["_law_model", "_law_position", "_law_entries", "_law_kept", "_law_place", "_law_entry", "_law_cancelled"]
theorem sc_Lremoved : FnScope N_Lremoved
    ["_law_model", "_law_position"] (defScope s_Lremoved) :=
  ⟨rfl, rfl, rfl, by decide +kernel, rfl,
    by decide +kernel, by decide +kernel⟩
abbrev s_Lcall : Stmt := topS 51
abbrev N_Lcall : List Str := ["_law_rng_here", "_law_log", "_law_model", "_law_items", "_law_way", "_law_label", "_law_index", "_law_told", "_law_item", "_law_here", "_law_path", "_law_k", "_law_other", "_law_position"]
theorem sc_Lcall : FnScope N_Lcall
    ["_law_rng_here", "_law_log", "_law_model"] (defScope s_Lcall) :=
  ⟨rfl, rfl, rfl, by decide +kernel, rfl,
    by decide +kernel, by decide +kernel⟩
abbrev s_Lstands : Stmt := topS 52
abbrev N_Lstands : List Str := ["_law_log", "_law_model", "_law_told"]
theorem sc_Lstands : FnScope N_Lstands
    ["_law_log", "_law_model"] (defScope s_Lstands) :=
  ⟨rfl, rfl, rfl, by decide +kernel, rfl,
    by decide +kernel, by decide +kernel⟩
abbrev s_Lpairs_after : Stmt := topS 53
abbrev N_Lpairs_after : List Str := ["_law_model", "_law_count", "_law_now", "_law_result", "_law_index", "_law_label"]
theorem sc_Lpairs_after : FnScope N_Lpairs_after
    ["_law_model", "_law_count"] (defScope s_Lpairs_after) :=
  ⟨rfl, rfl, rfl, by decide +kernel, rfl,
    by decide +kernel, by decide +kernel⟩
abbrev s_Lasked_right : Stmt := topS 54
abbrev N_Lasked_right : List Str := ["_law_rng_here", "_law_log", "_law_model", "_law_items", "_law_count", "_law_told", "_law_pairs", "_law_pair", "_law_position", "_law_places", "_law_k", "_law_own"]
theorem sc_Lasked_right : FnScope N_Lasked_right
    ["_law_rng_here", "_law_log", "_law_model"] (defScope s_Lasked_right) :=
  ⟨rfl, rfl, rfl, by decide +kernel, rfl,
    by decide +kernel, by decide +kernel⟩
abbrev s_Lright : Stmt := topS 55
abbrev N_Lright : List Str := ["_law_rng_here", "_law_many", "_law_items", "_law_log", "_law_model", "_law_turn"]
theorem sc_Lright : FnScope N_Lright
    ["_law_rng_here"] (defScope s_Lright) :=
  ⟨rfl, rfl, rfl, by decide +kernel, rfl,
    by decide +kernel, by decide +kernel⟩
abbrev s_law : Stmt := topS 56
abbrev N_law : List Str := ["_law_script", "_law_k"]
theorem sc_law : FnScope N_law
    ["_law_script"] (defScope s_law) :=
  ⟨rfl, rfl, rfl, by decide +kernel, rfl,
    by decide +kernel, by decide +kernel⟩
end OM
namespace OM
open PySem PySem.Spec PyProof.Rows L2
section
variable {P : Program} {w : World} {K : PySem.W.Frag}
  {mg : Str → Option Value} {base : Heap}
theorem at0 (x y : V) : atI [x, y] 0 = some x := atI_nat (j := 0) rfl
theorem at1 (x y : V) : atI [x, y] 1 = some y := atI_nat (j := 1) rfl
theorem ok_draw {f : Addr} {fd : FuncData} {k : Nat}
    (F : Fun K "_law_draw" "_law_draw" s_Ldraw f fd) (B : Bl mg) :
    FnOk P w K mg base CX0 (k + 1) f fd ["_law_rng_here", "_law_many"]
      spDraw := by
  refine F.ok sc_Ldraw (fun vs H Q E h => ?_)
    (fun cv A outer s H vs Q E hr h => ?_)
  · obtain ⟨p, m, rfl, _⟩ := h
    rfl
  obtain ⟨p, m, rfl, rg, m0, m1, q⟩ := h
  obtain ⟨a, b, hp, a0, b0, b1⟩ := rg
  have nd := sc_Ldraw.nd
  refine ⟨_, pss_cons (ps_if (pt_cmpR op_gt
      (pe_ix ix_list (pv 0) pe_int (fun _ _ => rfl)) pe_int (nomark _))
      (pss_cons (ps_asg (pe_callB call_divmod (by rfl) B.divmod bt_divmod
          (pa_cons (pe_ix ix_list (pv 0) pe_int (fun _ _ => rfl))
            (pa_cons (pv 1) pa_nil)))
        (pg_tup rfl (pgs_cons (pg_sub (pv 0) pe_int set_list)
          (pgs_cons (pg_name (i := 2) nd rfl (.inl rfl)) pgs_nil))))
        (pss_one (ps_ret (pv 2)))) pss_nil)
    (pss_cons (ps_asg (pe_op op_mod (pe_op op_add (pe_op op_mul
        (pe_ix ix_list (pv 0) pe_int (fun _ _ => rfl)) pe_int) pe_int) pe_int)
        (pg_sub (pv 0) pe_int set_list))
    (pss_one (ps_ret (pe_op op_mod (pe_op op_fdiv (pe_op op_mod (pe_op op_mul
        (pe_ix ix_list (pv 0) pe_int (fun _ _ => rfl))
        (pe_ix ix_list (pv 0) pe_int (fun _ _ => rfl))) pe_int) pe_int)
        (pv 1))))), ?_⟩
  refine ⟨_, rfl, p, _, 0, _, rfl, rfl, SqL.of hp, at0 _ _, _, _, rfl, rfl,
    _, rfl, ite2 (fun c => ?_) (fun c => ?_)⟩
  · have c' : 0 < a := of_decide_eq_true c
    refine ⟨_, rfl, p, _, 0, _, rfl, rfl, SqL.of hp, at0 _ _, _, rfl, a, m,
      rfl, ⟨m0, by omega⟩, fun t nt => ?_⟩
    have nt' : p ≠ t := ne_of_none hp nt
    have hp' : (upd H t (.tup [.int (a / m), .int (a % m)])) p =
        some (.lst [.int a, .int b]) := by rw [upd_ne nt']; exact hp
    refine ⟨t, _, rfl, .inl (.inl upd_same), rfl, _, _, rfl, _, rfl, p, _, 0,
      0, rfl, rfl, hp', rfl, _, _, rfl, rfl, _, rfl, ?_⟩
    refine q _ _ (Int.emod_nonneg _ (by omega)) (Int.emod_lt_of_pos _ m0)
      ⟨a / m, b, upd_same, Int.ediv_nonneg a0 (by omega), b0, b1⟩ ?_
    exact ((But.refl H).new nt).at
  · have b2 : 0 ≤ (b * 48271 + 10007) % 2147483587 :=
      Int.emod_nonneg _ (by decide)
    have b3 : (b * 48271 + 10007) % 2147483587 < 2147483587 :=
      Int.emod_lt_of_pos _ (by decide)
    refine ⟨_, rfl, p, _, 1, _, rfl, rfl, SqL.of hp, at1 _ _, _, _, rfl, rfl,
      .inl ⟨by omega, by omega⟩, _, _, rfl, rfl, _, _, rfl, rfl,
      (by show (0 : Int) < 2147483587; decide), _, rfl, p, _, 1, 1, rfl, rfl,
      hp, rfl, ?_⟩
    have hp' : (upd H p (.lst [.int a,
        .int ((b * 48271 + 10007) % 2147483587)])) p = _ := upd_same
    refine ⟨_, rfl, p, _, 1, _, rfl, rfl, SqL.of hp', at1 _ _, _, rfl, p, _,
      1, _, rfl, rfl, SqL.of hp', at1 _ _, _, _, rfl, rfl,
      .inl ⟨by omega, by omega⟩, _, _, rfl, rfl,
      (by show (0 : Int) < 2147483549; decide), _, _, rfl, rfl,
      ⟨by decide, by decide⟩, _, rfl, _, _, rfl, rfl, m0, ?_⟩
    refine q _ _ (Int.emod_nonneg _ (by omega)) (Int.emod_lt_of_pos _ m0)
      ⟨a, _, upd_same, a0, b2, by omega⟩ (But.refl H).at
end
end OM
namespace OM
open PySem PySem.Spec PyProof.Rows L2
section
variable {P : Program} {w : World} {K : PySem.W.Frag}
  {mg : Str → Option Value} {base : Heap}
theorem ifx_cut {tA : TT} {ta tb : TE} {σ : L2.St} {H : Hp} {R : VK}
    (v : V) (h : ∀ R : VK, R v H → tIf tA ta tb σ H R) (k : R v H) :
    tIf tA ta tb σ H R := h R k
theorem ok_rng {f : Addr} {fd : FuncData} {k : Nat}
    (F : Fun K "_law_rng" "_law_rng" s_Lrng f fd) (B : Bl mg) :
    FnOk P w K mg base CX0 (k + 1) f fd ["_law_script", "_law_k"]
      (spRng K) := by
  refine F.ok sc_Lrng (fun vs H Q E h => ?_)
    (fun cv A outer s H vs Q E hr h => ?_)
  · obtain ⟨a, ns, k, rfl, _⟩ := h
    rfl
  obtain ⟨a, ns, n, rfl, hS, hn, q⟩ := h
  have nd := sc_Lrng.nd
  refine ⟨_, pss_cons (ps_set (i := 2) nd rfl (.inl rfl) (pe_ifExp
      (pt_cmpR op_lt (pv 1) (pe_callB call_len_seq (by rfl) B.len
        PySem.boot_len (pa_cons (pv 0) pa_nil)) (nomark _))
      (pe_callB call_abs (by rfl) B.abs bt_abs
        (pa_cons (pe_ix ix_list (pv 0) (pv 1) (fun _ _ => rfl)) pa_nil))
      pe_int))
    (pss_one (ps_ret (pe_lst (pa_cons
      (pe_callB (call_max2 rfl) (by rfl) B.max bt_max
        (pa_cons pe_int (pa_cons (pe_op op_sub (pv 2)
          (pe_op op_pow pe_int pe_int)) pa_nil)))
      (pa_cons (pe_op op_add (pe_op op_mod (pe_op op_pow
        (pe_op op_add (pe_op op_add (pe_op op_mod (pv 2) pe_int)
          (pe_op op_mul pe_int (pv 1))) pe_int) pe_int) pe_int) pe_int)
        pa_nil))))), ?_⟩
  obtain ⟨c, hc⟩ : ∃ c : Int, (n < ns.length → c =
      if ns.getD n 0 < 0 then - ns.getD n 0 else ns.getD n 0) ∧
      (¬ n < ns.length → c = 0) := by
    by_cases h : n < ns.length
    · exact ⟨_, fun _ => rfl, fun z => absurd h z⟩
    · exact ⟨0, fun z => absurd z h, fun _ => rfl⟩
  refine ifx_cut (.int c) (fun R hR => ?_) ?_
  · refine ⟨_, rfl, _, rfl, a, _, rfl, .inl hS, _, _, rfl, rfl, _, rfl,
      ite2 (fun z => ?_) (fun z => ?_)⟩
    · have z' : (n : Int) < ((ns.map V.int).length : Int) :=
        of_decide_eq_true z
      rw [List.length_map] at z'
      have hn' : n < ns.length := by omega
      have g : (ns.map V.int)[n]? = some (.int (ns.getD n 0)) := by
        rw [List.getElem?_map, List.getElem?_eq_getElem hn',
          List.getD_eq_getElem?_getD, List.getElem?_eq_getElem hn']
        rfl
      refine ⟨_, rfl, _, rfl, a, _, n, _, rfl, rfl, hS, atI_nat g, _, rfl, ?_⟩
      rw [← hc.1 hn']
      exact hR
    · have z' : ¬ n < ns.length := fun y => z (decide_eq_true (by
        rw [List.length_map]; omega))
      rw [hc.2 z'] at hR
      exact hR
  · have c0 : 0 ≤ c % 2147483543 := Int.emod_nonneg _ (by decide)
    have c1 : c % 2147483543 < 2147483543 :=
      Int.emod_lt_of_pos _ (by decide)
    refine ⟨_, rfl, _, _, rfl, rfl, ⟨by decide, by decide, by decide⟩, _, _,
      rfl, rfl, _, _, rfl, _, rfl, _, _, rfl, rfl,
      (by show (0 : Int) < 2147483543; decide), _, rfl, _, _, rfl, rfl,
      .inl ⟨by decide, by decide⟩, _, _, rfl, rfl, _, _, rfl, rfl, _, _, rfl,
      rfl, ⟨by decide, by decide, by omega⟩, _, _, rfl, rfl,
      (by show (0 : Int) < 2147483497; decide), _, _, rfl, rfl,
      (by show 2 ≤ sizeLine; decide), fun p np => ?_⟩
    generalize hb : ((c % 2147483543 + 101 * (n : Int) + 7) ^
      (2 : Int).toNat) % 2147483497 = b
    have b0 : 0 ≤ b := by rw [← hb]; exact Int.emod_nonneg _ (by decide)
    have b1 : b < 2147483497 := by
      rw [← hb]; exact Int.emod_lt_of_pos _ (by decide)
    refine q p _ np ⟨_, b + 1, upd_same, ?_, by omega, by omega⟩
      (sameNew np)
    split <;> omega
end
end OM
namespace OM
open PySem PySem.Spec PyProof.Rows L2
abbrev lets : Str := "abcdefghijklmnopqrstuvwxyz"
theorem lets_tl : lets.cps.toList = List.range' 97 26 := by decide +kernel
theorem lets_at {i : Int} (h0 : 0 ≤ i) (h1 : i < 26) :
    atI lets.cps.toList i = some (97 + i.toNat) := by
  have e : i = ((i.toNat : Nat) : Int) := by omega
  rw [e, lets_tl]
  refine atI_nat ?_
  rw [Int.toNat_natCast, List.getElem?_range' (by omega)]
  simp
theorem yes {σ : L2.St} {H : Hp} {A B : Hp → Prop} (h : A H) :
    tYes σ H fun b H' => if b = true then A H' else B H' :=
  iteT (B := B H) h
theorem joinL_ones : ∀ cs : List Nat,
    TL.joinL [] (cs.map fun c => [c]) = cs
  | [] => rfl
  | [c] => rfl
  | c :: d :: r => by
    have ih := joinL_ones (d :: r)
    show [c] ++ [] ++ TL.joinL [] ((d :: r).map fun c => [c]) = _
    rw [ih]
    rfl
def nmB (l : List Nat) : Bool :=
  decide (1 ≤ l.length) && decide (l.length ≤ 8) &&
    l.all fun c => decide (97 ≤ c) && decide (c ≤ 122)
theorem nmB_iff {l : List Nat} : nmB l = true ↔ Nm l := by
  unfold nmB
  simp only [Bool.and_eq_true, decide_eq_true_eq, List.all_eq_true]
  exact ⟨fun ⟨⟨a, b⟩, c⟩ => ⟨a, b, c⟩, fun n => ⟨⟨n.lo, n.hi⟩, n.az⟩⟩
theorem nm_of (x : Str) (h : nmB x.cps.toList = true) :
    ∃ l, (.str x : V) = vS l ∧ Nm l :=
  ⟨x.cps.toList, by rw [vS, SX.S_tl], nmB_iff.mp h⟩
/-- an item of eight written ones -/
theorem at8 {α : Type} {P : α → Prop} {a b c d e f g h : α} {i : Int}
    (h0 : 0 ≤ i) (h1 : i < 8) (pa : P a) (pb : P b) (pc : P c) (pd : P d)
    (pe : P e) (pf : P f) (pg : P g) (ph : P h) :
    ∃ v, atI [a, b, c, d, e, f, g, h] i = some v ∧ P v := by
  have e : i = 0 ∨ i = 1 ∨ i = 2 ∨ i = 3 ∨ i = 4 ∨ i = 5 ∨ i = 6 ∨ i = 7 := by
    omega
  rcases e with rfl | rfl | rfl | rfl | rfl | rfl | rfl | rfl
  · exact ⟨a, rfl, pa⟩
  · exact ⟨b, rfl, pb⟩
  · exact ⟨c, rfl, pc⟩
  · exact ⟨d, rfl, pd⟩
  · exact ⟨_, rfl, pe⟩
  · exact ⟨f, rfl, pf⟩
  · exact ⟨g, rfl, pg⟩
  · exact ⟨h, rfl, ph⟩
theorem at4 {α : Type} {P : α → Prop} {a b c d : α} {i : Int}
    (h0 : 0 ≤ i) (h1 : i < 4) (pa : P a) (pb : P b) (pc : P c) (pd : P d) :
    ∃ v, atI [a, b, c, d] i = some v ∧ P v := by
  have e : i = 0 ∨ i = 1 ∨ i = 2 ∨ i = 3 := by omega
  rcases e with rfl | rfl | rfl | rfl
  · exact ⟨a, rfl, pa⟩
  · exact ⟨b, rfl, pb⟩
  · exact ⟨c, rfl, pc⟩
  · exact ⟨d, rfl, pd⟩
/-- a new name that is not among us -/
def spName (K : PySem.W.Frag) : Sp := fun vs H Q _ =>
  ∃ (p a : Addr) (us : List (List Nat)), vs = [.ref p, .ref a] ∧ Rng H p ∧
  SqL K H a (us.map vS) ∧ a ≠ p ∧ us.length ≤ 600 ∧
  ∀ (l : List Nat) (H' : Hp), Nm l → l ∉ us → Rng H' p → But p H H' →
    Q (vS l) H'
section
variable {P : Program} {w : World} {K : PySem.W.Frag}
  {mg : Str → Option Value} {base : Heap}
abbrev CalDraw (P : Program) (w : World) (K : PySem.W.Frag)
    (mg : Str → Option Value) (base : Heap) (k : Nat) : Prop :=
  Cal P w K mg base k "_law_draw" ["_law_rng_here", "_law_many"] spDraw
theorem ok_name {f : Addr} {fd : FuncData} {k : Nat}
    (F : Fun K "_law_name" "_law_name" s_Lname f fd) (B : Bl mg)
    (C : CalDraw P w K mg base k) :
    FnOk P w K mg base CX0 (k + 1) f fd ["_law_rng_here", "_law_used"]
      (spName K) := by
  refine F.ok sc_Lname (fun vs H Q E h => ?_)
    (fun cv A outer s H vs Q E hr h => ?_)
  · obtain ⟨p, a, us, rfl, _⟩ := h
    rfl
  obtain ⟨p, a, us, rfl, rg, hS, nap, hus, q⟩ := h
  have nd := sc_Lname.nd
  refine ⟨_, C8.pss_cut (ps_set (i := 2) nd rfl (.inr rfl) pe_str)
    (C8.pss_cut (ps_set (i := 3) nd rfl (.inl rfl) (pe_ix ix_list
      (pe_lst (pa_cons pe_int (pa_cons pe_int (pa_cons pe_int (pa_cons
        (pe_op op_add pe_int (pe_cal C hr (pa_cons (pv 0)
          (pa_cons pe_int pa_nil)))) pa_nil)))))
      (pe_cal C hr (pa_cons (pv 0) (pa_cons pe_int pa_nil)))
      (fun _ _ => rfl)))
    (C8.pss_cut (ps_set (i := 4) nd rfl (.inr rfl) (pe_join pe_str
      (pe_lc (own := [("_law_k", 5)]) (g := gName 5) (tt := tYes) rfl nd
        (pi_range1 (by rfl) B.range (pa_cons (pv 3) pa_nil))
        (blkOk_by (N := N_Lname) (sc := defScope s_Lname) (by decide +kernel))
        (fun _ _ _ _ _ => pg_name (i := 5) nd rfl (Or.inl rfl))
        (fun _ _ _ _ _ => pts_nil)
        (fun _ _ _ _ _ => pe_ix ix_str (pv 2)
          (pe_cal C hr (pa_cons (pv 0) (pa_cons pe_int pa_nil)))
          (fun _ _ => rfl)))))
    (C8.pss_cut (ps_if (pt_cmpR op_eq (pe_cal C hr (pa_cons (pv 0)
        (pa_cons pe_int pa_nil))) pe_int (nomark _))
      (pss_one (ps_set (i := 4) nd rfl (.inr rfl) (pe_ix ix_list
        (pe_lst (pa_cons pe_str (pa_cons pe_str (pa_cons pe_str (pa_cons
          pe_str (pa_cons pe_str (pa_cons pe_str (pa_cons pe_str (pa_cons
          pe_str pa_nil)))))))))
        (pe_cal C hr (pa_cons (pv 0) (pa_cons pe_int pa_nil)))
        (fun _ _ => rfl)))) pss_nil)
    (C8.pss_cut (ps_set (i := 6) nd rfl (.inl rfl) (pe_op op_cat
      (pe_lst (pa_cons (pv 4) pa_nil))
      (pe_lc (own := [("_law_k", 5)]) (g := gName 5) (tt := tYes) rfl nd
        (pi_range1 (by rfl) B.range (pa_cons pe_int pa_nil))
        (blkOk_by (N := N_Lname) (sc := defScope s_Lname) (by decide +kernel))
        (fun _ _ _ _ _ => pg_name (i := 5) nd rfl (Or.inl rfl))
        (fun _ _ _ _ _ => pts_nil)
        (fun _ _ _ _ _ => pe_op op_add_str (pe_op op_add_str
          (pe_slice sl_str (pv 4) po_none (po_some pe_int))
          (pe_ix ix_str (pv 2) (pe_op op_fdiv (pv 5) pe_int)
            (fun _ _ => rfl)))
          (pe_ix ix_str (pv 2) (pe_op op_mod (pv 5) pe_int)
            (fun _ _ => rfl))))))
    (pss_one (ps_ret (pe_ix ix_list
      (pe_lc (own := [("_law_one", 7)]) (g := gName 7) rfl nd
        (pi_list (pv 6))
        (blkOk_by (N := N_Lname) (sc := defScope s_Lname) (by decide +kernel))
        (fun _ _ _ _ _ => pg_name (i := 7) nd rfl (Or.inl rfl))
        (fun _ _ _ _ _ => pts_one (pt_cmpR (r := rIn K true) op_notIn_seq (pv 7) (pv 1) (by rfl)))
        (fun _ _ _ _ _ => pv 7))
      pe_int (fun _ _ => rfl)))))))), ?_⟩
  -- letters
  refine ⟨fun σ' H' => σ' = [some (.ref p), some (.ref a), some (.str lets),
    none, none, none, none, none] ∧ H = H', ⟨rfl, rfl⟩, ?_⟩
  rintro _ _ ⟨rfl, rfl⟩
  -- length
  refine ⟨fun σ' H' => ∃ n : Int, 1 ≤ n ∧ n ≤ 8 ∧ σ' = [some (.ref p),
    some (.ref a), some (.str lets), some (.int n), none, none, none, none] ∧
    Rng H' p ∧ But p H H', ?_, ?_⟩
  · refine ⟨_, rfl, p, 8, rfl, rg, by decide, by decide,
      fun d H1 d0 d1 rg1 b1 => ⟨_, _, rfl, rfl, sz (by simp), fun t nt =>
      ⟨_, rfl, p, 4, rfl, rg1.same (sameNew nt), by decide, by decide,
      fun d2 H2 e0 e1 rg2 b2 => ?_⟩⟩⟩
    have ne : t ≠ p := (rg1.ne nt).symm
    obtain ⟨v, hv, n, rfl, n0, n1⟩ := at4 (a := V.int 1) (b := V.int 1)
      (c := V.int 2) (d := V.int (1 + d))
      (P := fun v => ∃ n : Int, v = .int n ∧ 1 ≤ n ∧ n ≤ 8) e0 e1
      ⟨1, rfl, by omega, by omega⟩ ⟨1, rfl, by omega, by omega⟩
      ⟨2, rfl, by omega, by omega⟩ ⟨1 + d, rfl, by omega, by omega⟩
    exact ⟨t, _, d2, _, rfl, rfl, SqL.of (b2 t _ upd_same ne), hv, n, n0, n1,
      rfl, rg2, (b1.put nt ne).trans b2⟩
  rintro _ H1 ⟨n, n0, n1, rfl, rg1, b1⟩
  -- the letters drawn
  refine ⟨fun σ' H' => ∃ l, Nm l ∧ σ' = [some (.ref p), some (.ref a),
    some (.str lets), some (.int n), some (vS l), none, none, none] ∧
    Rng H' p ∧ But p H H', ?_, ?_⟩
  · refine ⟨⟨_, rfl⟩, _, rfl, n, rfl, by omega, by omega, fun D nD => ?_⟩
    have ne : D ≠ p := (rg1.ne nD).symm
    refine lc_range (lo := 0) (n := n.toNat) (fun i H' => ∃ cs : List Nat,
      cs.length = i ∧ (∀ c ∈ cs, 97 ≤ c ∧ c ≤ 122) ∧
      H' D = some (.lst (cs.map fun c => vS [c])) ∧ Rng H' p ∧ But p H H')
      ⟨[], rfl, nofun, upd_same, rg1.same (sameNew nD), b1.put nD ne⟩ ?_ ?_
    · rintro i H2 hi ⟨cs, hl, az, hD, rg2, b2⟩
      refine ⟨rfl, yes ⟨_, rfl, _, rfl, p, 26, rfl, rg2, by decide,
        by decide, fun d H3 d0 d1 rg3 b3 => ⟨_, d, _, rfl, rfl,
        sz (by decide), lets_at d0 d1, _, b3 D _ hD ne, ?_, cs ++
        [97 + d.toNat], ?_, ?_, ?_, ?_, ?_⟩⟩⟩
      · rw [List.length_map]
        exact sz' (by omega)
      · rw [List.length_append, hl]
        rfl
      · intro c hc
        rcases List.mem_append.mp hc with h | h
        · exact az c h
        · rcases List.mem_cons.mp h with h | h
          · omega
          · cases h
      · rw [upd_same, List.map_append]
        rfl
      · exact rg3.but (But.at (p := D) (But.refl H3)) ne.symm
      · exact (b2.trans b3).new (b1.free ne nD)
    · rintro H2 ⟨cs, hl, az, hD, rg2, b2⟩
      refine ⟨_, D, cs.map fun c => SX.S [c], rfl, rfl,
        .inl (SqL.of (by rw [List.map_map]; exact hD)), ?_, cs,
        ⟨by omega, by omega, az⟩, ?_, rg2, b2⟩
      · have e1 : ((cs.map fun c => SX.S [c]).map fun x => x.length).sum =
            cs.length := by
          rw [List.map_map]
          clear hl az hD
          induction cs with
          | nil => rfl
          | cons c cs ih =>
            rw [List.map_cons, List.sum_cons, ih, List.length_cons]
            show 1 + cs.length = cs.length + 1
            omega
        rw [e1, List.length_map, show (Str.ofString "").length = 0 from rfl]
        omega
      · have e2 : Txt.join (Str.ofString "") (cs.map fun c => SX.S [c]) =
            SX.S cs := by
          have := SX.join_S [] (cs.map fun c => [c])
          rw [List.map_map, joinL_ones] at this
          exact this
        rw [e2]
        rfl
  rintro _ H2 ⟨l, nl, rfl, rg2, b2⟩
  -- a command's name
  refine ⟨fun σ' H' => ∃ l, Nm l ∧ σ' = [some (.ref p), some (.ref a),
    some (.str lets), some (.int n), some (vS l), none, none, none] ∧
    Rng H' p ∧ But p H H', ?_, ?_⟩
  · refine ⟨_, rfl, p, 8, rfl, rg2, by decide, by decide,
      fun d H3 d0 d1 rg3 b3 => ⟨rfl, _, rfl, ite2 (fun _ => ?_)
        (fun _ => ⟨l, nl, rfl, rg3, b2.trans b3⟩)⟩⟩
    refine ⟨sz (by decide), fun t nt => ⟨_, rfl, p, 8, rfl,
      rg3.same (sameNew nt), by decide, by decide,
      fun d2 H4 e0 e1 rg4 b4 => ?_⟩⟩
    have ne : t ≠ p := (rg3.ne nt).symm
    obtain ⟨v, hv, l', rfl, nl'⟩ := at8 (P := fun v => ∃ l, v = vS l ∧ Nm l)
      e0 e1 (nm_of "swap" (by decide +kernel)) (nm_of "move" (by decide +kernel))
      (nm_of "base" (by decide +kernel)) (nm_of "users" (by decide +kernel))
      (nm_of "merged" (by decide +kernel)) (nm_of "log" (by decide +kernel))
      (nm_of "ok" (by decide +kernel)) (nm_of "undo" (by decide +kernel))
    exact ⟨t, _, d2, _, rfl, rfl, SqL.of (b4 t _ upd_same ne), hv, l', nl',
      rfl, rg4, ((b2.trans b3).put nt ne).trans b4⟩
  clear nl rg2 b2
  rintro _ H2 ⟨l, nl, rfl, rg2, b2⟩
  -- names to fall back upon
  refine ⟨fun σ' H' => ∃ fr, σ' = [some (.ref p), some (.ref a),
    some (.str lets), some (.int n), some (vS l), none, some (.ref fr), none]
    ∧ fr ≠ p ∧ H' fr = some (.lst ((fresh l).map vS)) ∧
    Rng H' p ∧ But p H H', ?_, ?_⟩
  · refine ⟨_, rfl, sz (by simp), fun t nt => ?_⟩
    have ne : t ≠ p := (rg2.ne nt).symm
    refine ⟨676, rfl, by decide, by decide, fun D nD => ?_⟩
    have rg3 : Rng (upd H2 t (.lst [vS l])) p := rg2.same (sameNew nt)
    have neD : D ≠ p := (rg3.ne nD).symm
    have net : t ≠ D := fun e => by rw [← e, upd_same] at nD; cases nD
    have b3 : But p H (upd H2 t (.lst [vS l])) := b2.put nt ne
    refine lc_range (lo := 0) (n := 676) (fun i H' =>
      H' D = some (.lst (((List.range i).map (frs6 l)).map vS)) ∧
      H' t = some (.lst [vS l]) ∧ Rng H' p ∧ But p H H')
      ⟨upd_same, by rw [upd_ne net, upd_same], rg3.same (sameNew nD),
        b3.put nD neD⟩ ?_ ?_
    · rintro i H4 hi ⟨hD, ht, rg4, b4⟩
      have f1 : 0 ≤ (0 + (i : Int)) / 26 := by omega
      have f2 : (0 + (i : Int)) / 26 < 26 := by omega
      have f3 : 0 ≤ (0 + (i : Int)) % 26 := by omega
      have f4 : (0 + (i : Int)) % 26 < 26 := by omega
      have ll := nl.hi
      have ec : cutS (SX.S l) none (some 6) = SX.S (l.take 6) := by
        rw [C8.cutS_slice, SX.slice_to (by decide)]
        rfl
      refine ⟨rfl, yes ⟨_, rfl, 6, rfl, SX.S l, rfl,
        sz (by rw [SX.S_len]; omega), _, rfl, _, rfl, _, _, rfl, rfl,
        ⟨by decide, by decide⟩, _, _, _, rfl, rfl, sz (by decide),
        lets_at f1 f2, _, _, rfl, rfl, ?_, _, rfl, _, rfl, _, _, rfl, rfl,
        (by show (0 : Int) < 26; decide), _, _, _, rfl, rfl, sz (by decide),
        lets_at f3 f4, _, _, rfl, rfl, ?_, _, hD, ?_, ?_, ?_, ?_, ?_⟩⟩
      · rw [ec, SX.S_len, List.length_take]
        show min 6 l.length + 1 ≤ _
        exact sz (by omega)
      · rw [ec, strLen_append, SX.S_len, List.length_take]
        show min 6 l.length + 1 + 1 ≤ _
        exact sz (by omega)
      · rw [List.length_map, List.length_map, List.length_range]
        exact sz' (by omega)
      · rw [upd_same, ec]
        have e5 : SX.S (l.take 6) ++ (⟨#[97 + ((0 + (i : Int)) / 26).toNat]⟩ :
            Str) ++ ⟨#[97 + ((0 + (i : Int)) % 26).toNat]⟩ =
            SX.S (frs6 l i) := by
          have e6 : ((0 + (i : Int)) / 26).toNat = i / 26 := by omega
          have e7 : ((0 + (i : Int)) % 26).toNat = i % 26 := by omega
          rw [e6, e7]
          show SX.S (l.take 6) ++ SX.S [97 + i / 26] ++ SX.S [97 + i % 26] = _
          rw [SX.S_cat, SX.S_cat]
          unfold frs6
          rw [List.append_assoc]
          rfl
        rw [e5, List.range_succ, List.map_append, List.map_append]
        rfl
      · rw [upd_ne net]
        exact ht
      · exact rg4.but (But.at (p := D) (But.refl H4)) neD.symm
      · exact b4.new (b3.free neD nD)
    · rintro H4 ⟨hD, ht, rg4, b4⟩
      refine ⟨t, D, _, _, rfl, rfl, ht, hD, ?_, fun fr nfr => ⟨fr, rfl,
        (rg4.ne nfr).symm, ?_, rg4.same (sameNew nfr),
        b4.put nfr (rg4.ne nfr).symm⟩⟩
      · rw [List.length_map, List.length_map, List.length_range]
        exact sz (by simp)
      · rw [upd_same]
        rfl
  clear rg2 b2
  rintro _ H3 ⟨fr, rfl, nfp, hfr, rg3, b3⟩
  -- the first one that is free
  refine ⟨_, rfl, fr, rfl, ⟨_, SqL.of hfr⟩, fun D nD => ?_⟩
  have neD : D ≠ p := (rg3.ne nD).symm
  have nfD : fr ≠ D := ne_of_none hfr nD
  have hS3 : SqL K H3 a (us.map vS) := b3.seq hS nap
  have naD : SqL K (upd H3 D (.lst [])) a (us.map vS) := (sameNew nD).seq hS3
  refine lc_list (K := K) (a := fr) (xs := (fresh l).map vS) (fun i H' =>
    H' D = some (.lst ((((fresh l).take i).filter
      (fun y => decide (y ∉ us))).map vS)) ∧
    H' fr = some (.lst ((fresh l).map vS)) ∧ Rng H' p ∧ But p H3 H' ∧
    SqL K H' a (us.map vS))
    ⟨upd_same, by rw [upd_ne nfD]; exact hfr, rg3.same (sameNew nD),
      (But.refl H3).put nD neD, naD⟩ (fun i H' _ z => SqL.of z.2.1) ?_ ?_
  · rintro i y H4 hy ⟨hD, hf, rg4, b4, hS4⟩
    rw [List.getElem?_map] at hy
    obtain ⟨x, hx, rfl⟩ : ∃ x, (fresh l)[i]? = some x ∧ vS x = y := by
      cases e : (fresh l)[i]? with
      | none => rw [e] at hy; cases hy
      | some x => rw [e] at hy; exact ⟨x, rfl, Option.some.inj hy⟩
    have et : (fresh l).take (i + 1) = (fresh l).take i ++ [x] := by
      rw [List.take_add_one, hx]
      rfl
    refine ⟨rfl, _, rfl, _, rfl, a, _, rfl, .inl hS4, rfl, flat_S us, _, rfl,
      ?_⟩
    rw [inV_S]
    have hlen : ((((fresh l).take i).filter
        (fun y => decide (y ∉ us))).map vS).length < sizeLine := by
      rw [List.length_map]
      refine sz' (Nat.lt_of_le_of_lt (List.length_filter_le _ _) ?_)
      rw [List.length_take]
      have : (fresh l).length = 677 := by
        unfold fresh
        rw [List.length_cons, List.length_map, List.length_range]
      omega
    by_cases hm : x ∈ us
    · rw [decide_eq_true hm]
      refine iteF ⟨?_, hf, rg4, b4, hS4⟩
      rw [hD, et, List.filter_append, List.filter_cons_of_neg (by simp [hm]),
        List.filter_nil, List.append_nil]
    · rw [decide_eq_false hm]
      refine iteT ⟨_, rfl, _, hD, hlen, ?_, ?_, ?_, ?_, ?_⟩
      · rw [upd_same, et, List.filter_append,
          List.filter_cons_of_pos (by simp [hm]), List.filter_nil,
          List.map_append]
        rfl
      · rw [upd_ne nfD]
        exact hf
      · exact rg4.but (But.at (p := D) (But.refl H4)) neD.symm
      · exact b4.new nD
      · have naD' : But D H4 (upd H4 D (.lst ((((fresh l).take i).filter
            (fun y => decide (y ∉ us))).map vS ++ [vS x]))) :=
          But.at (But.refl H4)
        by_cases had : a = D
        · subst had
          rcases hS3 with (h | ⟨o, h⟩) | h
          · rw [h] at nD; cases nD
          · rw [h] at nD; cases nD
          · exact .inr h
        · exact naD'.seq hS4 had
  · rintro H4 ⟨hD, hf, rg4, b4, hS4⟩
    obtain ⟨x, r, ex⟩ := fresh_some (l := l) (us := us) (by omega)
    rw [List.take_of_length_le (by rw [List.length_map]; exact Nat.le_refl _),
      ex] at hD
    have mx : x ∈ (fresh l).filter (fun y => decide (y ∉ us)) := by
      rw [ex]; exact List.mem_cons_self
    have mx' := List.mem_filter.mp mx
    exact ⟨D, _, 0, _, rfl, rfl, SqL.of hD, atI_nat (j := 0) rfl,
      q x H4 (fresh_nm nl x mx'.1) (of_decide_eq_true mx'.2) rg4
        (b3.trans b4)⟩
end
end OM
namespace OM
open PySem PySem.Spec PyProof.Rows L2
/-- some new names -/
def spNames : Sp := fun vs H Q _ =>
  ∃ (p u : Addr) (m : Nat) (us : List (List Nat)),
  vs = [.ref p, .int m, .ref u] ∧ Rng H p ∧ H u = some (.lst (us.map vS)) ∧
  u ≠ p ∧ m ≤ 100 ∧ us.length ≤ 400 ∧
  ∀ (q : Addr) (ls : List (List Nat)) (H' : Hp), H q = none →
    ls.length = m → (∀ l ∈ ls, Nm l) → ls.Nodup → (∀ l ∈ ls, l ∉ us) →
    H' q = some (.lst (ls.map vS)) → Rng H' p → But p H H' →
    Q (.ref q) H'
section
variable {P : Program} {w : World} {K : PySem.W.Frag}
  {mg : Str → Option Value} {base : Heap}
theorem ok_names {f : Addr} {fd : FuncData} {k : Nat}
    (F : Fun K "_law_names" "_law_names" s_Lnames f fd) (B : Bl mg)
    (C : Cal P w K mg base k "_law_name" ["_law_rng_here", "_law_used"]
      (spName K)) :
    FnOk P w K mg base CX0 (k + 1) f fd
      ["_law_rng_here", "_law_many", "_law_used"] spNames := by
  refine F.ok sc_Lnames (fun vs H Q E h => ?_)
    (fun cv A outer s H vs Q E hr h => ?_)
  · obtain ⟨p, u, m, us, rfl, _⟩ := h
    rfl
  obtain ⟨p, u, m, us, rfl, rg, hu, nup, hm, hus, q⟩ := h
  have nd := sc_Lnames.nd
  refine ⟨_, pss_cons (ps_set (i := 3) nd rfl (.inl rfl) (pe_lst pa_nil))
    (pss_cons (ps_for PassesOwn.never rfl
      (pi_range1 (by rfl) B.range (pa_cons (pv 1) pa_nil))
      (pg_name (i := 4) nd rfl (.inl rfl))
      (pss_one (ps_expr (pe_bm PySem.F.plainAttrs_list
        PySem.F.slot_list_append PySem.F.type_list_append mt_append (pv 3)
        (pa_cons (pe_cal C hr (pa_cons (pv 0) (pa_cons
          (pe_op op_cat (pv 2) (pv 3)) pa_nil))) pa_nil)))))
    (pss_one (ps_ret (pv 3)))), ?_⟩
  refine ⟨sz (by simp), fun r nr => ?_⟩
  have nrp : r ≠ p := (rg.ne nr).symm
  have nru : u ≠ r := ne_of_none hu nr
  refine ⟨_, rfl, m, rfl, by omega, by omega, ?_⟩
  refine for_range (lo := 0) (n := m) (fun i σ H' => ∃ (ls : List (List Nat))
      (v : Option V), σ = [some (.ref p), some (.int m), some (.ref u),
      some (.ref r), v] ∧ ls.length = i ∧ (∀ l ∈ ls, Nm l) ∧ ls.Nodup ∧
      (∀ l ∈ ls, l ∉ us) ∧ H' r = some (.lst (ls.map vS)) ∧ Rng H' p ∧
      But p H H')
    ⟨[], none, rfl, rfl, nofun, List.nodup_nil, nofun, upd_same,
      rg.same (sameNew nr), (But.refl H).put nr nrp⟩ ?_ ?_
  · rintro i σ H1 hi ⟨ls, v, rfl, hl, nm, nd1, no, h1, rg1, b1⟩
    refine ⟨_, rfl, .inl ⟨rfl, _, SqL.of h1⟩, _, rfl, _, rfl, _, rfl, u, r,
      _, _, rfl, rfl, b1 u _ hu nup, h1, ?_, fun t nt => ?_⟩
    · rw [List.length_map, List.length_map]
      exact sz (by omega)
    have ntp : t ≠ p := (rg1.ne nt).symm
    have ntr : r ≠ t := ne_of_none h1 nt
    refine ⟨p, t, us ++ ls, rfl, rg1.same (sameNew nt), ?_, ntp, ?_,
      fun l H2 nl ni rg2 b2 => ?_⟩
    · rw [List.map_append]
      exact SqL.of upd_same
    · rw [List.length_append]
      omega
    · have h2 : H2 r = some (.lst (ls.map vS)) :=
        b2 r _ (by rw [upd_ne ntr]; exact h1) nrp
      refine ⟨r, _, _, rfl, rfl, h2, ?_, ls ++ [l], _, rfl, ?_, ?_, ?_, ?_, ?_,
        ?_, ?_⟩
      · rw [List.length_map]
        exact sz' (by omega)
      · rw [List.length_append, hl]
        rfl
      · intro x hx
        rcases List.mem_append.mp hx with h | h
        · exact nm x h
        · rw [List.mem_singleton.mp h]
          exact nl
      · refine List.nodup_append.mpr ⟨nd1, by simp, ?_⟩
        intro x hx y hy e
        rw [List.mem_singleton.mp hy] at e
        exact ni (List.mem_append_right _ (e ▸ hx))
      · intro x hx
        rcases List.mem_append.mp hx with h | h
        · exact no x h
        · rw [List.mem_singleton.mp h]
          exact fun z => ni (List.mem_append_left _ z)
      · rw [upd_same, List.map_append]
        rfl
      · exact rg2.but (But.at (p := r) (But.refl H2)) nrp.symm
      · exact ((b1.put nt ntp).trans b2).new nr
  · rintro σ H1 ⟨ls, v, rfl, hl, nm, nd1, no, h1, rg1, b1⟩
    exact ⟨_, rfl, q r ls H1 nr hl nm nd1 no h1 rg1 b1⟩
end
end OM
namespace OM
open PySem PySem.Spec PyProof.Rows L2
theorem erase_perm {α : Type} {l : List α} {i : Nat} (h : i < l.length) :
    (l[i] :: l.eraseIdx i).Perm l := by
  rw [List.eraseIdx_eq_take_drop_succ]
  refine List.perm_middle.symm.trans ?_
  rw [← List.drop_eq_getElem_cons h, List.take_append_drop]
/-- the values in another sequence -/
def spShuf (K : PySem.W.Frag) : Sp := fun vs H Q _ =>
  ∃ (p a : Addr) (xs : List V), vs = [.ref p, .ref a] ∧ Rng H p ∧
  SqL K H a xs ∧ a ≠ p ∧ xs.length ≤ 1000 ∧
  ∀ (q : Addr) (ys : List V) (H' : Hp), H q = none → ys.Perm xs →
    H' q = some (.lst ys) → Rng H' p → But p H H' → Q (.ref q) H'
section
variable {P : Program} {w : World} {K : PySem.W.Frag}
  {mg : Str → Option Value} {base : Heap}
theorem ok_shuf {f : Addr} {fd : FuncData} {k : Nat}
    (F : Fun K "_law_shuffled" "_law_shuffled" s_Lshuffled f fd) (B : Bl mg)
    (C : CalDraw P w K mg base k) :
    FnOk P w K mg base CX0 (k + 1) f fd ["_law_rng_here", "_law_values"]
      (spShuf K) := by
  refine F.ok sc_Lshuffled (fun vs H Q E h => ?_)
    (fun cv A outer s H vs Q E hr h => ?_)
  · obtain ⟨p, a, xs, rfl, _⟩ := h
    rfl
  obtain ⟨p, a, xs, rfl, rg, hS, nap, hx, q⟩ := h
  have nd := sc_Lshuffled.nd
  refine ⟨_, pss_cons (ps_set (i := 2) nd rfl (.inr rfl)
      (pe_callTy call_list_of (by rfl) B.list bt_list (pa_cons (pv 1) pa_nil)))
    (pss_one (ps_ret
      (pe_lc (own := [("_law_k", 3)]) (g := gName 3) (tt := tYes)
        (te := tBM K "list" rPopAt (tVar 2) (tCons (tCall spDraw [] E0
          (tCons (tVar 0) (tCons (tCB (rLenK K) (tCons (tVar 2) tNil)) tNil)))
          tNil)) rfl nd
        (pi_range1 (by rfl) B.range (pa_cons
          (pe_callB call_len_seq (by rfl) B.len PySem.boot_len
            (pa_cons (pv 1) pa_nil)) pa_nil))
        (blkOk_by (N := N_Lshuffled) (sc := defScope s_Lshuffled)
          (by decide +kernel))
        (fun _ _ _ _ _ => pg_name (i := 3) nd rfl (Or.inl rfl))
        (fun _ _ _ _ _ => pts_nil)
        (fun _ _ _ _ _ => pe_bm PySem.F.plainAttrs_list
          PySem.F.slot_list_pop PySem.F.type_list_pop mt_popAt (pv 2)
          (pa_cons (pe_cal C hr (pa_cons (pv 0) (pa_cons
            (pe_callB (r := rLenK K) call_lenK (by rfl) B.len
              PySem.boot_len (pa_cons (pv 2) pa_nil)) pa_nil))) pa_nil))))),
    ?_⟩
  refine ⟨_, rfl, a, _, rfl, .inl hS, fun o no => ?_⟩
  have hS1 := (sameNew (o := .lst xs) no).seq hS
  have rg1 : Rng (upd H o (.lst xs)) p := rg.same (sameNew no)
  have nop : o ≠ p := (rg.ne no).symm
  refine ⟨_, rfl, a, _, rfl, .inl hS1, _, rfl, by omega, by omega,
    fun D nD => ?_⟩
  have nDp : D ≠ p := (rg1.ne nD).symm
  have nDo : D ≠ o := fun e => by rw [e, upd_same] at nD; cases nD
  have fD : H D = none := (upd_ne (H := H) (o := .lst xs) nDo).symm.trans nD
  refine lc_range (lo := 0) (n := xs.length) (fun i H' => ∃ ac rs : List V,
    ac.length = i ∧ (ac ++ rs).Perm xs ∧ H' D = some (.lst ac) ∧
    H' o = some (.lst rs) ∧ Rng H' p ∧ But p H H')
    ⟨[], xs, rfl, List.Perm.refl _, upd_same,
      by rw [upd_ne nDo.symm, upd_same], rg1.same (sameNew nD),
      ((But.refl H).put no nop).put nD nDp⟩ ?_ ?_
  · rintro i H1 hi ⟨ac, rs, hl, pm, hD, ho, rg2, b2⟩
    have len : ac.length + rs.length = xs.length := by
      have := pm.length_eq
      rw [List.length_append] at this
      exact this
    refine ⟨rfl, yes ⟨_, rfl, .inl ⟨rfl, _, SqL.of ho⟩, _, rfl, _, rfl, o, _,
      rfl, .inl (SqL.of ho), p, rs.length, rfl, rg2, by omega, by omega,
      fun d H2 d0 d1 rg3 b3 => ?_⟩⟩
    have hd : d.toNat < rs.length := by omega
    refine ⟨o, rs, d, d.toNat, rs[d.toNat], rfl, rfl, b3 o _ ho nop, by omega,
      by omega, ?_, List.getElem?_eq_getElem hd, ac, ?_, sz' (by omega),
      ac ++ [rs[d.toNat]], rs.eraseIdx d.toNat, ?_, ?_, ?_, ?_, ?_, ?_⟩
    · exact seqIndex_of d0 d1
    · rw [upd_ne nDo]
      exact b3 D _ hD nDp
    · rw [List.length_append, hl]
      rfl
    · refine List.Perm.trans ?_ pm
      rw [List.append_assoc]
      exact List.Perm.append_left _ (erase_perm hd)
    · exact upd_same
    · rw [upd_ne nDo.symm, upd_same]
    · exact (rg3.but (But.at (p := o) (But.refl H2)) nop.symm).but
        (But.at (p := D) (But.refl _)) nDp.symm
    · exact ((b2.trans b3).new no).new fD
  · rintro H1 ⟨ac, rs, hl, pm, hD, ho, rg2, b2⟩
    have len : ac.length + rs.length = xs.length := by
      have := pm.length_eq
      rw [List.length_append] at this
      exact this
    have e : rs = [] := List.length_eq_zero_iff.mp (by omega)
    rw [e, List.append_nil] at pm
    exact q D ac H1 fD pm hD rg2 b2
end
end OM
namespace OM
open PySem PySem.Spec PyProof.Rows L2
theorem lt1 (c d : Nat) : decide (([c] : List Nat) < [d]) = decide (c < d) := by
  by_cases h : c < d
  · rw [decide_eq_true h]
    refine decide_eq_true ?_
    rw [List.cons_lt_cons_iff]
    exact Or.inl h
  · rw [decide_eq_false h]
    refine decide_eq_false fun z => ?_
    rw [List.cons_lt_cons_iff] at z
    rcases z with z | ⟨_, z⟩
    · exact h z
    · exact absurd z (by simp)
def azB (c : Nat) : Bool := decide (97 ≤ c) && decide (c ≤ 122)
theorem all_az (l : List Nat) :
    ((l.map azB).all id) = l.all azB := by
  rw [List.all_map]
  rfl
/-- is it a name: a text, or a value of another type -/
def spIsName (K : PySem.W.Frag) : Sp := fun vs H Q _ => ∃ v, vs = [v] ∧
  ((∃ x : Str, v = .str x ∧ x.length ≤ sizeLine ∧ ∀ H', Same H H' →
      Q (.bl (nmB x.cps.toList)) H') ∨
   (∃ t, TyX K H v t ∧ PySem.W.kitOne K t (.type "str") = some false ∧
      Q (.bl false) H))
section
variable {P : Program} {w : World} {K : PySem.W.Frag}
  {mg : Str → Option Value} {base : Heap}
theorem ok_isname {f : Addr} {fd : FuncData} {k : Nat}
    (F : Fun K "is_name" "is_name" s_is_name f fd) (B : Bl mg)
    {t8 : Tok} (m8 : mg "MAX_NAME_LENGTH" = some (.int 8 t8)) :
    FnOk P w K mg base CX0 (k + 1) f fd ["value"] (spIsName K) := by
  refine F.ok sc_is_name (fun vs H Q E h => ?_)
    (fun cv A outer s H vs Q E hr h => ?_)
  · obtain ⟨v, rfl, _⟩ := h
    rfl
  obtain ⟨v, rfl, h⟩ := h
  have nd := sc_is_name.nd
  refine ⟨_, pss_cons (ps_if (pt_mid (PW.pt (pw_or (pt_not (pt_val
      (pe_callB call_isi (by rfl) B.isi bt_isi (pa_cons (pv 0) (pa_cons
        (pe_bltn (v := .ty "str") (by rfl) B.str bt_str rfl) pa_nil)))))
      (pw_or1 (pt_not (pt_chain op_le op_le pe_int
        (pe_callB call_len_str (by rfl) B.len PySem.boot_len
          (pa_cons (pv 0) pa_nil))
        (pe_glob (v := .int 8) (by rfl) m8 ⟨_, rfl⟩)))))))
      (pss_one (ps_ret pe_bl)) pss_nil)
    (pss_one (ps_ret (pe_callB (cr_all rfl) (by rfl) B.all bt_all (pa_cons
      (pe_lc (own := [("letter", 1)]) (g := gName 1) (tt := tYes) rfl nd
        (pi_str (pv 0))
        (blkOk_by (N := N_is_name) (sc := defScope s_is_name)
          (by decide +kernel))
        (fun _ _ _ _ _ => pg_name (i := 1) nd rfl (Or.inl rfl))
        (fun _ _ _ _ _ => pts_nil)
        (fun _ _ _ _ _ => pe_mid (pe_chain op_le_str op_le_str pe_str
          (pv 1) pe_str))) pa_nil)))), ?_⟩
  rcases h with ⟨x, rfl, hx, q⟩ | ⟨t, ty, kt, q⟩
  · refine ⟨fun b H' => b = !(decide (1 ≤ x.length) && decide (x.length ≤ 8)) ∧
      H = H', ?_, ?_⟩
    · refine ⟨_, rfl, _, _, _, _, true, rfl, .ty "str", .base (.str x),
        kit_ty (by decide +kernel), _, rfl, iteF ?_⟩
      refine ⟨_, rfl, x, rfl, hx, _, _, rfl, rfl, _, rfl, ite2 (fun c => ?_)
        (fun c => ?_)⟩
      · have c' : (1 : Int) ≤ x.length := of_decide_eq_true c
        refine ⟨_, _, rfl, rfl, _, rfl, ?_, rfl⟩
        rw [decide_eq_true (show 1 ≤ x.length by omega), Bool.true_and]
        congr 1
        exact decide_eq_decide.mpr ⟨fun z => by omega, fun z => by omega⟩
      · refine ⟨_, rfl, ?_, rfl⟩
        rw [decide_eq_false (show ¬ 1 ≤ x.length from fun z =>
          c (decide_eq_true (by omega)))]
        rfl
    · rintro b _ ⟨rfl, rfl⟩
      by_cases c : 1 ≤ x.length ∧ x.length ≤ 8
      · rw [decide_eq_true c.1, decide_eq_true c.2]
        refine iteF ⟨_, rfl, x, rfl, fun D nD => ?_⟩
        refine lc_it walk_str (fun i H' => H' D = some (.lst
          (((x.cps.toList.take i).map azB).map V.bl)) ∧ Same H H')
          ⟨upd_same, sameNew nD⟩ (fun _ _ _ _ => trivial) ?_ ?_
        · rintro i v _ H1 hi ⟨hD, sm⟩ ⟨rfl, c0, hc, rfl⟩
          have hc' : x.cps.toList[i]? = some c0 := by
            rw [Array.getElem?_toList]; exact hc
          refine ⟨rfl, yes ⟨fun v H' => v = .bl (azB c0) ∧ H1 = H', ?_, ?_⟩⟩
          · refine ⟨_, rfl, _, _, rfl, rfl, _, rfl, ite2 (fun z => ?_)
              (fun z => ?_)⟩
            · refine ⟨_, _, rfl, rfl, ?_, rfl⟩
              have z' : ¬ c0 < 97 := by
                rw [show (Str.ofString "a").cps.toList = [97] by
                  decide +kernel, lt1] at z
                simpa using z
              rw [show (Str.ofString "z").cps.toList = [122] by
                decide +kernel, lt1]
              unfold azB
              rw [decide_eq_true (show 97 ≤ c0 by omega), Bool.true_and]
              congr 1
              by_cases y : c0 ≤ 122
              · rw [decide_eq_true y, decide_eq_false (by omega)]
                rfl
              · rw [decide_eq_false y, decide_eq_true (by omega)]
                rfl
            · refine ⟨?_, rfl⟩
              have z' : c0 < 97 := by
                rw [show (Str.ofString "a").cps.toList = [97] by
                  decide +kernel, lt1] at z
                simpa using z
              unfold azB
              rw [decide_eq_false (show ¬ 97 ≤ c0 by omega)]
              rfl
          · rintro v _ ⟨rfl, rfl⟩
            refine ⟨_, hD, ?_, ?_, ?_⟩
            · rw [List.length_map, List.length_map, List.length_take]
              refine sz' ?_
              have : x.length = x.cps.toList.length := TL.len_tl x
              omega
            · rw [upd_same, List.take_add_one, hc', List.map_append,
                List.map_append]
              rfl
            · exact OM.Same.put sm nD
        · rintro H1 ⟨hD, sm⟩
          rw [List.take_of_length_le (by
            rw [Array.length_toList]; exact Nat.le_refl _)] at hD
          refine ⟨D, _, rfl, SqL.of hD, ?_⟩
          rw [all_az]
          have := q H1 sm
          unfold nmB at this
          rw [← TL.len_tl x] at this
          rw [decide_eq_true c.1, decide_eq_true c.2, Bool.true_and,
            Bool.true_and] at this
          exact this
      · have e : (decide (1 ≤ x.length) && decide (x.length ≤ 8)) = false := by
          by_cases c1 : 1 ≤ x.length
          · rw [decide_eq_false (show ¬ x.length ≤ 8 from fun z => c ⟨c1, z⟩)]
            exact Bool.and_false _
          · rw [decide_eq_false c1]
            exact Bool.false_and _
        rw [e]
        refine iteT ?_
        have := q H (Same.refl H)
        unfold nmB at this
        rw [← TL.len_tl x, e, Bool.false_and] at this
        exact this
  · refine ⟨fun b H' => b = true ∧ H = H', ?_, ?_⟩
    · exact ⟨_, rfl, _, _, _, _, false, rfl, .ty "str", ty, kt, _, rfl,
        iteT ⟨rfl, rfl⟩⟩
    · rintro b _ ⟨rfl, rfl⟩
      exact iteT q
end
end OM
namespace OM
open PySem PySem.Spec PyProof.Rows L2
/-- what makes a base -/
structure Good (ls : List (List Nat)) : Prop where
  nm : ∀ l ∈ ls, Nm l
  nd : ls.Nodup
  lo : 1 ≤ ls.length
  hi : ls.length ≤ 40
theorem Nm.len {l : List Nat} (n : Nm l) : (SX.S l).length ≤ sizeLine := by
  rw [SX.S_len]
  have := n.hi
  exact sz (by omega)
theorem Nm.b {l : List Nat} (n : Nm l) : nmB (SX.S l).cps.toList = true :=
  nmB_iff.mpr n
theorem get_map {ls : List (List Nat)} {i : Nat} {v : V}
    (h : (ls.map vS)[i]? = some v) : ∃ l, ls[i]? = some l ∧ v = vS l := by
  rw [List.getElem?_map] at h
  cases e : ls[i]? with
  | none => rw [e] at h; cases h
  | some l => rw [e] at h; exact ⟨l, rfl, (Option.some.inj h).symm⟩
theorem nodup_take {α : Type} {ls : List α} {i : Nat} {l : α}
    (nd : ls.Nodup) (h : ls[i]? = some l) : l ∉ ls.take i := by
  intro hm
  obtain ⟨j, hj, e⟩ := List.getElem_of_mem hm
  rw [List.length_take] at hj
  rw [List.getElem_take] at e
  obtain ⟨hi, e2⟩ := List.getElem?_eq_some_iff.mp h
  have := (List.getElem_inj nd).mp (e.trans e2.symm)
  omega
def spCheckOk : Sp := fun vs H Q _ => ∃ (a : Addr) (ls : List (List Nat)),
  vs = [.ref a] ∧ H a = some (.lst (ls.map vS)) ∧ Good ls ∧
  ∀ H', Same H H' → Q .non H'
def spNFaultOk : Sp := fun vs H Q _ => ∃ (a : Addr) (ls : List (List Nat)),
  vs = [.ref a, .int 40] ∧ H a = some (.lst (ls.map vS)) ∧ Good ls ∧
  ∀ H', Same H H' → Q .non H'
section
variable {P : Program} {w : World} {K : PySem.W.Frag}
  {mg : Str → Option Value} {base : Heap}
abbrev CalIsName (P : Program) (w : World) (K : PySem.W.Frag)
    (mg : Str → Option Value) (base : Heap) (k : Nat) : Prop :=
  Cal P w K mg base k "is_name" ["value"] (spIsName K)
theorem ok_nfault {f : Addr} {fd : FuncData} {k : Nat}
    (F : Fun K "names_fault" "names_fault" s_names_fault f fd) (B : Bl mg)
    (C : CalIsName P w K mg base k) :
    FnOk P w K mg base CX0 (k + 1) f fd ["value", "most"] spNFaultOk := by
  refine F.ok sc_names_fault (fun vs H Q E h => ?_)
    (fun cv A outer s H vs Q E hr h => ?_)
  · obtain ⟨a, ls, rfl, _⟩ := h
    rfl
  obtain ⟨a, ls, rfl, ha, gd, q⟩ := h
  have nd := sc_names_fault.nd
  refine ⟨_, pss_cons (ps_if (pt_not (pt_val
      (pe_callB call_isi (by rfl) B.isi bt_isi (pa_cons (pv 0) (pa_cons
        (pe_bltn (v := .ty "list") (by rfl) B.list bt_list rfl) pa_nil)))))
      (pss_one ps_never) pss_nil)
    (pss_cons (ps_set (i := 2) nd rfl (.inl rfl)
      (pe_callTy0 cr_set0K (by rfl) B.set bt_set))
    (pss_cons (ps_for PassesOwn.never rfl
      (pi_enum (by rfl) B.enum (pa_cons (pv 0) pa_nil))
      (pg_tup rfl (pgs_cons (pg_name (i := 3) nd rfl (.inl rfl))
        (pgs_cons (pg_name (i := 4) nd rfl (.inl rfl)) pgs_nil)))
      (pss_cons (ps_if (pt_not (pt_val (pe_cal C hr (pa_cons (pv 4) pa_nil))))
        (pss_one ps_never) pss_nil)
      (pss_cons (ps_if (pt_cmpR or_sinK (pv 4) (pv 2) (by rfl))
        (pss_one ps_never) pss_nil)
      (pss_one (ps_expr (pe_saddK (pv 2) (pa_cons (pv 4) pa_nil)))))))
    (pss_cons (ps_if (pt_not (pt_chain op_le op_le pe_int
        (pe_callB call_len_seq (by rfl) B.len PySem.boot_len
          (pa_cons (pv 0) pa_nil)) (pv 1)))
      (pss_one ps_never) pss_nil)
    (pss_one (ps_ret pe_non))))), ?_⟩
  refine ⟨_, rfl, _, _, _, _, true, rfl, .ty "list", .base (.lst ha),
    kit_ty (by decide +kernel), _, rfl, iteF ?_⟩
  refine ⟨rfl, fun sn nsn => ?_⟩
  have nas : a ≠ sn := ne_of_none ha nsn
  have ha1 : (upd H sn (SetK P w sn (fun _ => false) 0)) a =
      some (.lst (ls.map vS)) := by rw [upd_ne nas]; exact ha
  refine ⟨_, rfl, a, _, rfl, SqL.of ha1, ?_⟩
  refine for_it (walk_enum (K := K) (a := a) (xs := ls.map vS))
    (fun i σ H' => ∃ (S : Key → Bool) (n : Nat) (y z : Option V),
      σ = [some (.ref a), some (.int 40), some (.ref sn), y, z] ∧ n ≤ i ∧
      (∀ l, S (Sum.inr (SX.S l)) = decide (l ∈ ls.take i)) ∧
      H' sn = some (SetK P w sn S n) ∧ H' a = some (.lst (ls.map vS)) ∧
      Same H H')
    ⟨fun _ => false, 0, none, none, rfl, Nat.le_refl _, fun l => by simp,
      upd_same, ha1, sameNew nsn⟩
    (fun i σ H' _ z => by obtain ⟨_, _, _, _, _, _, _, _, h, _⟩ := z; exact SqL.of h)
    ?_ ?_
  · rintro i v σ H1 H2 hi ⟨S, n, y, z, rfl, hn, hS, hs, ha2, sm⟩
      ⟨T, x1, x2, rfl, nT, rfl, e1, e2⟩
    obtain ⟨l, hl, rfl⟩ := get_map e2
    cases Option.some.inj e1
    rw [List.length_map] at hi
    have nl : Nm l := gd.nm l (List.mem_of_getElem? hl)
    have nTs : sn ≠ T := ne_of_none hs nT
    have nTa : a ≠ T := ne_of_none ha2 nT
    have sm1 : Same H (upd H1 T (.tup [.int (i : Nat), vS l])) :=
      sm.trans (sameNew nT)
    have nin : l ∉ ls.take i := nodup_take gd.nd hl
    refine ⟨T, _, rfl, .inl (.inl upd_same), rfl, _, _, rfl, _, _, rfl, rfl,
      ?_⟩
    refine ⟨_, rfl, _, rfl, .inl ⟨_, rfl, nl.len, fun H3 sm3 => ?_⟩⟩
    rw [nl.b]
    have hs3 : H3 sn = some (SetK P w sn S n) :=
      sm3 _ _ (by rw [upd_ne nTs]; exact hs)
    have ha3 : H3 a = some (.lst (ls.map vS)) :=
      sm3 _ _ (by rw [upd_ne nTa]; exact ha2)
    refine ⟨_, rfl, iteF ?_⟩
    refine ⟨_, rfl, _, rfl, Sum.inr (SX.S l), sn, S, n, rfl, rfl, hs3, _, rfl,
      ?_⟩
    have sf : S (Sum.inr (SX.S l)) = false := by
      rw [hS]; exact decide_eq_false nin
    rw [sf]
    refine iteF ?_
    refine ⟨_, rfl, ⟨sn, S, n, rfl, hs3⟩, _, rfl, sn, Sum.inr (SX.S l), S, n,
      rfl, rfl, hs3, ?_, ?_⟩
    · have := gd.hi
      show n + 1 < 4096
      omega
    refine ⟨_, _, _, _, rfl, ?_, ?_, upd_same, ?_, ?_⟩
    · rw [sf]
      show n + 1 ≤ i + 1
      omega
    · intro l'
      show (S (Sum.inr (SX.S l')) || decide ((Sum.inr (SX.S l') : Key) =
        Sum.inr (SX.S l))) = _
      rw [hS, List.take_add_one, hl]
      by_cases e : l' = l
      · subst e
        simp
      · have : ¬ ((Sum.inr (SX.S l') : Key) = Sum.inr (SX.S l)) :=
          fun z => e (SX.S_inj (Sum.inr.inj z))
        rw [decide_eq_false this, Bool.or_false]
        refine decide_eq_decide.mpr ?_
        rw [List.mem_append]
        constructor
        · exact Or.inl
        · rintro (z | z)
          · exact z
          · exact absurd (by simpa using z) e
    · rw [upd_ne nas]
      exact ha3
    · exact OM.Same.put (sm1.trans sm3) nsn
  · rintro σ H1 ⟨S, n, y, z, rfl, hn, hS, hs, ha2, sm⟩
    have h1 := gd.lo
    have h2 := gd.hi
    refine ⟨_, rfl, a, _, rfl, .inl (SqL.of ha2), _, _, rfl, rfl, _, rfl, ?_⟩
    rw [List.length_map, decide_eq_true (show (1 : Int) ≤ ls.length by omega)]
    refine iteT ⟨_, rfl, _, _, rfl, rfl, _, rfl, ?_⟩
    rw [decide_eq_true (show (ls.length : Int) ≤ 40 by omega)]
    exact iteF (q H1 sm)
theorem ok_check {f : Addr} {fd : FuncData} {k : Nat}
    (F : Fun K "check_items" "check_items" s_check_items f fd)
    (Cf : Cal P w K mg base k "names_fault" ["value", "most"] spNFaultOk)
    {t40 : Tok} (m40 : mg "MAX_ITEMS" = some (.int 40 t40)) :
    FnOk P w K mg base CX0 (k + 1) f fd ["items"] spCheckOk := by
  refine F.ok sc_check_items (fun vs H Q E h => ?_)
    (fun cv A outer s H vs Q E hr h => ?_)
  · obtain ⟨a, ls, rfl, _⟩ := h
    rfl
  obtain ⟨a, ls, rfl, ha, gd, q⟩ := h
  have nd := sc_check_items.nd
  refine ⟨_, pss_cons (ps_set (i := 1) nd rfl (.inl rfl)
      (pe_cal Cf hr (pa_cons (pv 0) (pa_cons
        (pe_glob (v := .int 40) (by rfl) m40 ⟨_, rfl⟩) pa_nil))))
    (pss_one (ps_if (pt_cmpR op_notN (pv 1) pe_non (nomark _))
      (pss_cons ps_never (pss_one ps_never)) pss_nil)), ?_⟩
  exact ⟨_, rfl, a, ls, rfl, ha, gd, fun H1 s1 =>
    ⟨_, rfl, rfl, _, rfl, iteF (q H1 s1)⟩⟩
end
end OM
namespace OM
open PySem PySem.Spec PyProof.Rows L2
/-! ### what a base holds -/
def prs : Nat → List (List Nat) → List (Key × V)
  | _, [] => []
  | n, l :: r => (Sum.inr (SX.S l), .int (n : Int)) :: prs (n + 1) r
theorem prs_len : ∀ (n : Nat) (ls : List (List Nat)),
    (prs n ls).length = ls.length
  | _, [] => rfl
  | n, _ :: r => congrArg (· + 1) (prs_len (n + 1) r)
theorem prs_snoc : ∀ (n : Nat) (ls : List (List Nat)) (l : List Nat),
    prs n (ls ++ [l]) =
      prs n ls ++ [(Sum.inr (SX.S l), .int ((n + ls.length : Nat) : Int))]
  | n, [], l => rfl
  | n, x :: r, l => by
    have ih := prs_snoc (n + 1) r l
    show (Sum.inr (SX.S x), V.int (n : Int)) :: prs (n + 1) (r ++ [l]) = _
    rw [ih, List.length_cons, show n + 1 + r.length = n + (r.length + 1) by
      omega]
    rfl
theorem val_prs (l : List Nat) : ∀ (n : Nat) (ls : List (List Nat)),
    valV (prs n ls) (Sum.inr (SX.S l) : Key) =
      if l ∈ ls then some (.int ((n + ls.idxOf l : Nat) : Int)) else none
  | n, [] => rfl
  | n, x :: r => by
    have ih := val_prs l (n + 1) r
    by_cases e : x = l
    · subst e
      rw [if_pos List.mem_cons_self, List.idxOf_cons_self]
      show Option.map _ (List.find? _ ((Sum.inr (SX.S x), _) :: _)) = _
      rw [List.find?_cons_of_pos (by simp)]
      rfl
    · have ne : ¬ ((Sum.inr (SX.S x) : Key) = Sum.inr (SX.S l)) :=
        fun z => e (SX.S_inj (Sum.inr.inj z))
      have hv : valV (prs n (x :: r)) (Sum.inr (SX.S l) : Key) =
          valV (prs (n + 1) r) (Sum.inr (SX.S l)) := by
        show Option.map _ (List.find? _ ((Sum.inr (SX.S x), _) :: _)) = _
        rw [List.find?_cons_of_neg (by simpa using ne)]
        rfl
      rw [hv, ih]
      by_cases m : l ∈ r
      · rw [if_pos m, if_pos (List.mem_cons_of_mem _ m),
          List.idxOf_cons, show (x == l) = false from
            beq_eq_false_iff_ne.mpr e]
        show some (V.int ((n + 1 + r.idxOf l : Nat) : Int)) =
          some (V.int ((n + (r.idxOf l + 1) : Nat) : Int))
        rw [show n + 1 + r.idxOf l = n + (r.idxOf l + 1) by omega]
      · rw [if_neg m, if_neg fun z => ?_]
        rcases List.mem_cons.mp z with z | z
        · exact e z.symm
        · exact m z
/-- the attributes -/
def bf (lo d : Addr) : List (Str × V) :=
  putF "places" (.ref d) (putF "listed" (.ref lo) [])
theorem ne_pl : ¬ (("listed" : Str) = "places") := by decide +kernel
theorem bf_listed (lo d : Addr) :
    (bf lo d).lookup ("listed" : Str) = some (.ref lo) := by
  unfold bf
  rw [lookup_putF, if_neg ne_pl, lookup_putF, if_pos rfl]
theorem bf_places (lo d : Addr) :
    (bf lo d).lookup ("places" : Str) = some (.ref d) := by
  unfold bf
  rw [lookup_putF, if_pos rfl]
theorem bf_no (lo d : Addr) {m : Str} (h1 : ¬ m = "places")
    (h2 : ¬ m = "listed") : (bf lo d).lookup m = none := by
  unfold bf
  rw [lookup_putF, if_neg h1, lookup_putF, if_neg h2]
  rfl
structure BaseAt (C : Addr) (H : Hp) (b : Addr) (ls : List (List Nat)) :
    Prop where
  ob : ∃ dx lo d, H b = some (.ins C dx (bf lo d)) ∧
    H lo = some (.lst (ls.map vS)) ∧ H d = some (.dK (prs 0 ls))
theorem BaseAt.same {C b : Addr} {H H' : Hp} {ls : List (List Nat)}
    (x : BaseAt C H b ls) (s : Same H H') : BaseAt C H' b ls := by
  obtain ⟨dx, lo, d, h1, h2, h3⟩ := x.ob
  exact ⟨dx, lo, d, s _ _ h1, s _ _ h2, s _ _ h3⟩
theorem neRng {H : Hp} {p q : Addr} {ls : List (List Nat)} (r : Rng H p)
    (h : H q = some (.lst (ls.map vS))) : q ≠ p := by
  obtain ⟨a, b, e, _⟩ := r
  refine ne_of h e fun z => ?_
  have z' := HO.lst.inj z
  cases ls with
  | nil => cases z'
  | cons l r =>
    rw [List.map_cons] at z'
    cases (List.cons.inj z').1
theorem BaseAt.but {C b p : Addr} {H H' : Hp} {ls : List (List Nat)}
    (x : BaseAt C H b ls) (r : Rng H p) (s : But p H H') :
    BaseAt C H' b ls := by
  obtain ⟨dx, lo, d, h1, h2, h3⟩ := x.ob
  have n2 := neRng r h2
  obtain ⟨i, j, e, _⟩ := r
  exact ⟨dx, lo, d, s _ _ h1 (ne_of h1 e nofun), s _ _ h2 n2,
    s _ _ h3 (ne_of h3 e nofun)⟩
theorem BaseAt.ne {C b p : Addr} {H : Hp} {ls : List (List Nat)}
    (x : BaseAt C H b ls) (n : H p = none) : b ≠ p := by
  obtain ⟨dx, lo, d, h1, h2, h3⟩ := x.ob
  exact ne_of_none h1 n
structure BC (K : PySem.W.Frag) (mg : Str → Option Value) (C : Addr) :
    Prop where
  ic : C8.InsC K C
  nL : NoAttr K C "listed"
  nP : NoAttr K C "places"
  mgC : mg "Base" = some (.ref C)
  kC : PySem.W.keepIn K (.ref C) = true
theorem BC.cl {K : PySem.W.Frag} {mg : Str → Option Value} {C : Addr}
    (x : BC K mg C) : Cls K C := x.ic.cl
/-- Base(items), the items being right -/
def spInitOk (C : Addr) : Sp := fun vs H Q _ =>
  ∃ (b a dx : Addr) (ls : List (List Nat)), vs = [.ref b, .ref a] ∧
  H b = some (.ins C dx []) ∧ H a = some (.lst (ls.map vS)) ∧ Good ls ∧
  ∀ H', BaseAt C H' b ls → But b H H' → Q .non H'
/-- a walk of a dict comprehension -/
theorem dc_walk {J : It} {n : Nat} {G : Hp → Prop}
    {Y : Nat → Hp → V → Hp → Prop} (wk : Walk J n G Y) {g : TG} {tt : TT}
    {tk tv : TE} {vs : List Nat} {σ : L2.St} {H1 : Hp} {D : Addr}
    {Qd : Hp → Prop} (Pv : Nat → Hp → Prop)
    (h0 : Pv 0 (upd H1 D (.dK []))) (hG : ∀ i H, i ≤ n → Pv i H → G H)
    (hs : ∀ i x H H', i < n → Pv i H → Y i H x H' →
      g x (wipe σ vs) H' fun σ2 H2 => wipe σ2 vs = wipe σ vs ∧
        tt σ2 H2 fun b H3 => if b = true then tk σ2 H3 fun y H4 =>
          tv σ2 H4 fun z H5 => ∃ kvs k, y = kV k ∧ H5 D = some (.dK kvs) ∧
            kvs.length < sizeLine ∧ Pv (i + 1) (upd H5 D (.dK (putK kvs k z)))
          else Pv (i + 1) H3)
    (hd : ∀ H, Pv n H → Qd H) :
    ∃ W : Nat → Nat → Hp → Prop, (∃ m, W 0 m (upd H1 D (.dK []))) ∧
      ∀ i m H, W i m H → (J.stop i H ∧ Qd H) ∨ (J.go i H ∧
        ∃ Nx : Hp → Prop, (∀ H', Nx H' → ∃ m', m' < m ∧ W (i + 1) m' H') ∧
        ∀ x H', J.yld i H x H' → g x (wipe σ vs) H' fun σ2 H2 =>
          wipe σ2 vs = wipe σ vs ∧ tt σ2 H2 fun b H3 => if b = true then
            tk σ2 H3 fun y H4 => tv σ2 H4 fun z H5 => ∃ kvs k, y = kV k ∧
              H5 D = some (.dK kvs) ∧ kvs.length < sizeLine ∧
              Nx (upd H5 D (.dK (putK kvs k z))) else Nx H3) := by
  refine ⟨fun i m H => m + i = n ∧ Pv i H, ⟨n, rfl, h0⟩, ?_⟩
  rintro i m H ⟨e, p⟩
  have q := hG i H (by omega) p
  rcases Nat.lt_or_ge i n with lt | ge
  · exact .inr ⟨wk.goes i H lt q, Pv (i + 1),
      fun H' p' => ⟨m - 1, by omega, by omega, p'⟩,
      fun x H' y => hs i x H H' lt p (wk.yields i H x H' lt q y)⟩
  · have e' : i = n := by omega
    subst e'
    exact .inl ⟨wk.stops H q, hd H p⟩
section
variable {P : Program} {w : World} {K : PySem.W.Frag}
  {mg : Str → Option Value} {base : Heap} {C : Addr}
theorem ok_init {f : Addr} {fd : FuncData} {k : Nat}
    (F : Fun K "__init__" "Base.__init__" s_Base_init f fd) (B : Bl mg)
    (T : BC K mg C)
    (Ck : Cal P w K mg base k "check_items" ["items"] spCheckOk) :
    FnOk P w K mg base CX0 (k + 1) f fd ["self", "items"] (spInitOk C) := by
  refine F.ok sc_Base_init (fun vs H Q E h => ?_)
    (fun cv A outer s H vs Q E hr h => ?_)
  · obtain ⟨b, a, dx, ls, rfl, _⟩ := h
    rfl
  obtain ⟨b, a, dx, ls, rfl, hb, ha, gd, q⟩ := h
  have nd := sc_Base_init.nd
  refine ⟨_, pss_cons (ps_expr (pe_cal Ck hr (pa_cons (pv 1) pa_nil)))
    (pss_cons (ps_fld (pv 0) (pe_callTy call_list_of (by rfl) B.list bt_list
      (pa_cons (pv 1) pa_nil)) rfl)
    (pss_one (ps_fld (pv 0)
      (pe_dc (own := [("name", 2), ("at", 3)])
        (g := gTup K 2 (gCons (gName 3) (gCons (gName 2) gNil)))
        (tt := tYes) rfl nd
        (pi_enum (by rfl) B.enum (pa_cons (pv 1) pa_nil))
        (blkOk_by (N := N_Base_init) (sc := defScope s_Base_init)
          (by decide +kernel))
        (fun _ _ _ _ _ => pg_tup rfl (pgs_cons (pg_name (i := 3) nd rfl
          (Or.inl rfl)) (pgs_cons (pg_name (i := 2) nd rfl (Or.inl rfl))
          pgs_nil)))
        (fun _ _ _ _ _ => pts_nil) (fun _ _ _ _ _ => pv 2)
        (fun _ _ _ _ _ => pv 3)) rfl))), ?_⟩
  refine ⟨_, rfl, a, ls, rfl, ha, gd, fun H1 s1 => ?_⟩
  have nba : b ≠ a := ne_of hb ha nofun
  have hb1 := s1 _ _ hb
  have ha1 := s1 _ _ ha
  refine ⟨_, rfl, a, _, rfl, .inl (SqL.of ha1), fun lo nlo => ?_⟩
  have nbl : b ≠ lo := ne_of_none hb1 nlo
  have nal : a ≠ lo := ne_of_none ha1 nlo
  refine ⟨_, rfl, b, C, dx, [], rfl, by rw [upd_ne nbl]; exact hb1, T.cl, T.nL,
    by decide, ?_⟩
  generalize eH2 : upd (upd H1 lo (.lst (ls.map vS))) b
    (.ins C dx (putF "listed" (.ref lo) [])) = H2
  have hb2 : H2 b = some (.ins C dx (putF "listed" (.ref lo) [])) := by
    rw [← eH2]; exact upd_same
  have ha2 : H2 a = some (.lst (ls.map vS)) := by
    rw [← eH2, upd_ne nba.symm, upd_ne nal]; exact ha1
  have hl2 : H2 lo = some (.lst (ls.map vS)) := by
    rw [← eH2, upd_ne nbl.symm, upd_same]
  have b2 : But b H H2 := by
    rw [← eH2]
    exact ((But.of s1).new (s1.free nlo)).at
  refine ⟨_, rfl, a, _, rfl, SqL.of ha2, fun d nd' => ?_⟩
  have ndb : b ≠ d := ne_of_none hb2 nd'
  have nda : a ≠ d := ne_of_none ha2 nd'
  have ndl : lo ≠ d := ne_of_none hl2 nd'
  refine dc_walk (walk_enum (K := K) (a := a) (xs := ls.map vS))
    (fun i H' => H' d = some (.dK (prs 0 (ls.take i))) ∧
      H' b = some (.ins C dx (putF "listed" (.ref lo) [])) ∧
      H' a = some (.lst (ls.map vS)) ∧ H' lo = some (.lst (ls.map vS)) ∧
      But b H H')
    ⟨upd_same, by rw [upd_ne ndb]; exact hb2, by rw [upd_ne nda]; exact ha2,
      by rw [upd_ne ndl]; exact hl2, b2.put nd' ndb.symm⟩
    (fun i H' _ z => SqL.of z.2.2.1) ?_ ?_
  · rintro i v H3 H4 hi ⟨hd, h1, h2, h3, b3⟩ ⟨T', x1, x2, rfl, nT, rfl, e1, e2⟩
    obtain ⟨l, hl, rfl⟩ := get_map e2
    cases Option.some.inj e1
    rw [List.length_map] at hi
    have hhi := gd.hi
    refine ⟨T', _, rfl, .inl (.inl upd_same), rfl, _, _, rfl, _, _, rfl, rfl,
      rfl, yes ⟨_, rfl, _, rfl, prs 0 (ls.take i), Sum.inr (SX.S l), rfl, ?_, ?_,
      ?_, ?_, ?_, ?_, ?_⟩⟩
    · rw [upd_ne (ne_of_none hd nT)]
      exact hd
    · rw [prs_len, List.length_take]
      exact sz' (by omega)
    · rw [upd_same, putK_new _ (by
        rw [val_prs, if_neg (nodup_take gd.nd hl)]),
        List.take_add_one, hl]
      show _ = some (HO.dK (prs 0 (ls.take i ++ [l])))
      rw [prs_snoc, List.length_take, Nat.min_eq_left (by omega),
        Nat.zero_add]
    · rw [upd_ne ndb, upd_ne (ne_of_none h1 nT)]
      exact h1
    · rw [upd_ne nda, upd_ne (ne_of_none h2 nT)]
      exact h2
    · rw [upd_ne ndl, upd_ne (ne_of_none h3 nT)]
      exact h3
    · exact (b3.put nT (ne_of_none h1 nT).symm).new (b2.free ndb.symm nd')
  · rintro H3 ⟨hd, h1, h2, h3, b3⟩
    rw [List.take_of_length_le (by rw [List.length_map]; exact Nat.le_refl _)]
      at hd
    refine ⟨_, rfl, b, C, dx, _, rfl, h1, T.cl, T.nP,
      by show 1 < 1000; decide, ?_⟩
    refine q _ ⟨dx, lo, d, upd_same, ?_, ?_⟩ b3.at
    · rw [upd_ne nbl.symm]
      exact h3
    · rw [upd_ne ndb.symm]
      exact hd
end
end OM
namespace OM
open PySem PySem.Spec PyProof.Rows L2
/-! ### a method, in one word -/
structure CalM (P : Program) (w : World) (K : PySem.W.Frag)
    (mg : Str → Option Value) (base : Heap) (C : Addr) (k : Nat) (x : Str)
    (ps : List Str) (sp : Sp) : Prop where
  cl : Cls K C
  ex : ∃ f fd, FnOk P w K mg base CX0 k f fd ps sp ∧ Meth K C x f ∧
    Binds K fd ps []
section
variable {X : Cx} {k : Nat} {ps : List Str} {sp : Sp} {x : Str} {C : Addr}
  {p pos : Pos} {o e : Expr} {es : List Expr} {t : TA} {to : TE}
theorem pe_calM {pl : Sem Bool} (M : CalM X.prog X.w X.K X.mg X.base C k x ps sp)
    (room : Room k X.A) (ho : PE X o to) (ha : PA X (e :: es) t)
    (h1 : starEach (e :: es) X.env =
      (false, eval e X.env) :: starEach es X.env := by rfl)
    (h2 : (backTo pos (starEach es X.env)).any (·.1) = false := by rfl)
    (h3 : eval (.Call (.Attribute o x p) (e :: es) [] pos) X.env = (do
      let ov ← eval o X.env
      standAt p.atName
      let (f, first) ← holding [ov] (getMethod ov x pl)
      callWith pos f first (backTo pos (starEach (e :: es) X.env))
        (backToKw pos (keywordEach [] X.env))) := by rfl) :
    PE X (.Call (.Attribute o x p) (e :: es) [] pos)
      (tMeth C x sp [] E0 to t) := by
  obtain ⟨f, fd, F, m, b⟩ := M.ex
  exact pe_meth (pl := pl) ho M.cl m F room b .nil pass0 ha h1 h2 h3
theorem pe_calM0 {pl : Sem Bool} (M : CalM X.prog X.w X.K X.mg X.base C k x ps sp)
    (room : Room k X.A) (ho : PE X o to)
    (h3 : eval (.Call (.Attribute o x p) [] [] pos) X.env = (do
      let ov ← eval o X.env
      standAt p.atName
      let (f, first) ← holding [ov] (getMethod ov x pl)
      callWith pos f first (backTo pos (starEach [] X.env))
        (backToKw pos (keywordEach [] X.env))) := by rfl) :
    PE X (.Call (.Attribute o x p) [] [] pos)
      (tMeth C x sp [] E0 to tNil) := by
  obtain ⟨f, fd, F, m, b⟩ := M.ex
  exact pe_meth0 (pl := pl) ho M.cl m F room b .nil pass0 h3
end
def spGetNames (C : Addr) : Sp := fun vs H Q _ =>
  ∃ (b : Addr) (ls : List (List Nat)), vs = [.ref b] ∧ BaseAt C H b ls ∧
  ∀ q H', H q = none → H' q = some (.lst (ls.map vS)) → Same H H' →
    Q (.ref q) H'
def spLenB (C : Addr) : Sp := fun vs H Q _ =>
  ∃ (b : Addr) (ls : List (List Nat)), vs = [.ref b] ∧ BaseAt C H b ls ∧
  Q (.int ls.length) H
/-- == of two bases -/
def spEqB (C : Addr) : Sp := fun vs H Q _ =>
  ∃ (b o : Addr) (ls ms : List (List Nat)), vs = [.ref b, .ref o] ∧
  BaseAt C H b ls ∧ BaseAt C H o ms ∧ Uni ls ∧ Uni ms ∧
  Q (.bl (decide (ls = ms))) H
def baseText (ls : List (List Nat)) : Str :=
  Str.empty ++ Str.ofString "Base(" ++ (PyData.list (dN ls)).shown ++
    Str.ofString ")"
/-- repr of a base -/
def spReprB (C : Addr) : Sp := fun vs H Q _ =>
  ∃ (b : Addr) (ls : List (List Nat)), vs = [.ref b] ∧ BaseAt C H b ls ∧
  Good ls ∧ Q (.str (baseText ls)) H
theorem Nm.uni {l : List Nat} (n : Nm l) : ∀ c ∈ l, c < 1114112 := fun c h => by
  have := n.az c h
  omega
theorem Good.uni {ls : List (List Nat)} (g : Good ls) : Uni ls :=
  fun l h => (g.nm l h).uni
theorem Good.shown {ls : List (List Nat)} (g : Good ls) :
    (PyData.list (dN ls)).shown.length ≤ sizeLine := by
  have := g.hi
  exact shown_L (m := 8) (by omega) (by omega) fun l h =>
    ⟨(g.nm l h).hi, (g.nm l h).uni⟩
section
variable {P : Program} {w : World} {K : PySem.W.Frag}
  {mg : Str → Option Value} {base : Heap} {C : Addr}
theorem ok_getnames {f : Addr} {fd : FuncData} {k : Nat}
    (F : Fun K "names" "Base.names" s_Base_names f fd) (B : Bl mg)
    (T : BC K mg C) :
    FnOk P w K mg base CX0 (k + 1) f fd ["self"] (spGetNames C) := by
  refine F.ok sc_Base_names (fun vs H Q E h => ?_)
    (fun cv A outer s H vs Q E hr h => ?_)
  · obtain ⟨b, ls, rfl, _⟩ := h
    rfl
  obtain ⟨b, ls, rfl, hb, q⟩ := h
  obtain ⟨dx, lo, d, h1, h2, h3⟩ := hb.ob
  refine ⟨_, pss_one (ps_ret (pe_callTy call_list_of (by rfl) B.list bt_list
    (pa_cons (pe_fld (pv 0) rfl) pa_nil))), ?_⟩
  exact ⟨_, rfl, b, C, dx, _, _, rfl, h1, T.cl, T.nL, bf_listed _ _, lo, _, rfl,
    .inl (SqL.of h2), fun l nl => q l _ nl upd_same (sameNew nl)⟩
theorem ok_lenB {f : Addr} {fd : FuncData} {k : Nat}
    (F : Fun K "__len__" "Base.__len__" s_Base_len f fd) (B : Bl mg)
    (T : BC K mg C) :
    FnOk P w K mg base CX0 (k + 1) f fd ["self"] (spLenB C) := by
  refine F.ok sc_Base_len (fun vs H Q E h => ?_)
    (fun cv A outer s H vs Q E hr h => ?_)
  · obtain ⟨b, ls, rfl, _⟩ := h
    rfl
  obtain ⟨b, ls, rfl, hb, q⟩ := h
  obtain ⟨dx, lo, d, h1, h2, h3⟩ := hb.ob
  refine ⟨_, pss_one (ps_ret (pe_callB call_len_seq (by rfl) B.len
    PySem.boot_len (pa_cons (pe_fld (pv 0) rfl) pa_nil))), ?_⟩
  refine ⟨_, rfl, b, C, dx, _, _, rfl, h1, T.cl, T.nL, bf_listed _ _, lo, _,
    rfl, .inl (SqL.of h2), ?_⟩
  rw [List.length_map]
  exact q
theorem ok_eqB {f : Addr} {fd : FuncData} {k : Nat}
    (F : Fun K "__eq__" "Base.__eq__" s_Base_eq f fd) (B : Bl mg)
    (T : BC K mg C) :
    FnOk P w K mg base CX0 (k + 1) f fd ["self", "other"] (spEqB C) := by
  refine F.ok sc_Base_eq (fun vs H Q E h => ?_)
    (fun cv A outer s H vs Q E hr h => ?_)
  · obtain ⟨b, o, ls, ms, rfl, _⟩ := h
    rfl
  obtain ⟨b, o, ls, ms, rfl, hb, ho, u1, u2, q⟩ := h
  obtain ⟨dx, lo, d, h1, h2, h3⟩ := hb.ob
  obtain ⟨dy, mo, e, g1, g2, g3⟩ := ho.ob
  refine ⟨_, pss_one (ps_ret (pe_and
    (pe_callB (C8.call_isC T.ic) (by rfl) B.isi bt_isi (pa_cons (pv 1)
      (pa_cons (pe_glob (v := .ref C) (by rfl) T.mgC rfl) pa_nil)))
    (pe_one (pe_cmpR (op_eqD hr.units) (pe_fld (pv 0) rfl) (pe_fld (pv 1) rfl)
      (nomark _))))), ?_⟩
  refine ⟨_, rfl, o, dy, _, rfl, g1, _, rfl, iteT ?_⟩
  refine ⟨_, rfl, b, C, dx, _, _, rfl, h1, T.cl, T.nL, bf_listed _ _, _, rfl, o,
    C, dy, _, _, rfl, g1, T.cl, T.nL, bf_listed _ _, _, _, dp_N (SqL.of h2),
    dp_N (SqL.of g2), shaped_L u1, shaped_L u2, ?_⟩
  rw [eqv_L]
  exact q
theorem ok_reprB {f : Addr} {fd : FuncData} {k : Nat}
    (F : Fun K "__repr__" "Base.__repr__" s_Base_repr f fd)
    (T : BC K mg C) :
    FnG P w K mg base CX0 (k + 1) f fd ["self"] (spReprB C) := by
  refine okG F sc_Base_repr (fun vs H Q E h => ?_)
    (fun cv A outer s H vs Q E hr gd h => ?_)
  · obtain ⟨b, ls, rfl, _⟩ := h
    rfl
  obtain ⟨b, ls, rfl, hb, good, q⟩ := h
  obtain ⟨dx, lo, d, h1, h2, h3⟩ := hb.ob
  refine ⟨_, pss_one (ps_ret (pe_joined (.cons pe_str (.cons
    (pe_fmtD hr gd (pe_fld (pv 0) rfl)) (.cons pe_str .nil))))), ?_⟩
  have l1 := good.shown
  have l2 : (PyData.list (dN ls)).shown.length ≤ 10004003 := by
    have e : (PyData.list (dN ls)).shown =
        listText (PyData.shownAll (dN ls)) := by simp only [PyData.shown]
    have p := piled_N ls 8 fun l h => ⟨(good.nm l h).hi, (good.nm l h).uni⟩
    have q := listText_len_le (PyData.shownAll (dN ls))
    rw [e]
    have r : ((PyData.shownAll (dN ls)).map (·.length)).sum +
        2 * (PyData.shownAll (dN ls)).length =
        piled (PyData.shownAll (dN ls)) := by
      generalize PyData.shownAll (dN ls) = ts
      induction ts with
      | nil => rfl
      | cons t ts ih =>
        rw [piled_cons, List.map_cons, List.sum_cons, List.length_cons]
        omega
    have s : ls.length * (10 * 8 + 4) ≤ 40 * 84 :=
      Nat.mul_le_mul good.hi (Nat.le_refl _)
    omega
  have l3 : (Str.ofString "Base(").length = 5 := by decide +kernel
  have l4 : (Str.ofString ")").length = 1 := by decide +kernel
  have l5 : (Str.empty).length = 0 := by decide +kernel
  have l6 : 10005000 ≤ sizeLine := by decide
  refine ⟨_, rfl, ?_, _, rfl, b, C, dx, _, _, rfl, h1, T.cl, T.nL,
    bf_listed _ _, lo, _, rfl, dp_N (SqL.of h2), showable_L ls,
    Nat.le_trans (depth_L ls) (by decide), l1, _, rfl, ?_, _, rfl, ?_, q⟩
  · rw [strLen_append]
    omega
  · rw [strLen_append, strLen_append]
    omega
  · rw [strLen_append, strLen_append, strLen_append]
    omega
end
end OM
namespace OM
open PySem PySem.Spec PyProof.Rows L2
/-- is it an item -/
def spHas (K : PySem.W.Frag) (C : Addr) : Sp := fun vs H Q _ =>
  ∃ (b : Addr) (ls : List (List Nat)) (v : V), vs = [.ref b, v] ∧
  BaseAt C H b ls ∧ (∀ l ∈ ls, Nm l) ∧
  ((∃ x : Str, v = .str x ∧ x.length ≤ sizeLine ∧ ∀ H', Same H H' →
      Q (.bl (decide (x.cps.toList ∈ ls))) H') ∨
   (∃ t, TyX K H v t ∧ PySem.W.kitOne K t (.type "str") = some false ∧
      ∀ H', Same H H' → Q (.bl false) H'))
section
variable {P : Program} {w : World} {K : PySem.W.Frag}
  {mg : Str → Option Value} {base : Heap} {C : Addr}
theorem ok_has {f : Addr} {fd : FuncData} {k : Nat}
    (F : Fun K "has_item" "Base.has_item" s_Base_has_item f fd) (B : Bl mg)
    (T : BC K mg C) (Ci : CalIsName P w K mg base k) :
    FnOk P w K mg base CX0 (k + 1) f fd ["self", "value"] (spHas K C) := by
  refine F.ok sc_Base_has_item (fun vs H Q E h => ?_)
    (fun cv A outer s H vs Q E hr h => ?_)
  · obtain ⟨b, ls, v, rfl, _⟩ := h
    rfl
  obtain ⟨b, ls, v, rfl, hb, nm, h⟩ := h
  have hu := hu_of hr
  refine ⟨_, pss_one (ps_ret (pe_and (pe_cal Ci hr (pa_cons (pv 1) pa_nil))
    (pe_one (pe_cmp (pc_din hu (pv 1) (pe_fld (pv 0) rfl)) rfl)))), ?_⟩
  rcases h with ⟨x, rfl, hx, q⟩ | ⟨t, ty, kt, q⟩
  · refine ⟨_, rfl, _, rfl, .inl ⟨x, rfl, hx, fun H1 s1 => ?_⟩⟩
    obtain ⟨dx, lo, d, h1, h2, h3⟩ := (hb.same s1).ob
    refine ⟨_, rfl, ?_⟩
    by_cases hm : x.cps.toList ∈ ls
    · have e : nmB x.cps.toList = true := nmB_iff.mpr (nm _ hm)
      rw [e]
      refine iteT ⟨_, rfl, _, rfl, b, C, dx, _, _, rfl, h1, T.cl, T.nP,
        bf_places _ _, d, _, rfl, DGet.k (k := Sum.inr x) h3, ?_⟩
      have ex : x = SX.S x.cps.toList := (SX.S_tl x).symm
      rw [ex, val_prs, if_pos hm]
      have := q H1 s1
      rw [decide_eq_true hm] at this
      exact this
    · have qf := q H1 s1
      rw [decide_eq_false hm] at qf
      cases e : nmB x.cps.toList with
      | false => exact iteF qf
      | true =>
        refine iteT ⟨_, rfl, _, rfl, b, C, dx, _, _, rfl, h1, T.cl, T.nP,
          bf_places _ _, d, _, rfl, DGet.k (k := Sum.inr x) h3, ?_⟩
        have ex : x = SX.S x.cps.toList := (SX.S_tl x).symm
        rw [ex, val_prs, if_neg hm]
        exact qf
  · exact ⟨_, rfl, _, rfl, .inr ⟨t, ty, kt, _, rfl, iteF (q H (Same.refl H))⟩⟩
end
end OM
namespace OM
open PySem PySem.Spec PyProof.Rows L2
/-! ### a class that is made, in one word -/
structure CalC (P : Program) (w : World) (K : PySem.W.Frag)
    (mg : Str → Option Value) (base : Heap) (C : Addr) (k : Nat) (x : Str)
    (ps : List Str) (sp : Sp) : Prop where
  mgC : mg x = some (.ref C)
  ex : ∃ f fd, FnOk P w K mg base CX0 k f fd ps sp ∧ Mk K C f ∧
    Binds K fd ps []
section
variable {X : Cx} {k : Nat} {ps : List Str} {sp : Sp} {x : Str} {C : Addr}
  {p pos : Pos} {e : Expr} {es : List Expr} {t : TA}
theorem pe_calC (M : CalC X.prog X.w X.K X.mg X.base C k x ps sp)
    (room : Room (k + 1) X.A) (ha : PA X (e :: es) t)
    (hg : Gl X x := by rfl)
    (h1 : (x == ("__debug__" : Str)) = false := by decide)
    (h2 : starEach (e :: es) X.env =
      (false, eval e X.env) :: starEach es X.env := by rfl)
    (h3 : (backTo pos (starEach es X.env)).any (·.1) = false := by rfl) :
    PE X (.Call (.Name x p) (e :: es) [] pos) (tMake C sp [] E0 t) := by
  obtain ⟨f, fd, F, m, b⟩ := M.ex
  exact pe_make m F room hg M.mgC b .nil pass0 ha h1 h2 h3
end
theorem cut_to (xs : List V) {n : Nat} (h : n ≤ xs.length) :
    cutV xs none (some (n : Int)) = xs.take n := by
  unfold cutV
  rw [HT.sIx_nat, HT.sIx_none, Nat.min_eq_left h, Nat.sub_zero,
    List.drop_zero]
theorem cut_from (xs : List V) {n : Nat} (h : n ≤ xs.length) :
    cutV xs (some (n : Int)) none = xs.drop n := by
  unfold cutV
  rw [HT.sIx_nat, HT.sIx_none, Nat.min_eq_left h]
  exact List.take_of_length_le (by rw [List.length_drop]; exact Nat.le_refl _)
/-- os is an order of the base -/
structure Ord (C : Addr) (H : Hp) (b a : Addr) (ls os : List (List Nat)) :
    Prop where
  ba : BaseAt C H b ls
  good : Good ls
  li : H a = some (.lst (os.map vS))
  pm : os.Perm ls
theorem Ord.same {C b a : Addr} {H H' : Hp} {ls os : List (List Nat)}
    (x : Ord C H b a ls os) (s : Same H H') : Ord C H' b a ls os :=
  ⟨x.ba.same s, x.good, s _ _ x.li, x.pm⟩
theorem Good.perm {ls os : List (List Nat)} (g : Good ls)
    (p : os.Perm ls) : Good os :=
  ⟨fun l h => g.nm l (p.mem_iff.mp h), p.nodup_iff.mpr g.nd,
    by rw [p.length_eq]; exact g.lo, by rw [p.length_eq]; exact g.hi⟩
end OM
namespace OM
open PySem PySem.Spec PyProof.Rows L2
def spFaultOk (C : Addr) : Sp := fun vs H Q _ =>
  ∃ (b a : Addr) (ls os : List (List Nat)), vs = [.ref b, .ref a] ∧
  Ord C H b a ls os ∧ ∀ H', Same H H' → Q .non H'
def spIsOrderOk (C : Addr) : Sp := fun vs H Q _ =>
  ∃ (b a : Addr) (ls os : List (List Nat)), vs = [.ref b, .ref a] ∧
  Ord C H b a ls os ∧ ∀ H', Same H H' → Q (.bl true) H'
section
variable {P : Program} {w : World} {K : PySem.W.Frag}
  {mg : Str → Option Value} {base : Heap} {C : Addr}
theorem ok_fault {f fl : Addr} {fd fdl : FuncData} {k n : Nat}
    (F : Fun K "order_fault" "order_fault" s_order_fault f fd) (B : Bl mg)
    (T : BC K mg C)
    (Mh : CalM P w K mg base C k "has_item" ["self", "value"] (spHas K C))
    (Sl : Spec1 K C "__len__" fl fdl ["self"])
    (Gl : FnOk P w K mg base CX0 n fl fdl ["self"] (spLenB C))
    (hn : n + 1 ≤ k) :
    FnOk P w K mg base CX0 (k + 1) f fd ["base", "value"] (spFaultOk C) := by
  refine F.ok sc_order_fault (fun vs H Q E h => ?_)
    (fun cv A outer s H vs Q E hr h => ?_)
  · obtain ⟨b, a, ls, os, rfl, _⟩ := h
    rfl
  obtain ⟨b, a, ls, os, rfl, o, q⟩ := h
  have nd := sc_order_fault.nd
  have hrn := hr.mono hn
  refine ⟨_, pss_cons (ps_if (pt_not (pt_val
      (pe_callB call_isi (by rfl) B.isi bt_isi (pa_cons (pv 1) (pa_cons
        (pe_bltn (v := .ty "list") (by rfl) B.list bt_list rfl) pa_nil)))))
      (pss_one ps_never) pss_nil)
    (pss_cons (ps_for PassesOwn.never rfl
      (pi_enum (by rfl) B.enum (pa_cons (pv 1) pa_nil))
      (pg_tup rfl (pgs_cons (pg_name (i := 2) nd rfl (.inl rfl))
        (pgs_cons (pg_name (i := 3) nd rfl (.inl rfl)) pgs_nil)))
      (pss_one (ps_if (PW.pt (pw_or (pt_not (pt_val
          (pe_calM Mh hr (pv 0) (pa_cons (pv 3) pa_nil))))
          (pw_or1 (pt_cmpR op_in_seq (pv 3)
            (pe_slice sl_list (pv 1) po_none (po_some (pv 2))) (by rfl)))))
        (pss_one ps_never) pss_nil)))
    (pss_cons (ps_if (pt_cmpR op_lt
        (pe_callB call_len_seq (by rfl) B.len PySem.boot_len
          (pa_cons (pv 1) pa_nil))
        (pe_callB (call_lenOwn Sl Gl hrn) (by rfl) B.len PySem.boot_len
          (pa_cons (pv 0) pa_nil)) (nomark _))
      (pss_one ps_never) pss_nil)
    (pss_one (ps_ret pe_non)))), ?_⟩
  refine ⟨_, rfl, _, _, _, _, true, rfl, .ty "list", .base (.lst o.li),
    kit_ty (by decide +kernel), _, rfl, iteF ?_⟩
  refine ⟨_, rfl, a, _, rfl, SqL.of o.li, ?_⟩
  have go := o.good.perm o.pm
  refine for_it (walk_enum (K := K) (a := a) (xs := os.map vS))
    (fun i σ H' => ∃ (y z : Option V),
      σ = [some (.ref b), some (.ref a), y, z] ∧ Same H H')
    ⟨none, none, rfl, Same.refl H⟩
    (fun i σ H' _ z => by
      obtain ⟨_, _, _, sm⟩ := z
      exact SqL.of (sm _ _ o.li))
    ?_ ?_
  · rintro i v σ H1 H2 hi ⟨y, z, rfl, sm⟩ ⟨T', x1, x2, rfl, nT, rfl, e1, e2⟩
    obtain ⟨l, hl, rfl⟩ := get_map e2
    cases Option.some.inj e1
    rw [List.length_map] at hi
    have o1 := o.same sm
    have o2 := o1.same (sameNew (o := .tup [.int (i : Nat), vS l]) nT)
    obtain ⟨dx, lo, d, h1, h2, h3⟩ := o2.ba.ob
    have ml : l ∈ os := List.mem_of_getElem? hl
    have nl : Nm l := go.nm l ml
    refine ⟨T', _, rfl, .inl (.inl upd_same), rfl, _, _, rfl, _, _, rfl, rfl,
      ?_⟩
    refine ⟨_, rfl, b, dx, _, rfl, h1, bf_no _ _ (by decide +kernel)
      (by decide +kernel), _, rfl, b, ls, _, rfl, o2.ba, o.good.nm, .inl ⟨_, rfl,
      nl.len, fun H3 s3 => ?_⟩⟩
    have o3 := o2.same s3
    rw [decide_eq_true (show (SX.S l).cps.toList ∈ ls from
      o.pm.mem_iff.mp ml)]
    refine ⟨_, rfl, iteF ?_⟩
    refine ⟨_, rfl, _, rfl, _, rfl, i, rfl, a, _, rfl, SqL.of o3.li,
      fun t nt => ?_⟩
    rw [cut_to _ (by rw [List.length_map]; omega), ← List.map_take]
    refine ⟨t, _, rfl, .inl (SqL.of upd_same), rfl, flat_S _, _, rfl, ?_⟩
    rw [inV_S, decide_eq_false (nodup_take go.nd hl)]
    refine iteF ⟨_, _, rfl, ?_⟩
    exact ((sm.trans (sameNew nT)).trans s3).trans (sameNew nt)
  · rintro σ H1 ⟨y, z, rfl, sm⟩
    have o1 := o.same sm
    obtain ⟨dx, lo, d, h1, h2, h3⟩ := o1.ba.ob
    refine ⟨_, rfl, a, _, rfl, .inl (SqL.of o1.li), _, rfl, b, dx, _, rfl, h1,
      b, ls, rfl, o1.ba, ls.length, rfl, ?_, _, _, rfl, rfl, _, rfl, ?_⟩
    · have := o.good.hi
      omega
    · rw [List.length_map, o.pm.length_eq, decide_eq_false (by omega)]
      exact iteF (q H1 sm)
theorem ok_checkorder {f : Addr} {fd : FuncData} {k : Nat}
    (F : Fun K "check_order" "check_order" s_check_order f fd)
    (Cf : Cal P w K mg base k "order_fault" ["base", "value"]
      (spFaultOk C)) :
    FnOk P w K mg base CX0 (k + 1) f fd ["base", "order"] (spFaultOk C) := by
  refine F.ok sc_check_order (fun vs H Q E h => ?_)
    (fun cv A outer s H vs Q E hr h => ?_)
  · obtain ⟨b, a, ls, os, rfl, _⟩ := h
    rfl
  obtain ⟨b, a, ls, os, rfl, o, q⟩ := h
  have nd := sc_check_order.nd
  refine ⟨_, pss_cons (ps_set (i := 2) nd rfl (.inl rfl)
      (pe_cal Cf hr (pa_cons (pv 0) (pa_cons (pv 1) pa_nil))))
    (pss_one (ps_if (pt_cmpR op_notN (pv 2) pe_non (nomark _))
      (pss_one ps_never) pss_nil)), ?_⟩
  exact ⟨_, rfl, _, rfl, b, a, ls, os, rfl, o, fun H1 s1 =>
    ⟨_, rfl, rfl, _, rfl, iteF (q H1 s1)⟩⟩
end
end OM
namespace OM
open PySem PySem.Spec PyProof.Rows L2
/-- an item's place -/
def spPos (C : Addr) : Sp := fun vs H Q _ =>
  ∃ (b : Addr) (ls : List (List Nat)) (l : List Nat), vs = [.ref b, vS l] ∧
  BaseAt C H b ls ∧ (∀ l ∈ ls, Nm l) ∧ l ∈ ls ∧
  ∀ H', Same H H' → Q (.int ((ls.idxOf l : Nat) : Int)) H'
def spPrec (C : Addr) : Sp := fun vs H Q _ =>
  ∃ (b : Addr) (ls : List (List Nat)) (l m : List Nat),
  vs = [.ref b, vS l, vS m] ∧
  BaseAt C H b ls ∧ (∀ l ∈ ls, Nm l) ∧ l ∈ ls ∧ m ∈ ls ∧
  ∀ H', Same H H' → Q (.bl (decide (ls.idxOf l < ls.idxOf m))) H'
theorem idx_get {ls : List (List Nat)} {l : List Nat} (h : l ∈ ls) :
    (ls.map vS)[ls.idxOf l]? = some (vS l) := by
  have hl := List.idxOf_lt_length_of_mem h
  rw [List.getElem?_map, List.getElem?_eq_getElem hl, List.getElem_idxOf hl]
  rfl
theorem idx_first {ls : List (List Nat)} {l : List Nat} (m : Nat) (z : V)
    (hm : m < ls.idxOf l) (hz : (ls.map vS)[m]? = some z) :
    eqV z (vS l) = false := by
  rw [List.getElem?_map] at hz
  cases e : ls[m]? with
  | none => rw [e] at hz; cases hz
  | some x =>
    rw [e] at hz
    cases Option.some.inj hz
    have ne : x ≠ l := by
      rintro rfl
      obtain ⟨hl, e2⟩ := List.getElem?_eq_some_iff.mp e
      have := List.not_of_lt_findIdx hm
      simp [e2] at this
    unfold eqV
    simp
    exact ne
theorem eqV_self (l : List Nat) : eqV (vS l) (vS l) = true := by
  unfold eqV
  simp
section
variable {P : Program} {w : World} {K : PySem.W.Frag}
  {mg : Str → Option Value} {base : Heap} {C : Addr}
theorem ok_pos {f : Addr} {fd : FuncData} {k : Nat}
    (F : Fun K "position_of" "Base.position_of" s_Base_position_of f fd)
    (T : BC K mg C)
    (Mh : CalM P w K mg base C k "has_item" ["self", "value"] (spHas K C)) :
    FnOk P w K mg base CX0 (k + 1) f fd ["self", "item"] (spPos C) := by
  refine F.ok sc_Base_position_of (fun vs H Q E h => ?_)
    (fun cv A outer s H vs Q E hr h => ?_)
  · obtain ⟨b, ls, l, rfl, _⟩ := h
    rfl
  obtain ⟨b, ls, l, rfl, hb, nm, hm, q⟩ := h
  have hu := hu_of hr
  refine ⟨_, pss_cons (ps_if (pt_not (pt_val
      (pe_calM Mh hr (pv 0) (pa_cons (pv 1) pa_nil)))) (pss_one ps_never)
      pss_nil)
    (pss_one (ps_ret (pe_dget hu (pe_fld (pv 0) rfl) (pv 1)
      (fun _ _ => rfl)))), ?_⟩
  obtain ⟨dx, lo, d, h1, h2, h3⟩ := hb.ob
  refine ⟨_, rfl, b, dx, _, rfl, h1, bf_no _ _ (by decide +kernel)
    (by decide +kernel), _, rfl, b, ls, _, rfl, hb, nm, .inl ⟨_, rfl,
    (nm l hm).len, fun H1 s1 => ?_⟩⟩
  rw [decide_eq_true (show (SX.S l).cps.toList ∈ ls from hm)]
  refine ⟨_, rfl, iteF ?_⟩
  refine ⟨_, rfl, b, C, dx, _, _, rfl, s1 _ _ h1, T.cl, T.nP, bf_places _ _, _,
    rfl, d, _, rfl, ?_, q H1 s1⟩
  have g := DGet.k (k := Sum.inr (SX.S l)) (s1 _ _ h3)
  rw [val_prs, if_pos hm, Nat.zero_add] at g
  exact g
theorem ok_prec {f : Addr} {fd : FuncData} {k : Nat}
    (F : Fun K "precedes" "Base.precedes" s_Base_precedes f fd)
    (Mp : CalM P w K mg base C k "position_of" ["self", "item"] (spPos C)) :
    FnOk P w K mg base CX0 (k + 1) f fd ["self", "first", "second"]
      (spPrec C) := by
  refine F.ok sc_Base_precedes (fun vs H Q E h => ?_)
    (fun cv A outer s H vs Q E hr h => ?_)
  · obtain ⟨b, ls, l, m, rfl, _⟩ := h
    rfl
  obtain ⟨b, ls, l, m, rfl, hb, nm, hl, hm, q⟩ := h
  refine ⟨_, pss_one (ps_ret (pe_cmpR op_lt
    (pe_calM Mp hr (pv 0) (pa_cons (pv 1) pa_nil))
    (pe_calM Mp hr (pv 0) (pa_cons (pv 2) pa_nil)) (nomark _))), ?_⟩
  obtain ⟨dx, lo, d, h1, h2, h3⟩ := hb.ob
  refine ⟨_, rfl, b, dx, _, rfl, h1, bf_no _ _ (by decide +kernel)
    (by decide +kernel), _, rfl, b, ls, l, rfl, hb, nm, hl, fun H1 s1 => ?_⟩
  refine ⟨_, rfl, b, dx, _, rfl, s1 _ _ h1, bf_no _ _ (by decide +kernel)
    (by decide +kernel), _, rfl, b, ls, m, rfl, hb.same s1, nm, hm,
    fun H2 s2 => ⟨_, _, rfl, rfl, ?_⟩⟩
  have := q H2 (s1.trans s2)
  show Q (.bl (decide (((ls.idxOf l : Nat) : Int) <
    ((ls.idxOf m : Nat) : Int)))) H2
  rw [show decide (((ls.idxOf l : Nat) : Int) < ((ls.idxOf m : Nat) : Int)) =
    decide (ls.idxOf l < ls.idxOf m) from decide_eq_decide.mpr
      ⟨fun z => by omega, fun z => by omega⟩]
  exact this
end
end OM
namespace OM
open PySem PySem.Spec PyProof.Rows L2
structure BlI (mg : Str → Option Value) : Prop where
  int : mg "int" = none
  bool : mg "bool" = none
theorem bti_int : bootBuiltins "int" = some (.type "int") := by
  decide +kernel
theorem bti_bool : bootBuiltins "bool" = some (.type "bool") := by
  decide +kernel
/-- a whole number is an integer -/
def spIsInt : Sp := fun vs H Q _ => ∃ v : Int, vs = [.int v] ∧ Q (.bl true) H
/-- a whole number within bounds -/
def spIntFrom : Sp := fun vs H Q _ => ∃ v lo hi : Int,
  vs = [.int v, .int lo, .int hi] ∧
  Q (.bl (decide (lo ≤ v) && decide (v ≤ hi))) H
def spSwapIx (C : Addr) : Sp := fun vs H Q _ =>
  ∃ (b : Addr) (ls : List (List Nat)) (v : Int), vs = [.ref b, .int v] ∧
  BaseAt C H b ls ∧ ls.length ≤ 40 ∧
  Q (.bl (decide (0 ≤ v) && decide (v ≤ (ls.length : Int) - 2))) H
def spChkIx (C : Addr) : Sp := fun vs H Q _ =>
  ∃ (b : Addr) (ls : List (List Nat)) (i : Nat), vs = [.ref b, .int i] ∧
  BaseAt C H b ls ∧ ls.length ≤ 40 ∧ i + 1 < ls.length ∧ Q .non H
def spExch (K : PySem.W.Frag) : Sp := fun vs H Q _ =>
  ∃ (a : Addr) (xs : List V) (i : Nat), vs = [.ref a, .int i] ∧
  SqL K H a xs ∧ i + 1 < xs.length ∧ xs.length ≤ 1000 ∧
  ∀ q H', H q = none → H' q = some (.lst (exch xs i)) → Same H H' →
    Q (.ref q) H'
def spOut (C : Addr) : Sp := fun vs H Q _ =>
  ∃ (b a : Addr) (ls os : List (List Nat)) (i : Nat),
  vs = [.ref b, .ref a, .int i] ∧ Ord C H b a ls os ∧ i + 1 < os.length ∧
  ∀ H', Same H H' → Q (.bl (outB ls os i)) H'
section
variable {P : Program} {w : World} {K : PySem.W.Frag}
  {mg : Str → Option Value} {base : Heap} {C : Addr}
theorem ok_isint {f : Addr} {fd : FuncData} {k : Nat}
    (F : Fun K "is_integer" "is_integer" s_is_integer f fd)
    (B : Bl mg) (BI : BlI mg) :
    FnOk P w K mg base CX0 (k + 1) f fd ["value"] spIsInt := by
  refine F.ok sc_is_integer (fun vs H Q E h => ?_)
    (fun cv A outer s H vs Q E hr h => ?_)
  · obtain ⟨v, rfl, _⟩ := h
    rfl
  obtain ⟨v, rfl, q⟩ := h
  refine ⟨_, pss_one (ps_ret (pe_and
    (pe_callB call_isi (by rfl) B.isi bt_isi (pa_cons (pv 0) (pa_cons
      (pe_bltn (v := .ty "int") (by rfl) BI.int bti_int rfl) pa_nil)))
    (pe_one (pe_not (pe_callB call_isi (by rfl) B.isi bt_isi (pa_cons (pv 0)
      (pa_cons (pe_bltn (v := .ty "bool") (by rfl) BI.bool bti_bool rfl)
        pa_nil))))))), ?_⟩
  refine ⟨_, rfl, _, _, _, _, true, rfl, .ty "int", .base (.int _),
    kit_ty (by decide +kernel), _, rfl, iteT ?_⟩
  exact ⟨_, rfl, _, _, _, _, false, rfl, .ty "bool", .base (.int _),
    kit_ty (by decide +kernel), _, rfl, q⟩
theorem ok_intfrom {f : Addr} {fd : FuncData} {k : Nat}
    (F : Fun K "is_integer_from" "is_integer_from" s_is_integer_from f fd)
    (Ci : Cal P w K mg base k "is_integer" ["value"] spIsInt) :
    FnOk P w K mg base CX0 (k + 1) f fd ["value", "low", "high"]
      spIntFrom := by
  refine F.ok sc_is_integer_from (fun vs H Q E h => ?_)
    (fun cv A outer s H vs Q E hr h => ?_)
  · obtain ⟨v, lo, hi, rfl, _⟩ := h
    rfl
  obtain ⟨v, lo, hi, rfl, q⟩ := h
  refine ⟨_, pss_one (ps_ret (pe_and (pe_cal Ci hr (pa_cons (pv 0) pa_nil))
    (pe_one (pe_chain op_le op_le (pv 1) (pv 0) (pv 2))))), ?_⟩
  refine ⟨_, rfl, v, rfl, _, rfl, iteT ?_⟩
  refine ⟨_, rfl, _, rfl, _, _, rfl, rfl, _, rfl, ite2 (fun c => ?_)
    (fun c => ?_)⟩
  · refine ⟨_, rfl, _, _, rfl, rfl, ?_⟩
    have c' : lo ≤ v := of_decide_eq_true c
    rw [decide_eq_true c', Bool.true_and] at q
    exact q
  · have c' : ¬ lo ≤ v := fun z => c (decide_eq_true z)
    rw [decide_eq_false c', Bool.false_and] at q
    exact q
theorem ok_swapix {f fl : Addr} {fd fdl : FuncData} {k n : Nat}
    (F : Fun K "is_swap_index" "is_swap_index" s_is_swap_index f fd)
    (B : Bl mg)
    (Ci : Cal P w K mg base k "is_integer_from" ["value", "low", "high"]
      spIntFrom)
    (Sl : Spec1 K C "__len__" fl fdl ["self"])
    (Gl : FnOk P w K mg base CX0 n fl fdl ["self"] (spLenB C))
    (hn : n + 1 ≤ k) :
    FnOk P w K mg base CX0 (k + 1) f fd ["base", "value"] (spSwapIx C) := by
  refine F.ok sc_is_swap_index (fun vs H Q E h => ?_)
    (fun cv A outer s H vs Q E hr h => ?_)
  · obtain ⟨b, ls, v, rfl, _⟩ := h
    rfl
  obtain ⟨b, ls, v, rfl, hb, hl, q⟩ := h
  have hrn := hr.mono hn
  refine ⟨_, pss_one (ps_ret (pe_cal Ci hr (pa_cons (pv 1) (pa_cons pe_int
    (pa_cons (pe_op op_sub (pe_callB (call_lenOwn Sl Gl hrn) (by rfl) B.len
      PySem.boot_len (pa_cons (pv 0) pa_nil)) pe_int) pa_nil))))), ?_⟩
  obtain ⟨dx, lo, d, h1, h2, h3⟩ := hb.ob
  exact ⟨_, rfl, _, rfl, b, dx, _, rfl, h1, b, ls, rfl, hb, ls.length, rfl,
    by omega, _, _, rfl, rfl, v, 0, _, rfl, q⟩
theorem ok_chkix {f : Addr} {fd : FuncData} {k : Nat}
    (F : Fun K "check_swap_index" "check_swap_index" s_check_swap_index f fd)
    (Ci : Cal P w K mg base k "is_swap_index" ["base", "value"]
      (spSwapIx C)) :
    FnOk P w K mg base CX0 (k + 1) f fd ["base", "index"] (spChkIx C) := by
  refine F.ok sc_check_swap_index (fun vs H Q E h => ?_)
    (fun cv A outer s H vs Q E hr h => ?_)
  · obtain ⟨b, ls, v, rfl, _⟩ := h
    rfl
  obtain ⟨b, ls, i, rfl, hb, hl, hi, q⟩ := h
  refine ⟨_, pss_one (ps_if (pt_not (pt_val (pe_cal Ci hr (pa_cons (pv 0)
    (pa_cons (pv 1) pa_nil))))) (pss_one ps_never) pss_nil), ?_⟩
  refine ⟨_, rfl, _, rfl, b, ls, _, rfl, hb, hl, _, rfl, ?_⟩
  rw [decide_eq_true (show (0 : Int) ≤ (i : Int) by omega),
    decide_eq_true (show (i : Int) ≤ (ls.length : Int) - 2 by omega)]
  exact iteF q
theorem ok_exch {f : Addr} {fd : FuncData} {k : Nat}
    (F : Fun K "exchanged" "exchanged" s_exchanged f fd) :
    FnOk P w K mg base CX0 (k + 1) f fd ["order", "index"] (spExch K) := by
  refine F.ok sc_exchanged (fun vs H Q E h => ?_)
    (fun cv A outer s H vs Q E hr h => ?_)
  · obtain ⟨a, xs, i, rfl, _⟩ := h
    rfl
  obtain ⟨a, xs, i, rfl, hS, hi, hx, q⟩ := h
  refine ⟨_, pss_one (ps_ret (pe_op op_cat (pe_op op_cat
      (pe_slice sl_list (pv 0) po_none (po_some (pv 1)))
      (pe_lst (pa_cons (pe_ix ix_list (pv 0) (pe_op op_add (pv 1) pe_int)
          (fun _ _ => rfl))
        (pa_cons (pe_ix ix_list (pv 0) (pv 1) (fun _ _ => rfl)) pa_nil))))
      (pe_slice sl_list (pv 0) (po_some (pe_op op_add (pv 1) pe_int))
        po_none))), ?_⟩
  refine ⟨_, rfl, _, rfl, i, rfl, a, _, rfl, hS, fun p1 n1 => ?_⟩
  rw [cut_to _ (by omega)]
  have s1 : Same H (upd H p1 (.lst (xs.take i))) := sameNew n1
  have h1 : (upd H p1 (.lst (xs.take i))) p1 = some (.lst (xs.take i)) :=
    upd_same
  generalize upd H p1 (.lst (xs.take i)) = H1 at s1 h1 ⊢
  have g1 := s1.seq hS
  refine ⟨_, rfl, _, rfl, _, _, rfl, rfl, a, _, _, xs[i + 1], rfl, rfl, g1,
    atI_nat (j := i + 1) (List.getElem?_eq_getElem hi), _, rfl, _, rfl, a, _, _,
    xs[i], rfl, rfl, g1, atI_nat (j := i)
    (List.getElem?_eq_getElem (by omega)), sz (by simp), fun p2 n2 => ?_⟩
  have s2 : Same H1 (upd H1 p2 (.lst [xs[i + 1], xs[i]])) := sameNew n2
  have h2 : (upd H1 p2 (.lst [xs[i + 1], xs[i]])) p2 =
    some (.lst [xs[i + 1], xs[i]]) := upd_same
  generalize upd H1 p2 (.lst [xs[i + 1], xs[i]]) = H2 at s2 h2 ⊢
  refine ⟨p1, p2, _, _, rfl, rfl, s2 _ _ h1, h2, ?_, fun p3 n3 => ?_⟩
  · rw [List.length_take]
    exact sz (by simp; omega)
  have s3 : Same H2 (upd H2 p3 (.lst (xs.take i ++ [xs[i + 1], xs[i]]))) :=
    sameNew n3
  have h3 : (upd H2 p3 (.lst (xs.take i ++ [xs[i + 1], xs[i]]))) p3 =
    some (.lst (xs.take i ++ [xs[i + 1], xs[i]])) := upd_same
  generalize upd H2 p3 (.lst (xs.take i ++ [xs[i + 1], xs[i]])) = H3
    at s3 h3 ⊢
  refine ⟨_, rfl, _, rfl, _, _, rfl, rfl, _, rfl, a, _, rfl,
    s3.seq (s2.seq g1), fun p4 n4 => ?_⟩
  rw [show (i : Int) + 2 = ((i + 2 : Nat) : Int) by omega,
    cut_from _ (by omega)]
  have s4 : Same H3 (upd H3 p4 (.lst (xs.drop (i + 2)))) := sameNew n4
  have h4 : (upd H3 p4 (.lst (xs.drop (i + 2)))) p4 =
    some (.lst (xs.drop (i + 2))) := upd_same
  generalize upd H3 p4 (.lst (xs.drop (i + 2))) = H4 at s4 h4 ⊢
  refine ⟨p3, p4, _, _, rfl, rfl, s4 _ _ h3, h4, ?_, fun p5 n5 => ?_⟩
  · rw [List.length_append, List.length_take, List.length_drop]
    exact sz (by simp; omega)
  have sm : Same H H4 := ((s1.trans s2).trans s3).trans s4
  refine q p5 _ ?_ ?_ (sm.trans (sameNew n5))
  · cases e : H p5 with
    | none => rfl
    | some o => rw [sm _ _ e] at n5; cases n5
  · rw [upd_same, ← exch_eq hi]
theorem ok_goes {f : Addr} {fd : FuncData} {k : Nat}
    (F : Fun K "goes_outward" "goes_outward" s_goes_outward f fd)
    (Mp : CalM P w K mg base C k "precedes" ["self", "first", "second"]
      (spPrec C)) :
    FnOk P w K mg base CX0 (k + 1) f fd ["base", "order", "index"]
      (spOut C) := by
  refine F.ok sc_goes_outward (fun vs H Q E h => ?_)
    (fun cv A outer s H vs Q E hr h => ?_)
  · obtain ⟨b, a, ls, os, i, rfl, _⟩ := h
    rfl
  obtain ⟨b, a, ls, os, i, rfl, o, hi, q⟩ := h
  refine ⟨_, pss_one (ps_ret (pe_calM Mp hr (pv 0) (pa_cons
    (pe_ix ix_list (pv 1) (pv 2) (fun _ _ => rfl)) (pa_cons
    (pe_ix ix_list (pv 1) (pe_op op_add (pv 2) pe_int) (fun _ _ => rfl))
    pa_nil)))), ?_⟩
  obtain ⟨dx, lo, d, h1, h2, h3⟩ := o.ba.ob
  have hL := SqL.of (K := K) o.li
  refine ⟨_, rfl, b, dx, _, rfl, h1, bf_no _ _ (by decide +kernel)
    (by decide +kernel), _, rfl, _, rfl, a, _, _, _, rfl, rfl, hL,
    atI_nat (j := i) (getD_map vS [] (by omega)), _, rfl, _, rfl, _, _, rfl, rfl,
    a, _, _, _, rfl, rfl, hL, atI_nat (j := i + 1) (getD_map vS [] hi),
    b, ls, _, _, rfl, o.ba, o.good.nm, o.pm.mem_iff.mp (getD_mem [] (by omega)),
    o.pm.mem_iff.mp (getD_mem [] hi), fun H1 s1 => q H1 s1⟩
end
end OM
namespace OM
open PySem PySem.Spec PyProof.Rows L2
/-- the inverted pairs, new tuples in a new list -/
def spPairs (C : Addr) : Sp := fun vs H Q _ =>
  ∃ (b a : Addr) (ls os : List (List Nat)), vs = [.ref b, .ref a] ∧
  Ord C H b a ls os ∧ ∀ (q : Addr) (rs : List Addr) (H' : Hp), H q = none →
    H' q = some (.lst (rs.map V.ref)) → PrsAt H' rs (invAll ls os) →
    Same H H' → Q (.ref q) H'
/-- the same by the law -/
def spLInv : Sp := fun vs H Q _ =>
  ∃ (it a : Addr) (ls os : List (List Nat)), vs = [.ref it, .ref a] ∧
  H it = some (.lst (ls.map vS)) ∧ H a = some (.lst (os.map vS)) ∧ Good ls ∧
  os.Perm ls ∧ ∀ (q : Addr) (rs : List Addr) (H' : Hp), H q = none →
    H' q = some (.lst (rs.map V.ref)) → PrsAt H' rs (invAll ls os) →
    Same H H' → Q (.ref q) H'
theorem invF_snoc (os : List (List Nat)) (f : List Nat) (r : List (List Nat))
    (s : List Nat) : invF os f (r ++ [s]) = invF os f r ++
      if os.idxOf s < os.idxOf f then [(f, s)] else [] := by
  unfold invF
  rw [List.filter_append, List.map_append]
  congr 1
  by_cases h : os.idxOf s < os.idxOf f
  · rw [List.filter_cons_of_pos (by simpa using h), if_pos h]
    rfl
  · rw [List.filter_cons_of_neg (by simpa using h), if_neg h]
    rfl
theorem take_snoc {α : Type} {r : List α} {j : Nat} {s : α}
    (h : r[j]? = some s) : r.take (j + 1) = r.take j ++ [s] := by
  rw [List.take_add_one, h]
  rfl
theorem Good.many {ls : List (List Nat)} (g : Good ls) (os : List (List Nat))
    {i : Nat} (hi : i ≤ ls.length) : (invTo ls os i).length ≤ 1600 := by
  have a := invTo_len ls os i hi
  have b := g.hi
  have : i * ls.length ≤ 40 * 40 := Nat.mul_le_mul (by omega) b
  omega
theorem SqL.up {K : PySem.W.Frag} {H H' : Hp} {a : Addr} {xs : List V}
    (h : H a = some (.lst xs)) (s : Same H H') : SqL K H' a xs :=
  SqL.of (s _ _ h)
theorem PrsAt.put {H : Hp} {D : Addr} {o : HO} {xs : List V} :
    ∀ {rs : List Addr} {ps : List Pr}, PrsAt H rs ps →
      H D = some (.lst xs) → PrsAt (upd H D o) rs ps
  | _, _, .nil, _ => .nil
  | _, _, .cons h t, hD => .cons (by
      rw [upd_ne (ne_of h hD nofun)]; exact h) (PrsAt.put t hD)
end OM
namespace OM
open PySem PySem.Spec PyProof.Rows L2
structure Bl2 (mg : Str → Option Value) : Prop where
  dict : mg "dict" = none
  int : mg "int" = none
theorem bt_dict : bootBuiltins "dict" = some (.type "dict") := by
  decide +kernel
theorem bt_int : bootBuiltins "int" = some (.type "int") := by
  decide +kernel
theorem merge_prs {ls : List (List Nat)} (nd : ls.Nodup) : ∀ i, i ≤ ls.length →
    mergeK [] (prs 0 (ls.take i)) = prs 0 (ls.take i)
  | 0, _ => rfl
  | i + 1, h => by
    have ih := merge_prs nd i (by omega)
    have hi : ls[i]? = some ls[i] := List.getElem?_eq_getElem (by omega)
    rw [take_snoc hi, prs_snoc]
    unfold mergeK at ih ⊢
    rw [List.foldl_append, ih]
    show putK (prs 0 (ls.take i)) (Sum.inr (SX.S ls[i])) _ = _
    rw [putK_new _ (by rw [val_prs, if_neg (nodup_take nd hi)])]
/-- the tuples (item, place) -/
def KvAt (K : PySem.W.Frag) (H : Hp) (rs : List Addr)
    (kvs : List (Key × V)) : Prop :=
  Paired (fun p (kv : Key × V) => SqT K H p [kV kv.1, kv.2]) rs kvs
theorem KvAt.snoc {K : PySem.W.Frag} {H : Hp} {r : Addr} {kv : Key × V}
    (h : SqT K H r [kV kv.1, kv.2]) : ∀ {rs : List Addr}
    {kvs : List (Key × V)}, KvAt K H rs kvs → KvAt K H (rs ++ [r]) (kvs ++ [kv])
  | _, _, .nil => .cons h .nil
  | _, _, .cons a t => .cons a (KvAt.snoc h t)
theorem KvAt.len {K : PySem.W.Frag} {H : Hp} : ∀ {rs : List Addr}
    {kvs : List (Key × V)}, KvAt K H rs kvs → rs.length = kvs.length
  | _, _, .nil => rfl
  | _, _, .cons _ t => congrArg (· + 1) (KvAt.len t)
theorem SqT.put {K : PySem.W.Frag} {H : Hp} {r D : Addr} {o : HO}
    {xs ys : List V} (h : SqT K H r xs) (hD : H D = some (.lst ys)) :
    SqT K (upd H D o) r xs := by
  rcases h with (h | ⟨ob, h⟩) | h
  · exact .inl (.inl (by rw [upd_ne (ne_of h hD nofun)]; exact h))
  · exact .inl (.inr ⟨ob, by rw [upd_ne (ne_of h hD nofun)]; exact h⟩)
  · exact .inr h
theorem SqT.same {K : PySem.W.Frag} {H H' : Hp} {r : Addr} {xs : List V}
    (h : SqT K H r xs) (s : Same H H') : SqT K H' r xs := by
  rcases h with (h | ⟨ob, h⟩) | h
  · exact .inl (.inl (s _ _ h))
  · exact .inl (.inr ⟨ob, s _ _ h⟩)
  · exact .inr h
theorem KvAt.put {K : PySem.W.Frag} {H : Hp} {D : Addr} {o : HO} {ys : List V}
    (hD : H D = some (.lst ys)) : ∀ {rs : List Addr} {kvs : List (Key × V)},
    KvAt K H rs kvs → KvAt K (upd H D o) rs kvs
  | _, _, .nil => .nil
  | _, _, .cons h t => .cons (OM.SqT.put h hD) (KvAt.put hD t)
theorem KvAt.same {K : PySem.W.Frag} {H H' : Hp} (s : Same H H') :
    ∀ {rs : List Addr} {kvs : List (Key × V)},
    KvAt K H rs kvs → KvAt K H' rs kvs
  | _, _, .nil => .nil
  | _, _, .cons h t => .cons (OM.SqT.same h s) (KvAt.same s t)
end OM
namespace OM
open PySem PySem.Spec PyProof.Rows L2
section
variable {P : Program} {w : World} {K : PySem.W.Frag}
  {mg : Str → Option Value} {base : Heap} {C : Addr}
theorem ok_linv {f : Addr} {fd : FuncData} {k : Nat}
    (F : Fun K "_law_inverted" "_law_inverted" s_Linverted f fd)
    (B : Bl mg) (B2 : Bl2 mg) :
    FnOk P w K mg base CX0 (k + 1) f fd ["_law_items", "_law_order"]
      spLInv := by
  refine F.ok sc_Linverted (fun vs H Q E h => ?_)
    (fun cv A outer s H vs Q E hr h => ?_)
  · obtain ⟨it, a, ls, os, rfl, _⟩ := h
    rfl
  obtain ⟨it, a, ls, os, rfl, hit, ha, gl, pm, q⟩ := h
  have nd := sc_Linverted.nd
  have hu := hu_of hr
  refine ⟨_, pss_cons (ps_set (i := 2) nd rfl (.inr rfl)
      (pe_callTy (call_dictP rfl) (by rfl) B2.dict bt_dict (pa_cons
        (pe_lc (own := [("_law_k", 4), ("_law_item", 3)])
          (g := gTup K 2 (gCons (gName 4) (gCons (gName 3) gNil)))
          (tt := tYes) rfl nd
          (pi_enum (by rfl) B.enum (pa_cons (pv 1) pa_nil))
          (blkOk_by (N := N_Linverted) (sc := defScope s_Linverted)
            (by decide +kernel))
          (fun _ _ _ _ _ => pg_tup rfl (pgs_cons (pg_name (i := 4) nd rfl
            (Or.inl rfl)) (pgs_cons (pg_name (i := 3) nd rfl (Or.inl rfl))
            pgs_nil)))
          (fun _ _ _ _ _ => pts_nil)
          (fun _ _ _ _ _ => pe_tup (pa_cons (pv 3) (pa_cons (pv 4) pa_nil))))
        pa_nil)))
    (pss_cons (ps_set (i := 5) nd rfl (.inl rfl) (pe_lst pa_nil))
    (pss_cons (ps_for PassesOwn.never rfl
      (pi_enum (by rfl) B.enum (pa_cons (pv 0) pa_nil))
      (pg_tup rfl (pgs_cons (pg_name (i := 4) nd rfl (.inl rfl))
        (pgs_cons (pg_name (i := 6) nd rfl (.inr rfl)) pgs_nil)))
      (pss_one (ps_set (i := 5) nd rfl (.inl rfl) (pe_op op_cat (pv 5)
        (pe_lc (own := [("_law_second", 7)]) (g := gName 7) rfl nd
          (pi_list (pe_slice sl_list (pv 0)
            (po_some (pe_op op_add (pv 4) pe_int)) po_none))
          (blkOk_by (N := N_Linverted) (sc := defScope s_Linverted)
            (by decide +kernel))
          (fun _ _ _ _ _ => pg_name (i := 7) nd rfl (Or.inl rfl))
          (fun _ _ _ _ _ => pts_one (pt_cmpR op_lt
            (pe_dget hu (pv 2) (pv 7) (fun _ _ => rfl))
            (pe_dget hu (pv 2) (pv 6) (fun _ _ => rfl)) (nomark _)))
          (fun _ _ _ _ _ => pe_tup (pa_cons (pv 6)
            (pa_cons (pv 7) pa_nil))))))))
    (pss_one (ps_ret (pv 5))))), ?_⟩
  have go := gl.perm pm
  -- the places
  refine ⟨_, rfl, a, _, rfl, SqL.of ha, fun L nL => ?_⟩
  refine walkW (walk_enum (K := K) (a := a) (xs := os.map vS))
    (fun i H' => ∃ rs, H' L = some (.lst (rs.map V.ref)) ∧
      KvAt K H' rs (prs 0 (os.take i)) ∧ Same H H')
    ⟨[], upd_same, .nil, sameNew nL⟩ (fun i H' _ z => by
      obtain ⟨_, _, _, s⟩ := z; exact SqL.up ha s) ?_ ?_
  · rintro i v H3 H4 hi ⟨rs, hL, kv, s3⟩ ⟨T', x1, x2, rfl, nT, rfl, e1, e2⟩
    obtain ⟨l, hl, rfl⟩ := get_map e2
    cases Option.some.inj e1
    rw [List.length_map] at hi
    have hhi := go.hi
    have lk := kv.len
    rw [prs_len, List.length_take] at lk
    refine ⟨T', _, rfl, .inl (.inl upd_same), rfl, _, _, rfl, _, _, rfl, rfl,
      rfl, yes ⟨_, rfl, _, rfl, sz (by simp), fun r nr => ⟨rs.map V.ref, ?_, ?_,
      rs ++ [r], ?_, ?_, ?_⟩⟩⟩
    · rw [upd_ne (ne_of_none (sameNew nT _ _ hL) nr), upd_ne (ne_of_none hL nT)]
      exact hL
    · rw [List.length_map]
      exact sz' (by omega)
    · rw [upd_same, List.map_append]
      rfl
    · rw [take_snoc hl, prs_snoc, List.length_take, Nat.min_eq_left (by omega),
        Nat.zero_add]
      refine KvAt.put (ys := rs.map V.ref) ?_ (KvAt.snoc
        (kv := (Sum.inr (SX.S l), .int (i : Nat))) (.inl (.inl upd_same))
        (KvAt.same (sameNew nr) (KvAt.same (sameNew nT) kv)))
      rw [upd_ne (ne_of_none (sameNew nT _ _ hL) nr), upd_ne (ne_of_none hL nT)]
      exact hL
    · exact OM.Same.put ((s3.trans (sameNew nT)).trans (sameNew nr)) nL
  rintro H1 ⟨rs0, hL, kv, s1⟩
  rw [List.length_map] at kv
  refine ⟨L, rs0, prs 0 (os.take os.length), rfl, SqL.of hL, kv,
    fun d nd' => ?_⟩
  rw [merge_prs go.nd _ (Nat.le_refl _), List.take_length]
  have s2 : Same H (upd H1 d (.dK (prs 0 os))) := s1.trans (sameNew nd')
  have hd2 : (upd H1 d (.dK (prs 0 os))) d = some (.dK (prs 0 os)) := upd_same
  generalize upd H1 d (.dK (prs 0 os)) = H2 at s2 hd2 ⊢
  -- the pairs
  refine ⟨sz (by simp), fun r0 nr0 => ?_⟩
  have s3 : Same H2 (upd H2 r0 (.lst [])) := sameNew nr0
  refine ⟨_, rfl, it, _, rfl, SqL.up hit (s2.trans s3), ?_⟩
  refine for_it (walk_enum (K := K) (a := it) (xs := ls.map vS))
    (fun i σ H' => ∃ (rr : Addr) (rs : List Addr) (y z : Option V),
      σ = [some (.ref it), some (.ref a), some (.ref d), none, y,
        some (.ref rr), z, none] ∧ H2 rr = none ∧
      H' rr = some (.lst (rs.map V.ref)) ∧
      PrsAt H' rs (invTo ls os i) ∧ Same H2 H')
    ⟨r0, [], none, none, rfl, nr0, upd_same, .nil, s3⟩
    (fun i σ H' _ z => by
      obtain ⟨_, _, _, _, _, _, _, _, s⟩ := z
      exact SqL.up hit (s2.trans s)) ?_ ?_
  · rintro i v σ H4 H5 hi ⟨rr, rs, y, z, rfl, nrr, hrr, pr, s4⟩
      ⟨T', x1, x2, rfl, nT, rfl, e1, e2⟩
    obtain ⟨g, hg, rfl⟩ := get_map e2
    cases Option.some.inj e1
    rw [List.length_map] at hi
    have mg' : g ∈ os := pm.mem_iff.mpr (List.mem_of_getElem? hg)
    have s5 : Same H2 (upd H4 T' (.tup [.int (i : Nat), vS g])) :=
      s4.trans (sameNew nT)
    have hr5 : (upd H4 T' (.tup [.int (i : Nat), vS g])) rr =
        some (.lst (rs.map V.ref)) := by
      rw [upd_ne (ne_of_none hrr nT)]; exact hrr
    have pr5 := pr.same (sameNew (o := .tup [.int (i : Nat), vS g]) nT)
    have hT5 : (upd H4 T' (.tup [.int (i : Nat), vS g])) T' =
      some (.tup [.int (i : Nat), vS g]) := upd_same
    generalize upd H4 T' (.tup [.int (i : Nat), vS g]) = H5
      at s5 hr5 pr5 hT5 ⊢
    refine ⟨T', _, rfl, .inl (.inl hT5), rfl, _, _, rfl, _, _, rfl, rfl, ?_⟩
    refine ⟨_, rfl, _, rfl, _, rfl, _, _, rfl, rfl, _, rfl, it, _, rfl,
      SqL.up hit (s2.trans s5), fun t nt => ?_⟩
    have ec : cutV (ls.map vS) (some ((i : Int) + 1)) none =
        (ls.drop (i + 1)).map vS := by
      have := cut_from (ls.map vS) (n := i + 1) (by
        rw [List.length_map]; omega)
      rw [← List.map_drop] at this
      exact this
    rw [ec]
    refine ⟨t, rfl, ⟨_, SqL.of upd_same⟩, fun D nD => ?_⟩
    have s6 : Same H5 (upd H5 t (.lst ((ls.drop (i + 1)).map vS))) :=
      sameNew nt
    have ht6 : (upd H5 t (.lst ((ls.drop (i + 1)).map vS))) t =
      some (.lst ((ls.drop (i + 1)).map vS)) := upd_same
    generalize upd H5 t (.lst ((ls.drop (i + 1)).map vS)) = H6
      at s6 ht6 nD ⊢
    refine walkW (walk_list (K := K) (a := t)
      (xs := (ls.drop (i + 1)).map vS))
      (fun j H' => ∃ ns, H' D = some (.lst (ns.map V.ref)) ∧
        PrsAt H' ns (invF os g ((ls.drop (i + 1)).take j)) ∧ Same H6 H')
      ⟨[], upd_same, .nil, sameNew nD⟩
      (fun j H' _ z => by
        obtain ⟨_, _, _, s⟩ := z; exact SqL.up ht6 s) ?_ ?_
    · rintro j v H7 H8 hj ⟨ns, hD7, pr7, s7⟩ ⟨rfl, ex⟩
      obtain ⟨c, hc, rfl⟩ := get_map ex
      have mc : c ∈ os := pm.mem_iff.mpr (List.mem_of_mem_drop
        (List.mem_of_getElem? hc))
      have hdd := s7 _ _ (s6 _ _ (s5 _ _ hd2))
      have g1 := DGet.k (k := Sum.inr (SX.S c)) hdd
      have g2 := DGet.k (k := Sum.inr (SX.S g)) hdd
      rw [val_prs, if_pos mc, Nat.zero_add] at g1
      rw [val_prs, if_pos mg', Nat.zero_add] at g2
      refine ⟨rfl, _, rfl, _, rfl, d, _, rfl, g1, _, rfl, _, rfl, d, _, rfl, g2,
        _, _, rfl, rfl, _, rfl, ?_⟩
      have m2 := invF_len os g ((ls.drop (i + 1)).take j)
      rw [List.length_take, List.length_drop] at m2
      have hhi := gl.hi
      have lrs := pr7.len
      refine ite2 (fun z => ?_) (fun z => ?_)
      · have z' : os.idxOf c < os.idxOf g := by
          have : ((os.idxOf c : Nat) : Int) < ((os.idxOf g : Nat) : Int) :=
            of_decide_eq_true z
          omega
        refine ⟨_, rfl, _, rfl, sz (by simp), fun r nr => ⟨ns.map V.ref, ?_, ?_,
          ns ++ [r], ?_, ?_, ?_⟩⟩
        · rw [upd_ne (ne_of_none hD7 nr)]
          exact hD7
        · rw [List.length_map]
          exact sz' (by omega)
        · rw [upd_same, List.map_append]
          rfl
        · rw [take_snoc hc, invF_snoc, if_pos z']
          refine (PrsAt.snoc (p := (g, c)) upd_same
            (pr7.same (sameNew nr))).put (xs := ns.map V.ref) ?_
          rw [upd_ne (ne_of_none hD7 nr)]
          exact hD7
        · exact OM.Same.put (s7.trans (sameNew nr)) nD
      · have z' : ¬ os.idxOf c < os.idxOf g := fun y => z (decide_eq_true
          (show ((os.idxOf c : Nat) : Int) < ((os.idxOf g : Nat) : Int) by
            omega))
        refine ⟨ns, hD7, ?_, s7⟩
        rw [take_snoc hc, invF_snoc, if_neg z', List.append_nil]
        exact pr7
    · rintro H7 ⟨ns, hD7, pr7, s7⟩
      rw [List.take_of_length_le (by rw [List.length_map]; exact Nat.le_refl _)]
        at pr7
      have hr7 := s7 _ _ (s6 _ _ hr5)
      have pr8 := (pr5.same s6).same s7
      have m1 := gl.many os (show i ≤ ls.length by omega)
      have m2 := invF_len os g (ls.drop (i + 1))
      rw [List.length_drop] at m2
      have hhi := gl.hi
      have l1 := pr8.len
      have l2 := pr7.len
      refine ⟨rr, D, _, _, rfl, rfl, hr7, hD7, ?_, fun n0 nn => ?_⟩
      · rw [List.length_map, List.length_map]
        exact sz (by omega)
      refine ⟨n0, rs ++ ns, _, _, rfl, ?_, ?_, ?_, ?_⟩
      · exact ((s5.trans s6).trans s7).free nn
      · rw [upd_same, List.map_append]
      · show PrsAt _ _ (invTo ls os i ++ _)
        rw [hg]
        exact (PrsAt.app pr7 pr8).same (sameNew nn)
      · exact ((s5.trans s6).trans s7).trans (sameNew nn)
  · rintro σ H4 ⟨rr, rs, y, z, rfl, nrr, hrr, pr, s4⟩
    rw [List.length_map] at pr
    exact ⟨_, rfl, q rr rs H4 (s2.free nrr) hrr pr (s2.trans s4)⟩
end
end OM
namespace OM
open PySem PySem.Spec PyProof.Rows L2
theorem swap_perm {α : Type} : ∀ (xs : List α) (k : Nat) (h : k + 1 < xs.length),
    ((xs.set k xs[k + 1]).set (k + 1) xs[k]).Perm xs
  | [], k, h => absurd h (by simp)
  | [x], k, h => absurd h (by simp)
  | x :: y :: r, 0, h => List.Perm.swap x y r
  | x :: y :: r, k + 1, h => by
    have ih := swap_perm (y :: r) k (by simpa using h)
    exact List.Perm.cons x ih
/-- swaps of neighbours -/
def spNear (K : PySem.W.Frag) : Sp := fun vs H Q _ =>
  ∃ (p a : Addr) (m : Nat) (xs : List V), vs = [.ref p, .ref a, .int m] ∧
  Rng H p ∧ SqL K H a xs ∧ a ≠ p ∧ xs.length ≤ 1000 ∧ m ≤ 1000 ∧
  ∀ (q : Addr) (ys : List V) (H' : Hp), H q = none → ys.Perm xs →
    H' q = some (.lst ys) → Rng H' p → But p H H' → Q (.ref q) H'
theorem ixN_nat {n j : Nat} (h : j < n) : ixN n (j : Int) = some j := by
  unfold ixN
  rw [if_pos (by omega), if_pos (by omega), Int.toNat_natCast]
section
variable {P : Program} {w : World} {K : PySem.W.Frag}
  {mg : Str → Option Value} {base : Heap} {C : Addr}
theorem ok_near {f : Addr} {fd : FuncData} {k : Nat}
    (F : Fun K "_law_near_order" "_law_near_order" s_Lnear_order f fd)
    (B : Bl mg) (B2 : Bl2 mg) (Cd : CalDraw P w K mg base k) :
    FnOk P w K mg base CX0 (k + 1) f fd
      ["_law_rng_here", "_law_order", "_law_many"] (spNear K) := by
  refine F.ok sc_Lnear_order (fun vs H Q E h => ?_)
    (fun cv A outer s H vs Q E hr h => ?_)
  · obtain ⟨p, a, m, xs, rfl, _⟩ := h
    rfl
  obtain ⟨p, a, m, xs, rfl, rg, hS, nap, hx, hm, q⟩ := h
  have nd := sc_Lnear_order.nd
  refine ⟨_, pss_cons (ps_set (i := 3) nd rfl (.inl rfl)
      (pe_callTy call_list_of (by rfl) B.list bt_list (pa_cons (pv 1) pa_nil)))
    (pss_cons (ps_for PassesOwn.never rfl
      (pi_range1 (by rfl) B.range (pa_cons (pe_op op_mul
        (pe_cal Cd hr (pa_cons (pv 0) (pa_cons (pe_op op_add (pv 2) pe_int)
          pa_nil)))
        (pe_callTy call_int1 (by rfl) B2.int bt_int (pa_cons
          (pe_cmpR op_gt (pe_callB call_len_seq (by rfl) B.len PySem.boot_len
            (pa_cons (pv 3) pa_nil)) pe_int (nomark _)) pa_nil))) pa_nil))
      (pg_name (i := 4) nd rfl (.inl rfl))
      (pss_cons (ps_set (i := 5) nd rfl (.inl rfl)
        (pe_cal Cd hr (pa_cons (pv 0) (pa_cons (pe_op op_sub
          (pe_callB call_len_seq (by rfl) B.len PySem.boot_len
            (pa_cons (pv 3) pa_nil)) pe_int) pa_nil))))
      (pss_one (ps_asg (pe_tup (pa_cons
          (pe_ix ix_list (pv 3) (pe_op op_add (pv 5) pe_int) (fun _ _ => rfl))
          (pa_cons (pe_ix ix_list (pv 3) (pv 5) (fun _ _ => rfl)) pa_nil)))
        (pg_tup rfl (pgs_cons (pg_sub (pv 3) (pv 5) set_list)
          (pgs_cons (pg_sub (pv 3) (pe_op op_add (pv 5) pe_int) set_list)
            pgs_nil)))))))
    (pss_one (ps_ret (pv 3)))), ?_⟩
  refine ⟨_, rfl, a, _, rfl, .inl hS, fun r nr => ?_⟩
  have nrp : r ≠ p := (rg.ne nr).symm
  have rg1 : Rng (upd H r (.lst xs)) p := rg.same (sameNew nr)
  refine ⟨_, rfl, _, rfl, _, _, rfl, rfl, p, m + 1, rfl, rg1, by omega, by omega,
    fun d H2 d0 d1 rg2 b2 => ?_⟩
  have b2' : But p H H2 := ((But.refl H).put nr nrp).trans b2
  have hr2 := b2 r _ upd_same nrp
  refine ⟨_, rfl, r, _, rfl, .inl (SqL.of hr2), _, _, rfl, rfl,
    .inr ⟨_, rfl, d, _, rfl, rfl, .inl ⟨by omega, by omega⟩, _, rfl, ?_, ?_, ?_⟩⟩
  · show -(2 ^ 62) ≤ d * (if decide ((1 : Int) < xs.length) = true then 1 else 0)
    split <;> omega
  · show d * (if decide ((1 : Int) < xs.length) = true then 1 else 0) < 2 ^ 62
    split <;> omega
  generalize ht : (d * (if decide ((1 : Int) < (xs.length : Int)) = true then 1
    else 0)).toNat = t
  have two : 0 < t → 1 < xs.length := by
    intro h
    rw [← ht] at h
    split at h
    · rename_i z
      have := of_decide_eq_true z
      omega
    · simp at h
  refine for_range (lo := 0) (n := t) (fun i σ H' => ∃ (ys : List V)
      (y z : Option V), σ = [some (.ref p), some (.ref a), some (.int m),
      some (.ref r), y, z] ∧ ys.Perm xs ∧ H' r = some (.lst ys) ∧ Rng H' p ∧
      But p H H')
    ⟨xs, none, none, rfl, List.Perm.refl _, hr2, rg2, b2'⟩ ?_ ?_
  · rintro i σ H3 hi ⟨ys, y, z, rfl, pm, h3, rg3, b3⟩
    have l1 := two (by omega)
    have l2 := pm.length_eq
    refine ⟨_, rfl, _, rfl, r, _, rfl, .inl (SqL.of h3), _, _, rfl, rfl, p,
      ys.length - 1, rfl, rg3, by omega, by omega, fun e H4 e0 e1 rg4 b4 => ?_⟩
    have h4 := b4 r _ h3 nrp
    have he : e = ((e.toNat : Nat) : Int) := by omega
    generalize e.toNat = j at he
    subst he
    have hj : j + 1 < ys.length := by omega
    refine ⟨_, rfl, _, rfl, _, _, rfl, rfl, r, _, _, ys[j + 1], rfl, rfl,
      SqL.of h4, atI_nat (j := j + 1) (List.getElem?_eq_getElem hj), _, rfl, _,
      rfl, r, _, _, ys[j], rfl, rfl, SqL.of h4, atI_nat (j := j)
      (List.getElem?_eq_getElem (by omega)), sz (by simp), fun t2 nt => ?_⟩
    have ntp : t2 ≠ p := (rg4.ne nt).symm
    have ntr : r ≠ t2 := ne_of_none h4 nt
    have h5 : (upd H4 t2 (.tup [ys[j + 1], ys[j]])) r = some (.lst ys) := by
      rw [upd_ne ntr]; exact h4
    refine ⟨t2, _, rfl, .inl (.inl upd_same), rfl, _, _, rfl, _, rfl, _, rfl, r,
      ys, j, j, rfl, rfl, h5, ixN_nat (by omega), _, _, rfl, _, rfl, _, rfl, _,
      _, rfl, rfl, r, _, j + 1, j + 1, rfl, rfl, upd_same, ?_, rfl, ?_⟩
    · exact ixN_nat (by rw [List.length_set]; omega)
    refine ⟨_, _, _, rfl, ?_, upd_same, ?_, ?_⟩
    · exact (swap_perm ys j hj).trans pm
    · exact ((rg4.same (sameNew nt)).but (But.at (p := r) (But.refl _))
        nrp.symm).but (But.at (p := r) (But.refl _)) nrp.symm
    · exact (((b3.trans b4).put nt ntp).new nr).new nr
  · rintro σ H3 ⟨ys, y, z, rfl, pm, h3, rg3, b3⟩
    exact ⟨_, rfl, q r ys H3 nr pm h3 rg3 b3⟩
end
end OM
namespace OM
open PySem PySem.Spec PyProof.Rows L2
theorem idx_of {α : Type} [BEq α] [LawfulBEq α] {l : List α} {i : Nat} {x : α}
    (nd : l.Nodup) (h : l[i]? = some x) : l.idxOf x = i := by
  have hm := List.mem_of_getElem? h
  have hl := List.idxOf_lt_length_of_mem hm
  obtain ⟨hi, e⟩ := List.getElem?_eq_some_iff.mp h
  have e2 := List.getElem_idxOf hl
  exact (List.getElem_inj nd).mp (e2.trans e.symm)
theorem idx_inj {l : List (List Nat)} {x y : List Nat} (hx : x ∈ l)
    (h : l.idxOf x = l.idxOf y) (hy : y ∈ l) : x = y := by
  have a := List.getElem_idxOf (List.idxOf_lt_length_of_mem hx)
  have b := List.getElem_idxOf (List.idxOf_lt_length_of_mem hy)
  rw [← a, ← b]
  congr 1
theorem mem_drop_idx {l : List (List Nat)} (nd : l.Nodup) {j : Nat}
    {s : List Nat} : s ∈ l.drop j ↔ s ∈ l ∧ j ≤ l.idxOf s := by
  constructor
  · intro h
    obtain ⟨i, hi⟩ := List.mem_iff_getElem?.mp h
    rw [List.getElem?_drop] at hi
    rw [idx_of nd hi]
    exact ⟨List.mem_of_getElem? hi, by omega⟩
  · rintro ⟨h, hj⟩
    have hl := List.idxOf_lt_length_of_mem h
    refine List.mem_iff_getElem?.mpr ⟨l.idxOf s - j, ?_⟩
    rw [List.getElem?_drop, show j + (l.idxOf s - j) = l.idxOf s by omega,
      List.getElem?_eq_getElem hl, List.getElem_idxOf hl]
theorem invAll_mem {ls os : List (List Nat)} (nd : ls.Nodup) {p : Pr} :
    p ∈ invAll ls os ↔ p.1 ∈ ls ∧ p.2 ∈ ls ∧ ls.idxOf p.1 < ls.idxOf p.2 ∧
      os.idxOf p.2 < os.idxOf p.1 := by
  unfold invAll
  rw [invTo_mem]
  constructor
  · rintro ⟨j, hj, h1, h2, h3⟩
    have e := idx_of nd h1
    have d := (mem_drop_idx nd).mp h2
    exact ⟨List.mem_of_getElem? h1, d.1, by omega, h3⟩
  · rintro ⟨h1, h2, h3, h4⟩
    have hl := List.idxOf_lt_length_of_mem h1
    refine ⟨ls.idxOf p.1, hl, ?_, (mem_drop_idx nd).mpr ⟨h2, h3⟩, h4⟩
    rw [List.getElem?_eq_getElem hl, List.getElem_idxOf hl]
theorem Good.uniP {ls os : List (List Nat)} (g : Good ls) :
    UniP (invAll ls os) := fun p hp => by
  have h := (invAll_mem g.nd).mp hp
  exact ⟨⟨(g.nm _ h.1).hi, (g.nm _ h.1).uni⟩,
    ⟨(g.nm _ h.2.1).hi, (g.nm _ h.2.1).uni⟩⟩
theorem Good.ne {ls : List (List Nat)} (g : Good ls) : ls ≠ [] := fun e => by
  have := g.lo
  rw [e] at this
  exact absurd this (by decide)
theorem ne_no {x : V} {A B : Prop} (h : B) :
    if (!decide (x = x)) = true then A else B := iteNS rfl h
/-- the pair of two items, by their places -/
def pairOf (ls : List (List Nat)) (l m : List Nat) : Pr :=
  if ls.idxOf l < ls.idxOf m then (l, m) else (m, l)
end OM
namespace OM
open PySem PySem.Spec PyProof.Rows L2
/-! ### what a log holds -/
def lf (b cu ro : Addr) : List (Str × V) :=
  putF "rows" (.ref ro) (putF "current" (.ref cu) (putF "ground" (.ref b) []))
theorem ne_gc : ¬ (("ground" : Str) = "current") := by decide +kernel
theorem ne_gr : ¬ (("ground" : Str) = "rows") := by decide +kernel
theorem ne_cr : ¬ (("current" : Str) = "rows") := by decide +kernel
theorem lf_ground (b cu ro : Addr) :
    (lf b cu ro).lookup ("ground" : Str) = some (.ref b) := by
  unfold lf
  rw [lookup_putF, if_neg ne_gr, lookup_putF, if_neg ne_gc, lookup_putF,
    if_pos rfl]
theorem lf_current (b cu ro : Addr) :
    (lf b cu ro).lookup ("current" : Str) = some (.ref cu) := by
  unfold lf
  rw [lookup_putF, if_neg ne_cr, lookup_putF, if_pos rfl]
theorem lf_rows (b cu ro : Addr) :
    (lf b cu ro).lookup ("rows" : Str) = some (.ref ro) := by
  unfold lf
  rw [lookup_putF, if_pos rfl]
theorem lf_no (b cu ro : Addr) {m : Str} (h1 : ¬ m = "ground")
    (h2 : ¬ m = "current") (h3 : ¬ m = "rows") :
    (lf b cu ro).lookup m = none := by
  unfold lf
  rw [lookup_putF, if_neg h3, lookup_putF, if_neg h2, lookup_putF, if_neg h1]
  rfl
theorem lf_eq (b cu ro : Addr) : lf b cu ro =
    [(("ground" : Str), V.ref b), ("current", V.ref cu), ("rows", V.ref ro)] := by
  unfold lf
  show putF "rows" _ (if ("ground" : Str) = "current" then _ else _) = _
  rw [if_neg ne_gc]
  show (if ("ground" : Str) = "rows" then _ else _) = _
  rw [if_neg ne_gr]
  show _ :: (if ("current" : Str) = "rows" then _ else _) = _
  rw [if_neg ne_cr]
  rfl
theorem lf_setc (b cu ro cu' : Addr) :
    putF "current" (.ref cu') (lf b cu ro) = lf b cu' ro := by
  rw [lf_eq, lf_eq]
  show (if ("ground" : Str) = "current" then _ else _) = _
  rw [if_neg ne_gc]
  show _ :: (if ("current" : Str) = "current" then _ else _) = _
  rw [if_pos rfl]
theorem lf_setr (b cu ro ro' : Addr) :
    putF "rows" (.ref ro') (lf b cu ro) = lf b cu ro' := by
  rw [lf_eq, lf_eq]
  show (if ("ground" : Str) = "rows" then _ else _) = _
  rw [if_neg ne_gr]
  show _ :: (if ("current" : Str) = "rows" then _ else _) = _
  rw [if_neg ne_cr]
  show _ :: _ :: (if ("rows" : Str) = "rows" then _ else _) = _
  rw [if_pos rfl]
theorem lf_len (b cu ro : Addr) : (lf b cu ro).length < 1000 := by
  rw [lf_eq]
  show 3 < 1000
  decide
abbrev ixs (rows : List En) : List Nat := rows.map (·.1)
/-- a reason: a name or nothing -/
def Rsn (l : List Nat) : Prop := l = [] ∨ Nm l
theorem Rsn.len {l : List Nat} (h : Rsn l) : l.length ≤ 8 := by
  rcases h with rfl | h
  · simp
  · exact h.hi
theorem Rsn.uni {l : List Nat} (h : Rsn l) : ∀ c ∈ l, c < 1114112 := by
  rcases h with rfl | h
  · nofun
  · exact h.uni
structure LogAt (C L : Addr) (H : Hp) (g ro b : Addr) (ls : List (List Nat))
    (rows : List En) : Prop where
  ob : ∃ dx cu rs, H g = some (.ins L dx (lf b cu ro)) ∧
    H cu = some (.lst ((run ls (ixs rows)).map vS)) ∧
    H ro = some (.lst (rs.map V.ref)) ∧ EnsAt H rs rows
  ba : BaseAt C H b ls
  good : Good ls
  wd : Wd ls ls (ixs rows)
  rn : ∀ e ∈ rows, Rsn e.2
section
variable {C L g ro b : Addr} {H H' : Hp} {ls : List (List Nat)} {rows : List En}
theorem LogAt.same (x : LogAt C L H g ro b ls rows) (s : Same H H') :
    LogAt C L H' g ro b ls rows := by
  obtain ⟨dx, cu, rs, h1, h2, h3, h4⟩ := x.ob
  exact ⟨⟨dx, cu, rs, s _ _ h1, s _ _ h2, s _ _ h3, h4.same s⟩, x.ba.same s,
    x.good, x.wd, x.rn⟩
theorem LogAt.of (x : LogAt C L H g ro b ls rows) : Of ls (run ls (ixs rows)) :=
  Of.run _ ⟨x.good.nd, List.Perm.refl _⟩
theorem LogAt.perm (x : LogAt C L H g ro b ls rows) :
    (run ls (ixs rows)).Perm ls := x.of.pm
theorem LogAt.oLen (x : LogAt C L H g ro b ls rows) :
    (run ls (ixs rows)).length = ls.length := run_len _ _
theorem LogAt.sme (x : LogAt C L H g ro b ls rows) : SmE rows := fun e he => by
  have h1 := x.wd.ixs e.1 (List.mem_map_of_mem he)
  have h2 := x.good.hi
  have h3 := x.rn e he
  exact ⟨by omega, h3.len, h3.uni⟩
end
theorem invTo_nodup {ls os : List (List Nat)} (nd : ls.Nodup) :
    ∀ i, (invTo ls os i).Nodup
  | 0 => List.nodup_nil
  | i + 1 => by
    have ih := invTo_nodup (os := os) nd i
    show (invTo ls os i ++ _).Nodup
    cases e : ls[i]? with
    | none => simpa using ih
    | some f =>
      refine List.nodup_append.mpr ⟨ih, ?_, ?_⟩
      · show (invF os f (ls.drop (i + 1))).Nodup
        unfold invF
        refine nodup_map (fun a b h => (Prod.mk.inj h).2) ?_
        exact ((List.drop_sublist _ _).nodup nd).filter _
      · rintro x hx y hy rfl
        obtain ⟨j, hj, h1, _, _⟩ := invTo_mem.mp hx
        have h2 := (invF_mem.mp hy).1
        have a := idx_of nd h1
        have c := idx_of nd e
        rw [h2] at a
        omega
theorem rep_inv {ls os : List (List Nat)} (nd : ls.Nodup) :
    Rep ls os (invAll ls os) := ⟨invTo_nodup nd _, fun _ => invAll_mem nd⟩
section
variable {C L g ro b : Addr} {H H' : Hp} {ls : List (List Nat)} {rows : List En}
theorem LogAt.rep (x : LogAt C L H g ro b ls rows) :
    Rep ls (run ls (ixs rows)) (prsOf ls (ixs rows)) := by
  have := (Rep.nil x.good.nd).word ⟨x.good.nd, List.Perm.refl _⟩ x.wd
  rw [List.nil_append] at this
  exact this
theorem LogAt.count (x : LogAt C L H g ro b ls rows) :
    rows.length = (invAll ls (run ls (ixs rows))).length := by
  have := x.rep.len (rep_inv x.good.nd)
  rw [prsOf_len, List.length_map] at this
  exact this
theorem LogAt.many (x : LogAt C L H g ro b ls rows) : rows.length ≤ 1600 := by
  rw [x.count]
  exact x.good.many _ (Nat.le_refl _)
end
/-- all but two places are as they were -/
def But2 (g ro : Addr) (H H' : Hp) : Prop :=
  ∀ q o, H q = some o → q ≠ g → q ≠ ro → H' q = some o
theorem But2.of {g ro : Addr} {H H' : Hp} (s : Same H H') : But2 g ro H H' :=
  fun q o h _ _ => s q o h
theorem But2.trans {g ro : Addr} {H H1 H2 : Hp} (a : But2 g ro H H1)
    (b : But2 g ro H1 H2) : But2 g ro H H2 :=
  fun q o h n m => b q o (a q o h n m) n m
/-- what a log is not -/
structure Out (g ro q : Addr) : Prop where
  g : q ≠ g
  ro : q ≠ ro
section
variable {C L g ro b p q : Addr} {H H' : Hp} {ls ms : List (List Nat)}
  {rows : List En}
theorem LogAt.rng (x : LogAt C L H g ro b ls rows) (r : Rng H p) :
    Out g ro p := by
  obtain ⟨dx, cu, rs, h1, h2, h3, h4⟩ := x.ob
  obtain ⟨i, j, e, _⟩ := r
  refine ⟨ne_of e h1 nofun, ne_of e h3 fun z => ?_⟩
  have z' := HO.lst.inj z
  cases rs with
  | nil => cases z'
  | cons a r => cases (List.cons.inj z').1
theorem LogAt.nms (x : LogAt C L H g ro b ls rows)
    (h : H q = some (.lst (ms.map vS))) (ne : ms ≠ []) : Out g ro q := by
  obtain ⟨dx, cu, rs, h1, h2, h3, h4⟩ := x.ob
  refine ⟨ne_of h h1 nofun, ne_of h h3 fun z => ?_⟩
  have z' := HO.lst.inj z
  cases ms with
  | nil => exact ne rfl
  | cons m r =>
    cases rs with
    | nil => cases z'
    | cons a r => cases (List.cons.inj z').1
theorem bf_ne_lf {lo d b cu ro : Addr} {C L dx dy : Addr} :
    ¬ ((HO.ins C dx (bf lo d)) = (HO.ins L dy (lf b cu ro))) := fun z => by
  have z' : bf lo d = lf b cu ro := by injection z
  have := congrArg (List.lookup ("ground" : Str)) z'
  rw [lf_ground, bf_no _ _ (by decide +kernel) (by decide +kernel)] at this
  cases this
/-- a base stays where a log changes -/
theorem LogAt.bas (x : LogAt C L H g ro b ls rows) {c : Addr} (g' : Good ms)
    (h : BaseAt C H c ms) (s : But2 g ro H H') : BaseAt C H' c ms := by
  obtain ⟨dx, cu, rs, h1, h2, h3, h4⟩ := x.ob
  obtain ⟨dy, lo, d, k1, k2, k3⟩ := h.ob
  have n2 := x.nms k2 g'.ne
  exact ⟨dy, lo, d, s _ _ k1 (ne_of k1 h1 bf_ne_lf) (ne_of k1 h3 nofun),
    s _ _ k2 n2.g n2.ro, s _ _ k3 (ne_of k3 h1 nofun) (ne_of k3 h3 nofun)⟩
theorem Rng.but2 (r : Rng H p) (o : Out g ro p) (s : But2 g ro H H') :
    Rng H' p := by
  obtain ⟨i, j, e, z⟩ := r
  exact ⟨i, j, s _ _ e o.g o.ro, z⟩
theorem LogAt.tup (x : LogAt C L H g ro b ls rows) {xs : List V}
    (h : H q = some (.tup xs)) : Out g ro q := by
  obtain ⟨dx, cu, rs, h1, h2, h3, h4⟩ := x.ob
  exact ⟨ne_of h h1 nofun, ne_of h h3 nofun⟩
/-- a log stays where a rng changes -/
theorem LogAt.but (x : LogAt C L H g ro b ls rows) (r : Rng H p)
    (s : But p H H') : LogAt C L H' g ro b ls rows := by
  have o := x.rng r
  obtain ⟨dx, cu, rs, h1, h2, h3, h4⟩ := x.ob
  refine ⟨⟨dx, cu, rs, s _ _ h1 o.g.symm, s _ _ h2 (neRng r h2),
    s _ _ h3 o.ro.symm, h4.keep fun a xs h => s _ _ h ?_⟩, x.ba.but r s, x.good,
    x.wd, x.rn⟩
  obtain ⟨i, j, e, z⟩ := r
  exact ne_of h e nofun
end
structure LC (K : PySem.W.Frag) (mg : Str → Option Value) (L : Addr) :
    Prop where
  ic : C8.InsC K L
  nG : NoAttr K L "ground"
  nC : NoAttr K L "current"
  nR : NoAttr K L "rows"
  mgL : mg "SwapLog" = some (.ref L)
  kL : PySem.W.keepIn K (.ref L) = true
theorem LC.cl {K : PySem.W.Frag} {mg : Str → Option Value} {L : Addr}
    (x : LC K mg L) : Cls K L := x.ic.cl
/-! ### promises -/
def spLInit (C L : Addr) : Sp := fun vs H Q _ =>
  ∃ (g b dx : Addr) (ls : List (List Nat)), vs = [.ref g, .ref b] ∧
  H g = some (.ins L dx []) ∧ BaseAt C H b ls ∧ Good ls ∧
  ∀ ro H', H ro = none → LogAt C L H' g ro b ls [] → But g H H' → Q .non H'
def spLLen (C L : Addr) : Sp := fun vs H Q _ =>
  ∃ (g ro b : Addr) (ls : List (List Nat)) (rows : List En), vs = [.ref g] ∧
  LogAt C L H g ro b ls rows ∧ Q (.int rows.length) H
def spLOrd (C L : Addr) : Sp := fun vs H Q _ =>
  ∃ (g ro b : Addr) (ls : List (List Nat)) (rows : List En), vs = [.ref g] ∧
  LogAt C L H g ro b ls rows ∧ ∀ q H', H q = none →
    H' q = some (.lst ((run ls (ixs rows)).map vS)) → Same H H' → Q (.ref q) H'
def spLEnt (C L : Addr) : Sp := fun vs H Q _ =>
  ∃ (g ro b : Addr) (ls : List (List Nat)) (rows : List En), vs = [.ref g] ∧
  LogAt C L H g ro b ls rows ∧ ∀ q rs H', H q = none →
    H' q = some (.lst (rs.map V.ref)) → EnsAt H' rs rows → Same H H' →
    Q (.ref q) H'
abbrev vIs (ws : List Nat) : List V := ws.map fun (i : Nat) => V.int (i : Int)
def spLIxs (C L : Addr) : Sp := fun vs H Q _ =>
  ∃ (g ro b : Addr) (ls : List (List Nat)) (rows : List En), vs = [.ref g] ∧
  LogAt C L H g ro b ls rows ∧ ∀ q H', H q = none →
    H' q = some (.lst (vIs (ixs rows))) → Same H H' → Q (.ref q) H'
section
variable {P : Program} {w : World} {K : PySem.W.Frag}
  {mg : Str → Option Value} {base : Heap} {C L : Addr}
theorem ok_linit {f : Addr} {fd : FuncData} {k : Nat}
    (F : Fun K "__init__" "SwapLog.__init__" s_SwapLog_init f fd)
    (T : LC K mg L)
    (Mn : CalM P w K mg base C k "names" ["self"] (spGetNames C)) :
    FnOk P w K mg base CX0 (k + 1) f fd ["self", "base"] (spLInit C L) := by
  refine F.ok sc_SwapLog_init (fun vs H Q E h => ?_)
    (fun cv A outer s H vs Q E hr h => ?_)
  · obtain ⟨g, b, dx, ls, rfl, _⟩ := h
    rfl
  obtain ⟨g, b, dx, ls, rfl, hg, hb, gd, q⟩ := h
  refine ⟨_, pss_cons (ps_fld (pv 0) (pv 1) rfl)
    (pss_cons (ps_fld (pv 0) (pe_calM0 Mn hr (pv 1)) rfl)
    (pss_one (ps_fld (pv 0) (pe_lst pa_nil) rfl))), ?_⟩
  refine ⟨_, rfl, _, rfl, g, L, dx, [], rfl, hg, T.cl, T.nG, by decide, ?_⟩
  have b1 : But g H (upd H g (.ins L dx (putF "ground" (.ref b) []))) :=
    (But.refl H).at
  have g1 : (upd H g (.ins L dx (putF "ground" (.ref b) []))) g =
    some (.ins L dx (putF "ground" (.ref b) [])) := upd_same
  generalize upd H g (.ins L dx (putF "ground" (.ref b) [])) = H1 at b1 g1 ⊢
  have hb1 : BaseAt C H1 b ls := by
    obtain ⟨dy, lo, d, k1, k2, k3⟩ := hb.ob
    refine ⟨dy, lo, d, b1 _ _ k1 (ne_of k1 hg fun z => ?_),
      b1 _ _ k2 (ne_of k2 hg nofun), b1 _ _ k3 (ne_of k3 hg nofun)⟩
    have z' : bf lo d = [] := by injection z
    have := congrArg (List.lookup ("listed" : Str)) z'
    rw [bf_listed] at this
    cases this
  obtain ⟨dy, lo, d, k1, k2, k3⟩ := hb1.ob
  refine ⟨_, rfl, b, dy, _, rfl, k1, bf_no _ _ (by decide +kernel)
    (by decide +kernel), b, ls, rfl, hb1, fun cu H2 ncu hcu s2 => ?_⟩
  refine ⟨_, rfl, g, L, dx, _, rfl, s2 _ _ g1, T.cl, T.nC,
    by show 1 < 1000; decide, ?_⟩
  have ngc : g ≠ cu := ne_of_none g1 ncu
  have b3 : But g H (upd H2 g (.ins L dx (putF "current" (.ref cu)
    (putF "ground" (.ref b) [])))) := (b1.trans (But.of s2)).at
  have c3 : (upd H2 g (.ins L dx (putF "current" (.ref cu)
    (putF "ground" (.ref b) [])))) cu = some (.lst (ls.map vS)) := by
    rw [upd_ne ngc.symm]; exact hcu
  have g3 : (upd H2 g (.ins L dx (putF "current" (.ref cu)
    (putF "ground" (.ref b) [])))) g = some (.ins L dx (putF "current"
    (.ref cu) (putF "ground" (.ref b) []))) := upd_same
  have hb3 : BaseAt C (upd H2 g (.ins L dx (putF "current" (.ref cu)
      (putF "ground" (.ref b) [])))) b ls := by
    refine ⟨dy, lo, d, ?_, ?_, ?_⟩
    · rw [upd_ne (ne_of k1 g1 fun z => ?_)]
      · exact s2 _ _ k1
      · have z' : bf lo d = putF "ground" (.ref b) [] := by injection z
        have := congrArg (List.lookup ("listed" : Str)) z'
        rw [bf_listed, lookup_putF, if_neg (by decide +kernel)] at this
        cases this
    · rw [upd_ne (ne_of k2 g1 nofun)]
      exact s2 _ _ k2
    · rw [upd_ne (ne_of k3 g1 nofun)]
      exact s2 _ _ k3
  generalize (upd H2 g (.ins L dx (putF "current" (.ref cu)
      (putF "ground" (.ref b) [])))) = H3 at b3 c3 g3 hb3 ⊢
  refine ⟨sz (by simp), fun ro nro => ?_⟩
  have ngo : g ≠ ro := ne_of_none g3 nro
  have nco : cu ≠ ro := ne_of_none c3 nro
  refine ⟨_, rfl, g, L, dx, _, rfl, by rw [upd_ne ngo]; exact g3, T.cl, T.nR,
    ?_, ?_⟩
  · show (putF "current" (.ref cu) [(("ground" : Str), V.ref b)]).length < 1000
    show (if ("ground" : Str) = "current" then _ else _ : List _).length < 1000
    rw [if_neg ne_gc]
    show 2 < 1000
    decide
  have fro : H ro = none := by
    cases e : H ro with
    | none => rfl
    | some o => rw [b3 _ _ e ngo.symm] at nro; cases nro
  refine q ro _ fro ⟨⟨dx, cu, [], upd_same, ?_, ?_, .nil⟩, ?_, gd, trivial,
    nofun⟩ ?_
  · rw [upd_ne ngc.symm, upd_ne nco]
    exact c3
  · rw [upd_ne ngo.symm, upd_same]
    rfl
  · have hb4 := hb3.same (sameNew (o := .lst []) nro)
    obtain ⟨dz, l2, d2, z1, z2, z3⟩ := hb4.ob
    have gz : (upd H3 ro (.lst [])) g = _ := (upd_ne ngo).trans g3
    refine ⟨dz, l2, d2, ?_, ?_, ?_⟩
    · rw [upd_ne (ne_of z1 gz fun z => ?_)]
      · exact z1
      · have z' : bf l2 d2 = putF "current" (.ref cu)
          (putF "ground" (.ref b) []) := by injection z
        have := congrArg (List.lookup ("listed" : Str)) z'
        rw [bf_listed, lookup_putF, if_neg (by decide +kernel), lookup_putF,
          if_neg (by decide +kernel)] at this
        cases this
    · rw [upd_ne (ne_of z2 gz nofun)]
      exact z2
    · rw [upd_ne (ne_of z3 gz nofun)]
      exact z3
  · exact (b3.put nro ngo.symm).at
theorem ok_llen {f : Addr} {fd : FuncData} {k : Nat}
    (F : Fun K "__len__" "SwapLog.__len__" s_SwapLog_len f fd) (B : Bl mg)
    (T : LC K mg L) :
    FnOk P w K mg base CX0 (k + 1) f fd ["self"] (spLLen C L) := by
  refine F.ok sc_SwapLog_len (fun vs H Q E h => ?_)
    (fun cv A outer s H vs Q E hr h => ?_)
  · obtain ⟨g, ro, b, ls, rows, rfl, _⟩ := h
    rfl
  obtain ⟨g, ro, b, ls, rows, rfl, x, q⟩ := h
  obtain ⟨dx, cu, rs, h1, h2, h3, h4⟩ := x.ob
  refine ⟨_, pss_one (ps_ret (pe_callB call_len_seq (by rfl) B.len
    PySem.boot_len (pa_cons (pe_fld (pv 0) rfl) pa_nil))), ?_⟩
  refine ⟨_, rfl, g, L, dx, _, _, rfl, h1, T.cl, T.nR, lf_rows _ _ _, ro, _,
    rfl, .inl (SqL.of h3), ?_⟩
  rw [List.length_map, h4.len]
  exact q
theorem ok_lord {f : Addr} {fd : FuncData} {k : Nat}
    (F : Fun K "order" "SwapLog.order" s_SwapLog_order f fd) (B : Bl mg)
    (T : LC K mg L) :
    FnOk P w K mg base CX0 (k + 1) f fd ["self"] (spLOrd C L) := by
  refine F.ok sc_SwapLog_order (fun vs H Q E h => ?_)
    (fun cv A outer s H vs Q E hr h => ?_)
  · obtain ⟨g, ro, b, ls, rows, rfl, _⟩ := h
    rfl
  obtain ⟨g, ro, b, ls, rows, rfl, x, q⟩ := h
  obtain ⟨dx, cu, rs, h1, h2, h3, h4⟩ := x.ob
  refine ⟨_, pss_one (ps_ret (pe_callTy call_list_of (by rfl) B.list bt_list
    (pa_cons (pe_fld (pv 0) rfl) pa_nil))), ?_⟩
  exact ⟨_, rfl, g, L, dx, _, _, rfl, h1, T.cl, T.nC, lf_current _ _ _, cu, _,
    rfl, .inl (SqL.of h2), fun l nl => q l _ nl upd_same (sameNew nl)⟩
theorem ok_lent {f : Addr} {fd : FuncData} {k : Nat}
    (F : Fun K "entries" "SwapLog.entries" s_SwapLog_entries f fd) (B : Bl mg)
    (T : LC K mg L) :
    FnOk P w K mg base CX0 (k + 1) f fd ["self"] (spLEnt C L) := by
  refine F.ok sc_SwapLog_entries (fun vs H Q E h => ?_)
    (fun cv A outer s H vs Q E hr h => ?_)
  · obtain ⟨g, ro, b, ls, rows, rfl, _⟩ := h
    rfl
  obtain ⟨g, ro, b, ls, rows, rfl, x, q⟩ := h
  obtain ⟨dx, cu, rs, h1, h2, h3, h4⟩ := x.ob
  refine ⟨_, pss_one (ps_ret (pe_callTy call_list_of (by rfl) B.list bt_list
    (pa_cons (pe_fld (pv 0) rfl) pa_nil))), ?_⟩
  exact ⟨_, rfl, g, L, dx, _, _, rfl, h1, T.cl, T.nR, lf_rows _ _ _, ro, _,
    rfl, .inl (SqL.of h3), fun l nl => q l rs _ nl upd_same
      (h4.same (sameNew nl)) (sameNew nl)⟩
theorem ok_lixs {f : Addr} {fd : FuncData} {k : Nat}
    (F : Fun K "indexes" "SwapLog.indexes" s_SwapLog_indexes f fd)
    (T : LC K mg L) :
    FnOk P w K mg base CX0 (k + 1) f fd ["self"] (spLIxs C L) := by
  refine F.ok sc_SwapLog_indexes (fun vs H Q E h => ?_)
    (fun cv A outer s H vs Q E hr h => ?_)
  · obtain ⟨g, ro, b, ls, rows, rfl, _⟩ := h
    rfl
  obtain ⟨g, ro, b, ls, rows, rfl, x, q⟩ := h
  obtain ⟨dx, cu, rs, h1, h2, h3, h4⟩ := x.ob
  have nd := sc_SwapLog_indexes.nd
  have hm := x.many
  refine ⟨_, pss_one (ps_ret (pe_lc (own := [("index", 1), ("reason", 2)])
    (g := gTup K 2 (gCons (gName 1) (gCons (gName 2) gNil))) (tt := tYes)
    rfl nd (pi_list (pe_fld (pv 0) rfl))
    (blkOk_by (N := N_SwapLog_indexes) (sc := defScope s_SwapLog_indexes)
      (by decide +kernel))
    (fun _ _ _ _ _ => pg_tup rfl (pgs_cons (pg_name (i := 1) nd rfl
      (Or.inl rfl)) (pgs_cons (pg_name (i := 2) nd rfl (Or.inl rfl)) pgs_nil)))
    (fun _ _ _ _ _ => pts_nil) (fun _ _ _ _ _ => pv 1))), ?_⟩
  refine ⟨_, rfl, g, L, dx, _, _, rfl, h1, T.cl, T.nR, lf_rows _ _ _, ro, rfl,
    ⟨_, SqL.of h3⟩, fun D nD => ?_⟩
  refine lc_list (K := K) (a := ro) (xs := rs.map V.ref) (fun j H' =>
    H' D = some (.lst (vIs (ixs (rows.take j)))) ∧ Same H H')
    ⟨upd_same, sameNew nD⟩ (fun j H' _ z => SqL.of (z.2 _ _ h3)) ?_ ?_
  · rintro j y H1 hy ⟨hD, s1⟩
    rw [List.getElem?_map] at hy
    cases e : rs[j]? with
    | none => rw [e] at hy; cases hy
    | some r =>
      rw [e] at hy
      cases Option.some.inj hy
      have hj : j < rows.length := by
        rw [← h4.len]; exact (List.getElem?_eq_some_iff.mp e).1
      obtain ⟨r', e', ht⟩ := h4.get (List.getElem?_eq_getElem hj)
      rw [e] at e'
      cases Option.some.inj e'
      refine ⟨r, _, rfl, .inl (.inl (s1 _ _ ht)), rfl, _, _, rfl, _, _, rfl,
        rfl, rfl, yes ⟨_, rfl, _, hD, ?_, ?_, ?_⟩⟩
      · rw [List.length_map, List.length_map, List.length_take]
        exact sz' (by omega)
      · rw [upd_same, List.take_add_one, List.getElem?_eq_getElem hj]
        show _ = some (HO.lst (vIs (ixs (rows.take j ++ [rows[j]]))))
        unfold vIs ixs
        rw [List.map_append, List.map_append]
        rfl
      · exact OM.Same.put s1 nD
  · rintro H1 ⟨hD, s1⟩
    rw [List.length_map, h4.len, List.take_length] at hD
    exact q D H1 nD hD s1
end
end OM
namespace OM
open PySem PySem.Spec PyProof.Rows L2
theorem hu65' {A : Around} {k : Nat} (hr : Room k A) : A.units + 65 < cLine := by
  have := hr.un
  omega
theorem prsOf_snoc : ∀ (us : List Nat) (i : Nat) (os : List (List Nat)),
    prsOf os (us ++ [i]) = prsOf os us ++ [nbr (run os us) i]
  | [], i, os => rfl
  | u :: us, i, os => congrArg (nbr os u :: ·) (prsOf_snoc us i (exch os u))
theorem run_snoc (us : List Nat) (i : Nat) (os : List (List Nat)) :
    run os (us ++ [i]) = exch (run os us) i := by
  rw [run_app]
  rfl
theorem ne_nr {H : Hp} {o q : Addr} {ms : List (List Nat)} {rs : List Addr}
    (h : H o = some (.lst (ms.map vS))) (ne : ms ≠ [])
    (k : H q = some (.lst (rs.map V.ref))) : o ≠ q := ne_of h k fun z => by
  have z' := HO.lst.inj z
  cases ms with
  | nil => exact ne rfl
  | cons m r =>
    cases rs with
    | nil => cases z'
    | cons a r => cases (List.cons.inj z').1
theorem run_ne {os : List (List Nat)} (ws : List Nat) (ne : os ≠ []) :
    run os ws ≠ [] := fun e => by
  have := run_len ws os
  rw [e] at this
  exact ne (List.length_eq_zero_iff.mp this.symm)
theorem UniP_prs {ls : List (List Nat)} (g : Good ls) {ws : List Nat}
    (w : Wd ls ls ws) : UniP (prsOf ls ws) := fun p hp => by
  have r := (Rep.nil g.nd).word ⟨g.nd, List.Perm.refl _⟩ w
  rw [List.nil_append] at r
  have h := (r.mem p).mp hp
  exact ⟨⟨(g.nm _ h.1).hi, (g.nm _ h.1).uni⟩,
    ⟨(g.nm _ h.2.1).hi, (g.nm _ h.2.1).uni⟩⟩
theorem uni_pair {ls : List (List Nat)} (g : Good ls) {l m : List Nat}
    (hl : l ∈ ls) (hm : m ∈ ls) :
    (∀ x ∈ (pairOf ls l m).1, x < 1114112) ∧
      ∀ x ∈ (pairOf ls l m).2, x < 1114112 := by
  unfold pairOf
  split
  · exact ⟨(g.nm l hl).uni, (g.nm m hm).uni⟩
  · exact ⟨(g.nm m hm).uni, (g.nm l hl).uni⟩
def spPairOf (C : Addr) : Sp := fun vs H Q _ =>
  ∃ (b : Addr) (ls : List (List Nat)) (l m : List Nat),
  vs = [.ref b, vS l, vS m] ∧ BaseAt C H b ls ∧ (∀ l ∈ ls, Nm l) ∧ l ∈ ls ∧
  m ∈ ls ∧ ∀ t H', H t = none → H' t = some (.tup (vT (pairOf ls l m))) →
    Same H H' → Q (.ref t) H'
def spPrsOf (C : Addr) : Sp := fun vs H Q _ =>
  ∃ (b a : Addr) (ls : List (List Nat)) (ws : List Nat),
  vs = [.ref b, .ref a] ∧ BaseAt C H b ls ∧ Good ls ∧
  H a = some (.lst (vIs ws)) ∧ Ixs ls.length ws ∧ ws.length ≤ 1600 ∧
  ∀ q rs H', H q = none → H' q = some (.lst (rs.map V.ref)) →
    PrsAt H' rs (prsOf ls ws) → Same H H' → Q (.ref q) H'
/-- the entry of two items -/
def entV (ls : List (List Nat)) (rows : List En) (l m : List Nat) : V :=
  if pairOf ls l m ∈ prsOf ls (ixs rows) then
    .int (((prsOf ls (ixs rows)).idxOf (pairOf ls l m) : Nat) : Int) else .non
def spLFor (C L : Addr) : Sp := fun vs H Q _ =>
  ∃ (g ro b : Addr) (ls : List (List Nat)) (rows : List En) (l m : List Nat),
  vs = [.ref g, vS l, vS m] ∧ LogAt C L H g ro b ls rows ∧ l ∈ ls ∧ m ∈ ls ∧
  ∀ H', Same H H' → Q (entV ls rows l m) H'
def spLChk (C L : Addr) : Sp := fun vs H Q _ =>
  ∃ (g ro b : Addr) (ls : List (List Nat)) (rows : List En) (j : Nat),
  vs = [.ref g, .int j] ∧ LogAt C L H g ro b ls rows ∧ j < rows.length ∧
  Q .non H
def spLPair (C L : Addr) : Sp := fun vs H Q _ =>
  ∃ (g ro b : Addr) (ls : List (List Nat)) (rows : List En) (j : Nat),
  vs = [.ref g, .int j] ∧ LogAt C L H g ro b ls rows ∧ j < rows.length ∧
  ∀ t H', H' t = some (.tup (vT ((prsOf ls (ixs rows)).getD j ([], [])))) →
    Same H H' → Q (.ref t) H'
section
variable {P : Program} {w : World} {K : PySem.W.Frag}
  {mg : Str → Option Value} {base : Heap} {C L : Addr}
theorem ok_pairof {f : Addr} {fd : FuncData} {k : Nat}
    (F : Fun K "pair_of" "pair_of" s_pair_of f fd)
    (Mp : CalM P w K mg base C k "precedes" ["self", "first", "second"]
      (spPrec C)) :
    FnOk P w K mg base CX0 (k + 1) f fd ["base", "first", "second"]
      (spPairOf C) := by
  refine F.ok sc_pair_of (fun vs H Q E h => ?_)
    (fun cv A outer s H vs Q E hr h => ?_)
  · obtain ⟨b, ls, l, m, rfl, _⟩ := h
    rfl
  obtain ⟨b, ls, l, m, rfl, hb, nm, hl, hm, q⟩ := h
  refine ⟨_, pss_cons (ps_if (pt_val (pe_calM Mp hr (pv 0) (pa_cons (pv 1)
      (pa_cons (pv 2) pa_nil))))
      (pss_one (ps_ret (pe_tup (pa_cons (pv 1) (pa_cons (pv 2) pa_nil)))))
      pss_nil)
    (pss_one (ps_ret (pe_tup (pa_cons (pv 2) (pa_cons (pv 1) pa_nil))))), ?_⟩
  obtain ⟨dx, lo, d, h1, h2, h3⟩ := hb.ob
  refine ⟨_, rfl, b, dx, _, rfl, h1, bf_no _ _ (by decide +kernel)
    (by decide +kernel), _, rfl, _, rfl, b, ls, l, m, rfl, hb, nm, hl, hm,
    fun H1 s1 => ⟨_, rfl, ite2 (fun c => ?_) (fun c => ?_)⟩⟩
  · refine ⟨_, rfl, _, rfl, sz (by simp), fun t nt => q t _ (s1.free nt) ?_
      (s1.trans (sameNew nt))⟩
    rw [upd_same]
    unfold pairOf
    rw [if_pos (of_decide_eq_true c)]
  · refine ⟨_, rfl, _, rfl, sz (by simp), fun t nt => q t _ (s1.free nt) ?_
      (s1.trans (sameNew nt))⟩
    rw [upd_same]
    unfold pairOf
    rw [if_neg fun z => c (decide_eq_true z)]
theorem ok_prsof {f : Addr} {fd : FuncData} {k : Nat}
    (F : Fun K "pairs_of_swaps" "pairs_of_swaps" s_pairs_of_swaps f fd)
    (Mn : CalM P w K mg base C k "names" ["self"] (spGetNames C))
    (Ce : Cal P w K mg base k "exchanged" ["order", "index"] (spExch K)) :
    FnOk P w K mg base CX0 (k + 1) f fd ["base", "indexes"] (spPrsOf C) := by
  refine F.ok sc_pairs_of_swaps (fun vs H Q E h => ?_)
    (fun cv A outer s H vs Q E hr h => ?_)
  · obtain ⟨b, a, ls, ws, rfl, _⟩ := h
    rfl
  obtain ⟨b, a, ls, ws, rfl, hb, gd, ha, ix, hw, q⟩ := h
  have nd := sc_pairs_of_swaps.nd
  refine ⟨_, pss_cons (ps_set (i := 2) nd rfl (.inl rfl)
      (pe_calM0 Mn hr (pv 0)))
    (pss_cons (ps_set (i := 3) nd rfl (.inl rfl) (pe_lst pa_nil))
    (pss_cons (ps_for PassesOwn.never rfl (pi_list (pv 1))
      (pg_name (i := 4) nd rfl (.inl rfl))
      (pss_cons (ps_expr (pe_bm PySem.F.plainAttrs_list
          PySem.F.slot_list_append PySem.F.type_list_append mt_append (pv 3)
          (pa_cons (pe_tup (pa_cons
            (pe_ix ix_list (pv 2) (pv 4) (fun _ _ => rfl)) (pa_cons
            (pe_ix ix_list (pv 2) (pe_op op_add (pv 4) pe_int)
              (fun _ _ => rfl)) pa_nil))) pa_nil)))
      (pss_one (ps_set (i := 2) nd rfl (.inl rfl)
        (pe_cal Ce hr (pa_cons (pv 2) (pa_cons (pv 4) pa_nil)))))))
    (pss_one (ps_ret (pv 3))))), ?_⟩
  obtain ⟨dx, lo, d, h1, h2, h3⟩ := hb.ob
  refine ⟨_, rfl, b, dx, _, rfl, h1, bf_no _ _ (by decide +kernel)
    (by decide +kernel), b, ls, rfl, hb, fun o0 H1 no0 ho0 s1 => ?_⟩
  refine ⟨sz (by simp), fun r nr => ?_⟩
  have fr : H r = none := s1.free nr
  refine ⟨_, rfl, a, rfl, ⟨_, SqL.of (sameNew nr _ _ (s1 _ _ ha))⟩, ?_⟩
  refine for_list (K := K) (a := a) (xs := vIs ws) (fun i σ H' =>
      ∃ (o : Addr) (rs : List Addr) (y : Option V),
      σ = [some (.ref b), some (.ref a), some (.ref o), some (.ref r), y] ∧
      H' o = some (.lst ((run ls (ws.take i)).map vS)) ∧
      H' r = some (.lst (rs.map V.ref)) ∧
      PrsAt H' rs (prsOf ls (ws.take i)) ∧ Same H H')
    ⟨o0, [], none, rfl, sameNew nr _ _ ho0, upd_same, .nil,
      s1.trans (sameNew nr)⟩
    (fun i σ H' _ z => by
      obtain ⟨_, _, _, _, _, _, _, s⟩ := z
      exact SqL.of (s _ _ ha)) ?_ ?_
  · rintro i v σ H2 hv ⟨o, rs, y, rfl, ho, hr2, pr, s2⟩
    obtain ⟨m, hm, rfl⟩ : ∃ m : Nat, ws[i]? = some m ∧ v = .int (m : Int) := by
      rw [List.getElem?_map] at hv
      cases e : ws[i]? with
      | none => rw [e] at hv; cases hv
      | some m => rw [e] at hv; exact ⟨m, rfl, (Option.some.inj hv).symm⟩
    have hi : i < ws.length := (List.getElem?_eq_some_iff.mp hm).1
    have mx := ix m (List.mem_of_getElem? hm)
    have ol : (run ls (ws.take i)).length = ls.length := run_len _ _
    have lr := pr.len
    rw [prsOf_len, List.length_take] at lr
    have nor : o ≠ r := ne_nr ho (run_ne _ gd.ne) hr2
    have hS := SqL.of (K := K) ho
    refine ⟨_, rfl, .inl ⟨rfl, _, SqL.of hr2⟩, _, rfl, _, rfl, o, _, _, _, rfl,
      rfl, hS, atI_nat (j := m) (getD_map vS [] (by omega)), _, rfl, _, rfl, _,
      _, rfl, rfl, o, _, _, _, rfl, rfl, hS, atI_nat (j := m + 1)
      (getD_map vS [] (by omega)), sz (by simp), fun t nt => ?_⟩
    have s3 : Same H2 (upd H2 t (.tup [vS ((run ls (ws.take i)).getD m []),
        vS ((run ls (ws.take i)).getD (m + 1) [])])) :=
      sameNew nt
    have ht : (upd H2 t (.tup [vS ((run ls (ws.take i)).getD m []),
        vS ((run ls (ws.take i)).getD (m + 1) [])])) t =
      some (.tup [vS ((run ls (ws.take i)).getD m []),
        vS ((run ls (ws.take i)).getD (m + 1) [])]) := upd_same
    refine ⟨r, _, _, rfl, rfl, s3 _ _ hr2, ?_, ?_⟩
    · rw [List.length_map]
      exact sz' (by omega)
    have ntr : t ≠ r := (ne_of_none hr2 nt).symm
    have h4r : (upd (upd H2 t (.tup [vS ((run ls (ws.take i)).getD m []),
        vS ((run ls (ws.take i)).getD (m + 1) [])])) r
      (.lst (rs.map V.ref ++ [.ref t]))) r =
      some (.lst (rs.map V.ref ++ [.ref t])) := upd_same
    have h4o : (upd (upd H2 t (.tup [vS ((run ls (ws.take i)).getD m []),
        vS ((run ls (ws.take i)).getD (m + 1) [])])) r
      (.lst (rs.map V.ref ++ [.ref t]))) o =
      some (.lst ((run ls (ws.take i)).map vS)) := by
      rw [upd_ne nor]; exact s3 _ _ ho
    have p4 : PrsAt (upd (upd H2 t (.tup [vS ((run ls (ws.take i)).getD m []),
        vS ((run ls (ws.take i)).getD (m + 1) [])])) r
      (.lst (rs.map V.ref ++ [.ref t]))) (rs ++ [t])
      (prsOf ls (ws.take i) ++ [nbr (run ls (ws.take i)) m]) :=
      ((pr.same s3).snoc ht).put (s3 _ _ hr2)
    have s4 : Same H (upd (upd H2 t (.tup [vS ((run ls (ws.take i)).getD m []),
        vS ((run ls (ws.take i)).getD (m + 1) [])])) r
      (.lst (rs.map V.ref ++ [.ref t]))) :=
      OM.Same.put (s2.trans s3) fr
    generalize (upd (upd H2 t (.tup [vS ((run ls (ws.take i)).getD m []),
        vS ((run ls (ws.take i)).getD (m + 1) [])])) r
      (.lst (rs.map V.ref ++ [.ref t]))) = H4 at h4r h4o p4 s4 ⊢
    refine ⟨_, rfl, _, rfl, o, _, m, rfl, SqL.of h4o, ?_, ?_,
      fun o' H5 no' ho' s5 => ?_⟩
    · rw [List.length_map]; omega
    · rw [List.length_map, ol]
      have := gd.hi
      omega
    rw [exch_map] at ho'
    have tk : ws.take (i + 1) = ws.take i ++ [m] := by
      rw [List.take_add_one, hm]
      rfl
    refine ⟨o', rs ++ [t], _, rfl, ?_, ?_, ?_, s4.trans s5⟩
    · rw [tk, run_snoc]
      exact ho'
    · rw [List.map_append]
      exact s5 _ _ h4r
    · rw [tk, prsOf_snoc]
      exact p4.same s5
  · rintro σ H2 ⟨o, rs, y, rfl, ho, hr2, pr, s2⟩
    rw [List.length_map, List.take_length] at pr
    exact ⟨_, rfl, q r rs H2 fr hr2 pr s2⟩
theorem ok_lfor {f : Addr} {fd : FuncData} {k : Nat}
    (F : Fun K "entry_for" "SwapLog.entry_for" s_SwapLog_entry_for f fd)
    (T : LC K mg L)
    (Cp : Cal P w K mg base k "pair_of" ["base", "first", "second"]
      (spPairOf C))
    (Cs : Cal P w K mg base k "pairs_of_swaps" ["base", "indexes"]
      (spPrsOf C))
    (Mi : CalM P w K mg base L k "indexes" ["self"] (spLIxs C L)) :
    FnOk P w K mg base CX0 (k + 1) f fd ["self", "first", "second"]
      (spLFor C L) := by
  refine F.ok sc_SwapLog_entry_for (fun vs H Q E h => ?_)
    (fun cv A outer s H vs Q E hr h => ?_)
  · obtain ⟨g, ro, b, ls, rows, l, m, rfl, _⟩ := h
    rfl
  obtain ⟨g, ro, b, ls, rows, l, m, rfl, x, hl, hm, q⟩ := h
  have nd := sc_SwapLog_entry_for.nd
  refine ⟨_, pss_cons (ps_set (i := 3) nd rfl (.inl rfl)
      (pe_cal Cp hr (pa_cons (pe_fld (pv 0) rfl) (pa_cons (pv 1)
        (pa_cons (pv 2) pa_nil)))))
    (pss_cons (ps_set (i := 4) nd rfl (.inl rfl)
      (pe_cal Cs hr (pa_cons (pe_fld (pv 0) rfl) (pa_cons
        (pe_calM0 Mi hr (pv 0)) pa_nil))))
    (pss_one (ps_ret (pe_ifExp
      (pt_cmpR (op_inD (hu65' hr)) (pv 3) (pv 4) (by rfl))
      (pe_bm PySem.F.plainAttrs_list PySem.F.slot_list_index
        PySem.F.type_list_index (mt_indexD (hu65' hr)) (pv 4)
        (pa_cons (pv 3) pa_nil)) pe_non)))), ?_⟩
  obtain ⟨dx, cu, rs, h1, h2, h3, h4⟩ := x.ob
  refine ⟨_, rfl, g, L, dx, _, _, rfl, h1, T.cl, T.nG, lf_ground _ _ _, _, rfl,
    _, rfl, b, ls, l, m, rfl, x.ba, x.good.nm, hl, hm, fun t H1 nt ht s1 => ?_⟩
  have x1 := x.same s1
  refine ⟨_, rfl, g, L, dx, _, _, rfl, s1 _ _ h1, T.cl, T.nG, lf_ground _ _ _,
    _, rfl, g, dx, _, rfl, s1 _ _ h1, lf_no _ _ _ (by decide +kernel)
    (by decide +kernel) (by decide +kernel), g, ro, b, ls, rows, rfl, x1,
    fun ia H2 nia hia s2 => ?_⟩
  have x2 := x1.same s2
  have hlen : (ixs rows).length ≤ 1600 := by
    rw [List.length_map]; exact x.many
  refine ⟨b, ia, ls, ixs rows, rfl, x2.ba, x.good, hia, x.wd.ixs, hlen,
    fun pa prs' H3 npa hpa hpr s3 => ?_⟩
  have ht3 := s3 _ _ (s2 _ _ ht)
  have up := UniP_prs x.good x.wd
  have ut := uni_pair x.good hl hm
  have dpt := dp_T (K := K) ht3
  have dpp := dp_P (K := K) (SqL.of hpa) hpr
  have sht := shaped_T ut.1 ut.2
  have shp := shaped_P up
  refine ⟨_, rfl, _, rfl, _, _, dpt, dpp, sht, shp, _, rfl, ?_⟩
  rw [any_P]
  have qq := q H3 ((s1.trans s2).trans s3)
  unfold entV at qq
  by_cases c : pairOf ls l m ∈ prsOf ls (ixs rows)
  · rw [decide_eq_true c]
    rw [if_pos c] at qq
    refine iteT ?_
    have il := List.idxOf_lt_length_of_mem c
    refine ⟨_, rfl, .inl ⟨rfl, _, SqL.of hpa⟩, _, rfl, pa, _, _, _,
      (prsOf ls (ixs rows)).idxOf (pairOf ls l m), dT (pairOf ls l m), rfl, rfl,
      dpp, dpt, shp, sht, ?_, ?_, ?_, qq⟩
    · rw [List.getElem?_map, List.getElem?_eq_getElem il,
        List.getElem_idxOf il]
      rfl
    · rw [eqv_T]
      exact decide_eq_true rfl
    · intro n z hn hz
      rw [List.getElem?_map] at hz
      cases e : (prsOf ls (ixs rows))[n]? with
      | none => rw [e] at hz; cases hz
      | some p =>
        rw [e] at hz
        cases Option.some.inj hz
        rw [eqv_T]
        refine decide_eq_false fun z => ?_
        obtain ⟨hl', e2⟩ := List.getElem?_eq_some_iff.mp e
        have := List.not_of_lt_findIdx hn
        simp [e2, z] at this
  · rw [decide_eq_false c]
    rw [if_neg c] at qq
    exact iteF qq
theorem ok_lchk {f : Addr} {fd : FuncData} {k : Nat}
    (F : Fun K "check_position" "SwapLog.check_position"
      s_SwapLog_check_position f fd)
    (B : Bl mg) (T : LC K mg L)
    (Ci : Cal P w K mg base k "is_integer_from" ["value", "low", "high"]
      spIntFrom) :
    FnOk P w K mg base CX0 (k + 1) f fd ["self", "position"]
      (spLChk C L) := by
  refine F.ok sc_SwapLog_check_position (fun vs H Q E h => ?_)
    (fun cv A outer s H vs Q E hr h => ?_)
  · obtain ⟨g, ro, b, ls, rows, j, rfl, _⟩ := h
    rfl
  obtain ⟨g, ro, b, ls, rows, j, rfl, x, hj, q⟩ := h
  refine ⟨_, pss_one (ps_if (pt_not (pt_val (pe_cal Ci hr (pa_cons (pv 1)
    (pa_cons pe_int (pa_cons (pe_op op_sub (pe_callB call_len_seq (by rfl) B.len
      PySem.boot_len (pa_cons (pe_fld (pv 0) rfl) pa_nil)) pe_int)
      pa_nil)))))) (pss_one ps_never) pss_nil), ?_⟩
  obtain ⟨dx, cu, rs, h1, h2, h3, h4⟩ := x.ob
  refine ⟨_, rfl, _, rfl, g, L, dx, _, _, rfl, h1, T.cl, T.nR, lf_rows _ _ _,
    ro, _, rfl, .inl (SqL.of h3), _, _, rfl, rfl, _, 0, _, rfl, _, rfl, ?_⟩
  rw [List.length_map, h4.len, decide_eq_true (show (0 : Int) ≤ (j : Int) by
    omega), decide_eq_true (show (j : Int) ≤ (rows.length : Int) - 1 by omega)]
  exact iteF q
end
end OM
namespace OM
open PySem PySem.Spec PyProof.Rows L2
section
variable {P : Program} {w : World} {K : PySem.W.Frag}
  {mg : Str → Option Value} {base : Heap} {C L : Addr}
theorem ok_lpair {f : Addr} {fd : FuncData} {k : Nat}
    (F : Fun K "pair_at" "SwapLog.pair_at" s_SwapLog_pair_at f fd)
    (T : LC K mg L)
    (Mk' : CalM P w K mg base L k "check_position" ["self", "position"]
      (spLChk C L))
    (Cs : Cal P w K mg base k "pairs_of_swaps" ["base", "indexes"]
      (spPrsOf C))
    (Mi : CalM P w K mg base L k "indexes" ["self"] (spLIxs C L)) :
    FnOk P w K mg base CX0 (k + 1) f fd ["self", "position"]
      (spLPair C L) := by
  refine F.ok sc_SwapLog_pair_at (fun vs H Q E h => ?_)
    (fun cv A outer s H vs Q E hr h => ?_)
  · obtain ⟨g, ro, b, ls, rows, j, rfl, _⟩ := h
    rfl
  obtain ⟨g, ro, b, ls, rows, j, rfl, x, hj, q⟩ := h
  refine ⟨_, pss_cons (ps_expr (pe_calM Mk' hr (pv 0) (pa_cons (pv 1) pa_nil)))
    (pss_one (ps_ret (pe_ix ix_list
      (pe_cal Cs hr (pa_cons (pe_fld (pv 0) rfl) (pa_cons
        (pe_calM0 Mi hr (pv 0)) pa_nil))) (pv 1) (fun _ _ => rfl)))), ?_⟩
  obtain ⟨dx, cu, rs, h1, h2, h3, h4⟩ := x.ob
  refine ⟨_, rfl, g, dx, _, rfl, h1, lf_no _ _ _ (by decide +kernel)
    (by decide +kernel) (by decide +kernel), _, rfl, g, ro, b, ls, rows, j, rfl,
    x, hj, ?_⟩
  refine ⟨_, rfl, g, L, dx, _, _, rfl, h1, T.cl, T.nG, lf_ground _ _ _,
    _, rfl, g, dx, _, rfl, h1, lf_no _ _ _ (by decide +kernel)
    (by decide +kernel) (by decide +kernel), g, ro, b, ls, rows, rfl, x,
    fun ia H2 nia hia s2 => ?_⟩
  have x2 := x.same s2
  have hlen : (ixs rows).length ≤ 1600 := by
    rw [List.length_map]; exact x.many
  refine ⟨b, ia, ls, ixs rows, rfl, x2.ba, x.good, hia, x.wd.ixs, hlen,
    fun pa prs' H3 npa hpa hpr s3 => ?_⟩
  have hj' : j < (prsOf ls (ixs rows)).length := by
    rw [prsOf_len, List.length_map]; exact hj
  obtain ⟨r, e, hr'⟩ := hpr.get (List.getElem?_eq_getElem hj')
  refine ⟨_, rfl, pa, _, _, _, rfl, rfl, SqL.of hpa, atI_nat (j := j) (by
    rw [List.getElem?_map, e]; rfl), q r H3 ?_ (s2.trans s3)⟩
  rw [List.getD_eq_getElem?_getD, List.getElem?_eq_getElem hj']
  exact hr'
end
end OM
namespace OM
open PySem PySem.Spec PyProof.Rows L2
theorem Wd.snoc {ls : List (List Nat)} {i : Nat} : ∀ {ws : List Nat}
    {os : List (List Nat)}, Wd ls os ws → i + 1 < os.length →
    outB ls (run os ws) i = true → Wd ls os (ws ++ [i])
  | [], _, _, h, o => ⟨h, o, trivial⟩
  | u :: ws, os, w, h, o => ⟨w.1, w.2.1, Wd.snoc w.2.2
      (by rw [exch_len]; exact h) o⟩
theorem ixs_erase : ∀ (rows : List En) (j : Nat),
    ixs (rows.eraseIdx j) = (ixs rows).eraseIdx j
  | [], _ => rfl
  | _ :: _, 0 => rfl
  | e :: r, j + 1 => congrArg (e.1 :: ·) (ixs_erase r j)
theorem map_erase {α β : Type} (f : α → β) : ∀ (l : List α) (j : Nat),
    (l.map f).eraseIdx j = (l.eraseIdx j).map f
  | [], _ => rfl
  | _ :: _, 0 => rfl
  | e :: r, j + 1 => congrArg (f e :: ·) (map_erase f r j)
/-- the entry that a swap back cancels -/
def canJ (ls : List (List Nat)) (ws : List Nat) (i : Nat) : Nat :=
  (prsOf ls ws).idxOf ((run ls ws).getD (i + 1) [], (run ls ws).getD i [])
def rowsS (ls : List (List Nat)) (rows : List En) (i : Nat) (r : List Nat) :
    List En :=
  if outB ls (run ls (ixs rows)) i = true then rows ++ [(i, r)]
  else rows.eraseIdx (canJ ls (ixs rows) i)
def ansS (ls : List (List Nat)) (rows : List En) (i : Nat) : V :=
  if outB ls (run ls (ixs rows)) i = true then .non
  else .int ((canJ ls (ixs rows) i : Nat) : Int)
section
variable {C L g ro b : Addr} {H H' : Hp} {ls : List (List Nat)} {rows : List En}
  {i : Nat} {r : List Nat}
theorem LogAt.canMem (x : LogAt C L H g ro b ls rows) (hi : i + 1 < ls.length)
    (ob : outB ls (run ls (ixs rows)) i = false) :
    ((run ls (ixs rows)).getD (i + 1) [], (run ls (ixs rows)).getD i []) ∈
      prsOf ls (ixs rows) :=
  (x.rep.inn x.of (by rw [x.oLen]; exact hi) ob).1
theorem LogAt.canLt (x : LogAt C L H g ro b ls rows) (hi : i + 1 < ls.length)
    (ob : outB ls (run ls (ixs rows)) i = false) :
    canJ ls (ixs rows) i < rows.length := by
  have := List.idxOf_lt_length_of_mem (x.canMem hi ob)
  rw [prsOf_len, List.length_map] at this
  exact this
theorem LogAt.step (x : LogAt C L H g ro b ls rows) (hi : i + 1 < ls.length) :
    Wd ls ls (ixs (rowsS ls rows i r)) ∧
      run ls (ixs (rowsS ls rows i r)) = exch (run ls (ixs rows)) i := by
  unfold rowsS
  cases ob : outB ls (run ls (ixs rows)) i with
  | true =>
    rw [if_pos rfl]
    have e : ixs (rows ++ [(i, r)]) = ixs rows ++ [i] := List.map_append
    rw [e]
    exact ⟨x.wd.snoc hi ob, run_snoc _ _ _⟩
  | false =>
    rw [if_neg nofun, ixs_erase]
    have m := x.canMem hi ob
    have il := List.idxOf_lt_length_of_mem m
    refine cancel x.good.nd x.wd hi ob ?_
    unfold canJ
    rw [List.getElem?_eq_getElem il, List.getElem_idxOf il]
theorem LogAt.stepR (x : LogAt C L H g ro b ls rows) (hr : Rsn r) :
    ∀ e ∈ rowsS ls rows i r, Rsn e.2 := by
  unfold rowsS
  intro e he
  split at he
  · rcases List.mem_append.mp he with h | h
    · exact x.rn e h
    · rw [List.mem_singleton.mp h]
      exact hr
  · exact x.rn e (List.mem_of_mem_eraseIdx he)
theorem LogAt.forV (x : LogAt C L H g ro b ls rows) (hi : i + 1 < ls.length)
    (ob : outB ls (run ls (ixs rows)) i = false) :
    entV ls rows ((run ls (ixs rows)).getD i [])
      ((run ls (ixs rows)).getD (i + 1) []) =
      .int ((canJ ls (ixs rows) i : Nat) : Int) := by
  have m := x.canMem hi ob
  have lt := (in_lt x.of (by rw [x.oLen]; exact hi)).mp ob
  have e : pairOf ls ((run ls (ixs rows)).getD i [])
      ((run ls (ixs rows)).getD (i + 1) []) =
      ((run ls (ixs rows)).getD (i + 1) [], (run ls (ixs rows)).getD i []) := by
    unfold pairOf
    rw [if_neg (by omega)]
  unfold entV canJ
  rw [e, if_pos m]
end
def spIsRsn : Sp := fun vs H Q _ => ∃ l : List Nat, vs = [vS l] ∧ Rsn l ∧
  ∀ H', Same H H' → Q (.bl true) H'
def spChkRsn : Sp := fun vs H Q _ => ∃ l : List Nat, vs = [vS l] ∧ Rsn l ∧
  ∀ H', Same H H' → Q .non H'
def spSwapC (C L : Addr) : Sp := fun vs H Q _ =>
  ∃ (g ro b : Addr) (ls : List (List Nat)) (rows : List En) (i : Nat)
    (r : List Nat), vs = [.ref g, .int i, vS r] ∧
  LogAt C L H g ro b ls rows ∧ i + 1 < ls.length ∧ Rsn r ∧
  ∀ H', LogAt C L H' g ro b ls (rowsS ls rows i r) → But2 g ro H H' →
    Q (ansS ls rows i) H'
section
variable {P : Program} {w : World} {K : PySem.W.Frag}
  {mg : Str → Option Value} {base : Heap} {C L : Addr}
theorem ok_isrsn {f : Addr} {fd : FuncData} {k : Nat}
    (F : Fun K "is_reason" "is_reason" s_is_reason f fd) (B : Bl mg)
    {tN : Tok} (mN : mg "NO_REASON" = some (.str (Str.ofString "") tN))
    (Ci : CalIsName P w K mg base k) :
    FnOk P w K mg base CX0 (k + 1) f fd ["value"] spIsRsn := by
  refine F.ok sc_is_reason (fun vs H Q E h => ?_)
    (fun cv A outer s H vs Q E hr h => ?_)
  · obtain ⟨l, rfl, _⟩ := h
    rfl
  obtain ⟨l, rfl, hl, q⟩ := h
  refine ⟨_, pss_one (ps_ret (pe_or (pe_cal Ci hr (pa_cons (pv 0) pa_nil))
    (pe_one (pe_and (pe_callB call_isi (by rfl) B.isi bt_isi (pa_cons (pv 0)
      (pa_cons (pe_bltn (v := .ty "str") (by rfl) B.str bt_str rfl) pa_nil)))
      (pe_one (pe_cmpR op_eq (pv 0)
        (pe_glob (v := .str (Str.ofString "")) (by rfl) mN ⟨_, rfl⟩)
        (nomark _))))))), ?_⟩
  have ll := hl.len
  refine ⟨_, rfl, _, rfl, .inl ⟨_, rfl, ?_, fun H1 s1 => ⟨_, rfl, ?_⟩⟩⟩
  · rw [SX.S_len]
    exact sz (by omega)
  rcases hl with rfl | hl
  · rw [show nmB (SX.S ([] : List Nat)).cps.toList = false by decide +kernel]
    refine iteF ⟨_, rfl, _, _, _, _, true, rfl, .ty "str", .base (.str _),
      kit_ty (by decide +kernel), _, rfl, iteT ⟨_, rfl, rfl, ?_⟩⟩
    rw [decide_eq_true (show V.str (SX.S []) = V.str (Str.ofString "") by
      rfl)]
    exact q H1 s1
  · rw [show nmB (SX.S l).cps.toList = true from nmB_iff.mpr hl]
    exact iteT (q H1 s1)
theorem ok_chkrsn {f : Addr} {fd : FuncData} {k : Nat}
    (F : Fun K "check_reason" "check_reason" s_check_reason f fd)
    (Ci : Cal P w K mg base k "is_reason" ["value"] spIsRsn) :
    FnOk P w K mg base CX0 (k + 1) f fd ["reason"] spChkRsn := by
  refine F.ok sc_check_reason (fun vs H Q E h => ?_)
    (fun cv A outer s H vs Q E hr h => ?_)
  · obtain ⟨l, rfl, _⟩ := h
    rfl
  obtain ⟨l, rfl, hl, q⟩ := h
  refine ⟨_, pss_one (ps_if (pt_not (pt_val (pe_cal Ci hr (pa_cons (pv 0)
    pa_nil)))) (pss_one ps_never) pss_nil), ?_⟩
  exact ⟨_, rfl, l, rfl, hl, fun H1 s1 => ⟨_, rfl, iteF (q H1 s1)⟩⟩
theorem ok_swapc {f : Addr} {fd : FuncData} {k : Nat}
    (F : Fun K "swap_checked" "SwapLog.swap_checked" s_SwapLog_swap_checked
      f fd)
    (T : LC K mg L)
    (Cg : Cal P w K mg base k "goes_outward" ["base", "order", "index"]
      (spOut C))
    (Ce : Cal P w K mg base k "exchanged" ["order", "index"] (spExch K))
    (Mf : CalM P w K mg base L k "entry_for" ["self", "first", "second"]
      (spLFor C L)) :
    FnOk P w K mg base CX0 (k + 1) f fd ["self", "index", "reason"]
      (spSwapC C L) := by
  refine F.ok sc_SwapLog_swap_checked (fun vs H Q E h => ?_)
    (fun cv A outer s H vs Q E hr h => ?_)
  · obtain ⟨g, ro, b, ls, rows, i, r, rfl, _⟩ := h
    rfl
  obtain ⟨g, ro, b, ls, rows, i, r, rfl, x, hi, hrs, q⟩ := h
  have nd := sc_SwapLog_swap_checked.nd
  refine ⟨_, C8.pss_cut (ps_if (pt_val (pe_cal Cg hr (pa_cons
      (pe_fld (pv 0) rfl) (pa_cons (pe_fld (pv 0) rfl) (pa_cons (pv 1)
      pa_nil)))))
      (pss_cons (ps_set (i := 3) nd rfl (.inl rfl) pe_non)
        (pss_one (ps_expr (pe_bm PySem.F.plainAttrs_list
          PySem.F.slot_list_append PySem.F.type_list_append mt_append
          (pe_fld (pv 0) rfl) (pa_cons (pe_tup (pa_cons (pv 1)
            (pa_cons (pv 2) pa_nil))) pa_nil)))))
      (pss_cons (ps_set (i := 3) nd rfl (.inl rfl) (pe_calM Mf hr (pv 0)
          (pa_cons (pe_ix ix_list (pe_fld (pv 0) rfl) (pv 1)
            (fun _ _ => rfl)) (pa_cons (pe_ix ix_list (pe_fld (pv 0) rfl)
            (pe_op op_add (pv 1) pe_int) (fun _ _ => rfl)) pa_nil))))
        (pss_one (ps_expr (pe_bm PySem.F.plainAttrs_list
          PySem.F.slot_list_pop PySem.F.type_list_pop mt_popAt
          (pe_fld (pv 0) rfl) (pa_cons (pv 3) pa_nil))))))
    (pss_cons (ps_fld (pv 0) (pe_cal Ce hr (pa_cons (pe_fld (pv 0) rfl)
        (pa_cons (pv 1) pa_nil))) rfl)
    (pss_one (ps_ret (pv 3)))), ?_⟩
  obtain ⟨dx, cu, rs, h1, h2, h3, h4⟩ := x.ob
  have ol := x.oLen
  have go := x.good.perm x.perm
  have O : Ord C H b cu ls (run ls (ixs rows)) :=
    ⟨x.ba, x.good, h2, x.perm⟩
  have nco : cu ≠ ro := ne_nr h2 (run_ne _ x.good.ne) h3
  have ngo : g ≠ ro := ne_of h1 h3 nofun
  have many := x.many
  have l4 := h4.len
  refine ⟨fun σ' H' => ∃ rs', σ' = [some (.ref g), some (.int i), some (vS r),
    some (ansS ls rows i)] ∧ H' g = some (.ins L dx (lf b cu ro)) ∧
    H' cu = some (.lst ((run ls (ixs rows)).map vS)) ∧
    H' ro = some (.lst (rs'.map V.ref)) ∧ EnsAt H' rs' (rowsS ls rows i r) ∧
    BaseAt C H' b ls ∧ But ro H H', ?_, ?_⟩
  · refine ⟨_, rfl, g, L, dx, _, _, rfl, h1, T.cl, T.nG, lf_ground _ _ _, _,
      rfl, g, L, dx, _, _, rfl, h1, T.cl, T.nC, lf_current _ _ _, _, rfl, b, cu,
      ls, _, i, rfl, O, by omega, fun H1 s1 => ⟨_, rfl, ?_⟩⟩
    have x1 := x.same s1
    have bas : ∀ {H2 : Hp}, But ro H H2 → BaseAt C H2 b ls := fun s => by
      obtain ⟨dy, lo, d, k1, k2, k3⟩ := x.ba.ob
      exact ⟨dy, lo, d, s _ _ k1 (ne_of k1 h3 nofun),
        s _ _ k2 (ne_nr k2 x.good.ne h3), s _ _ k3 (ne_of k3 h3 nofun)⟩
    cases ob : outB ls (run ls (ixs rows)) i with
    | true =>
      refine iteT ?_
      refine ⟨_, rfl, g, L, dx, _, _, rfl, s1 _ _ h1, T.cl, T.nR,
        lf_rows _ _ _, .inl ⟨rfl, _, SqL.of (s1 _ _ h3)⟩, _, rfl, _, rfl,
        sz (by simp), fun t nt => ?_⟩
      have s2 : Same H (upd H1 t (.tup [.int i, vS r])) :=
        s1.trans (sameNew nt)
      have ht : (upd H1 t (.tup [.int i, vS r])) t =
        some (.tup [.int i, vS r]) := upd_same
      generalize (upd H1 t (.tup [.int i, vS r])) = H2 at s2 ht ⊢
      refine ⟨ro, _, _, rfl, rfl, s2 _ _ h3, ?_, ?_⟩
      · rw [List.length_map]
        exact sz' (by omega)
      have bu : But ro H (upd H2 ro (.lst (rs.map V.ref ++ [.ref t]))) :=
        (But.of s2).at
      refine ⟨rs ++ [t], ?_, ?_, ?_, ?_, ?_, bas bu, bu⟩
      · unfold ansS
        rw [ob, if_pos rfl]
        rfl
      · exact bu _ _ h1 ngo
      · exact bu _ _ h2 nco
      · rw [upd_same, List.map_append]
        rfl
      · unfold rowsS
        rw [ob, if_pos rfl]
        refine EnsAt.keep (H := H2) (fun a xs ha => ?_)
          ((h4.same s2).snoc (e := (i, r)) ht)
        rw [upd_ne (ne_of ha (s2 _ _ h3) nofun)]
        exact ha
    | false =>
      refine iteF ?_
      have gL := getD_map vS [] (show i < (run ls (ixs rows)).length by omega)
      have gR := getD_map vS [] (show i + 1 < (run ls (ixs rows)).length by
        omega)
      have hS := SqL.of (K := K) (s1 _ _ h2)
      refine ⟨_, rfl, g, dx, _, rfl, s1 _ _ h1, lf_no _ _ _
        (by decide +kernel) (by decide +kernel) (by decide +kernel), _, rfl, g,
        L, dx, _, _, rfl, s1 _ _ h1, T.cl, T.nC, lf_current _ _ _, _, rfl, cu,
        _, _, _, rfl, rfl, hS, atI_nat (j := i) gL, _, rfl, g,
        L, dx, _, _, rfl, s1 _ _ h1, T.cl, T.nC, lf_current _ _ _, _, rfl, _, _,
        rfl, rfl, cu, _, _, _, rfl, rfl, hS, atI_nat (j := i + 1) gR, g, ro, b,
        ls, rows, _, _, rfl, x1, x.of.m0 (by omega), x.of.m1 (by omega),
        fun H2 s2 => ?_⟩
      rw [x.forV hi ob]
      have s12 := s1.trans s2
      have cl := x.canLt hi ob
      have e3 : (rs.map V.ref)[canJ ls (ixs rows) i]? =
          some ((rs.map V.ref)[canJ ls (ixs rows) i]'(by
            rw [List.length_map]; omega)) := List.getElem?_eq_getElem _
      refine ⟨_, rfl, g, L, dx, _, _, rfl, s12 _ _ h1, T.cl, T.nR,
        lf_rows _ _ _, .inl ⟨rfl, _, SqL.of (s12 _ _ h3)⟩, _, rfl, ro, _, _,
        canJ ls (ixs rows) i, _, rfl, rfl, s12 _ _ h3, by omega, by omega, ?_,
        e3, ?_⟩
      · have sx := seqIndex_of (k := ((canJ ls (ixs rows) i : Nat) : Int))
          (n := (rs.map V.ref).length) (by omega) (by
            rw [List.length_map]; omega)
        rw [Int.toNat_natCast] at sx
        exact sx
      have bu : But ro H (upd H2 ro (.lst ((rs.map V.ref).eraseIdx
          (canJ ls (ixs rows) i)))) := (But.of s12).at
      refine ⟨rs.eraseIdx (canJ ls (ixs rows) i), ?_, ?_, ?_, ?_, ?_, bas bu,
        bu⟩
      · unfold ansS
        rw [ob, if_neg nofun]
        rfl
      · exact bu _ _ h1 ngo
      · exact bu _ _ h2 nco
      · rw [upd_same]
        congr 2
        exact map_erase _ _ _
      · unfold rowsS
        rw [ob, if_neg nofun]
        refine EnsAt.keep (H := H2) (fun a xs ha => ?_)
          ((h4.same s12).erase _)
        rw [upd_ne (ne_of ha (s12 _ _ h3) nofun)]
        exact ha
  rintro _ H1 ⟨rs', rfl, g1, c1, r1, e1, b1, u1⟩
  refine ⟨_, rfl, g, L, dx, _, _, rfl, g1, T.cl, T.nC, lf_current _ _ _, _, rfl,
    cu, _, i, rfl, SqL.of c1, ?_, ?_, fun cu' H2 ncu hcu s2 => ?_⟩
  · rw [List.length_map]; omega
  · rw [List.length_map, ol]
    have := x.good.hi
    omega
  rw [exch_map] at hcu
  refine ⟨_, rfl, g, L, dx, _, rfl, s2 _ _ g1, T.cl, T.nC, lf_len _ _ _, ?_⟩
  rw [lf_setc]
  have ngc : g ≠ cu' := ne_of_none g1 ncu
  have nrc : ro ≠ cu' := ne_of_none r1 ncu
  obtain ⟨st1, st2⟩ := x.step (r := r) hi
  refine ⟨_, rfl, q _ ⟨⟨dx, cu', rs', upd_same, ?_, ?_, ?_⟩, ?_, x.good, st1,
    x.stepR hrs⟩ ?_⟩
  · rw [upd_ne ngc.symm, st2]
    exact hcu
  · rw [upd_ne ngo.symm]
    exact s2 _ _ r1
  · refine EnsAt.keep (H := H2) (fun a xs ha => ?_) (e1.same s2)
    rw [upd_ne (ne_of ha (s2 _ _ g1) nofun)]
    exact ha
  · obtain ⟨dy, lo, d, k1, k2, k3⟩ := (b1.same s2).ob
    have gg := s2 _ _ g1
    refine ⟨dy, lo, d, ?_, ?_, ?_⟩
    · rw [upd_ne (ne_of k1 gg bf_ne_lf)]; exact k1
    · rw [upd_ne (ne_of k2 gg nofun)]; exact k2
    · rw [upd_ne (ne_of k3 gg nofun)]; exact k3
  · intro y o e n m
    rw [upd_ne n]
    exact s2 _ _ (u1 _ _ e m)
theorem ok_lswap {f : Addr} {fd : FuncData} {k : Nat}
    (F : Fun K "swap" "SwapLog.swap" s_SwapLog_swap f fd)
    (T : LC K mg L)
    (Ci : Cal P w K mg base k "check_swap_index" ["base", "index"]
      (spChkIx C))
    (Cr : Cal P w K mg base k "check_reason" ["reason"] spChkRsn)
    (Ms : CalM P w K mg base L k "swap_checked" ["self", "index", "reason"]
      (spSwapC C L)) :
    FnOk P w K mg base CX0 (k + 1) f fd ["self", "index", "reason"]
      (spSwapC C L) := by
  refine F.ok sc_SwapLog_swap (fun vs H Q E h => ?_)
    (fun cv A outer s H vs Q E hr h => ?_)
  · obtain ⟨g, ro, b, ls, rows, i, r, rfl, _⟩ := h
    rfl
  obtain ⟨g, ro, b, ls, rows, i, r, rfl, x, hi, hrs, q⟩ := h
  refine ⟨_, pss_cons (ps_expr (pe_cal Ci hr (pa_cons (pe_fld (pv 0) rfl)
      (pa_cons (pv 1) pa_nil))))
    (pss_cons (ps_expr (pe_cal Cr hr (pa_cons (pv 2) pa_nil)))
    (pss_one (ps_ret (pe_calM Ms hr (pv 0) (pa_cons (pv 1)
      (pa_cons (pv 2) pa_nil)))))), ?_⟩
  obtain ⟨dx, cu, rs, h1, h2, h3, h4⟩ := x.ob
  refine ⟨_, rfl, g, L, dx, _, _, rfl, h1, T.cl, T.nG, lf_ground _ _ _, _, rfl,
    b, ls, i, rfl, x.ba, x.good.hi, hi, ?_⟩
  refine ⟨_, rfl, r, rfl, hrs, fun H1 s1 => ?_⟩
  refine ⟨_, rfl, g, dx, _, rfl, s1 _ _ h1, lf_no _ _ _ (by decide +kernel)
    (by decide +kernel) (by decide +kernel), _, rfl, _, rfl, g, ro, b, ls, rows,
    i, r, rfl, x.same s1, hi, hrs, fun H2 x2 u2 => q H2 x2
      (But2.trans (But2.of s1) u2)⟩
end
end OM
namespace OM
open PySem PySem.Spec PyProof.Rows L2
theorem Wd.out {ls : List (List Nat)} : ∀ {ws : List Nat}
    {os : List (List Nat)} {i m : Nat}, Wd ls os ws → ws[i]? = some m →
    outB ls (run os (ws.take i)) m = true
  | [], _, _, _, _, h => by simp at h
  | u :: ws, os, 0, m, w, h => by
    cases Option.some.inj h
    exact w.2.1
  | u :: ws, os, i + 1, m, w, h => Wd.out (i := i) w.2.2 (by simpa using h)
theorem But2.same {g ro : Addr} {H H1 H2 : Hp} (s : Same H H1)
    (u : But2 g ro H1 H2) (ng : H g = none) (nr : H ro = none) :
    Same H H2 := fun q o e =>
  u q o (s q o e) (ne_of_none e ng) (ne_of_none e nr)
theorem ent_at {C L g ro b : Addr} {H : Hp} {ls : List (List Nat)}
    {rows : List En} (x : LogAt C L H g ro b ls rows) {j : Nat} {p : Pr}
    (h : (prsOf ls (ixs rows))[j]? = some p) :
    p.1 ∈ ls ∧ p.2 ∈ ls ∧ entV ls rows p.1 p.2 = .int (j : Int) ∧
      entV ls rows p.2 p.1 = .int (j : Int) := by
  have hm := List.mem_of_getElem? h
  obtain ⟨h1, h2, h3, h4⟩ := (x.rep.mem p).mp hm
  have e1 : pairOf ls p.1 p.2 = p := by
    unfold pairOf
    rw [if_pos h3]
  have e2 : pairOf ls p.2 p.1 = p := by
    unfold pairOf
    rw [if_neg (by omega)]
  have e3 := idx_of x.rep.nd h
  unfold entV
  rw [e1, e2, if_pos hm, e3]
  exact ⟨h1, h2, rfl, rfl⟩
theorem exch_eqD {os : List (List Nat)} {i : Nat} (hi : i + 1 < os.length) :
    exch os i = os.take i ++ [os.getD (i + 1) [], os.getD i []] ++
      os.drop (i + 2) := by
  rw [exch_eq hi, List.getD_eq_getElem?_getD, List.getD_eq_getElem?_getD,
    List.getElem?_eq_getElem (show i < os.length by omega),
    List.getElem?_eq_getElem hi]
  rfl
section
variable {C L g ro b : Addr} {H H' : Hp} {ls : List (List Nat)} {rows : List En}
  {i : Nat} {r : List Nat}
theorem LogAt.forN (x : LogAt C L H g ro b ls rows) (hi : i + 1 < ls.length)
    (ob : outB ls (run ls (ixs rows)) i = true) :
    entV ls rows ((run ls (ixs rows)).getD i [])
      ((run ls (ixs rows)).getD (i + 1) []) = .non := by
  have no := (x.rep.out x.of (by rw [x.oLen]; exact hi) ob).1
  have lt := out_lt.mp ob
  have e : pairOf ls ((run ls (ixs rows)).getD i [])
      ((run ls (ixs rows)).getD (i + 1) []) = nbr (run ls (ixs rows)) i := by
    unfold pairOf
    rw [if_pos lt]
    rfl
  unfold entV
  rw [e, if_neg no]
theorem LogAt.ents (x : LogAt C L H g ro b ls rows) (u : But2 g ro H H')
    {rs : List Addr} {es : List En} (h : EnsAt H rs es) : EnsAt H' rs es :=
  h.keep fun _ _ e => u _ _ e (x.tup e).g (x.tup e).ro
end
end OM
namespace OM
open PySem PySem.Spec PyProof.Rows L2
/-! ### the other entries performed again -/
def rep1 (ls : List (List Nat)) (st : List En × List Nat) (a : Nat) (e : En) :
    List En × List Nat :=
  (rowsS ls st.1 e.1 e.2, if outB ls (run ls (ixs st.1)) e.1 = true
    then st.2 ++ [a] else st.2.eraseIdx (canJ ls (ixs st.1) e.1))
def replN (ls : List (List Nat)) (rows : List En) (j : Nat) :
    Nat → List En × List Nat
  | 0 => ([], [])
  | n + 1 => if n = j then replN ls rows j n
    else rep1 ls (replN ls rows j n) n (rows.getD n (0, []))
def gone (ls : List (List Nat)) (rows : List En) (j : Nat) : List Nat :=
  (List.range rows.length).filter fun a =>
    decide (a ∉ (replN ls rows j rows.length).2)
theorem replN_le (ls : List (List Nat)) (rows : List En) (j : Nat) :
    ∀ n, (replN ls rows j n).2.length ≤ n
  | 0 => Nat.le_refl _
  | n + 1 => by
    have ih := replN_le ls rows j n
    unfold replN
    split
    · omega
    · unfold rep1
      simp only
      split
      · rw [List.length_append]
        simp
        omega
      · have := List.length_eraseIdx_le (replN ls rows j n).2
          (canJ ls (ixs (replN ls rows j n).1) (rows.getD n (0, [])).1)
        omega
theorem inV_I (a : Nat) : ∀ ks : List Nat,
    inV (.int (a : Int)) (vIs ks) = decide (a ∈ ks)
  | [] => by simp [inV]
  | u :: us => by
    have ih := inV_I a us
    unfold inV at ih ⊢
    unfold vIs at ih ⊢
    rw [List.map_cons, List.any_cons, ih]
    by_cases e : u = a
    · subst e
      simp [eqV]
    · have ne : ¬ a = u := fun z => e z.symm
      have : eqV (.int (u : Int)) (.int (a : Int)) = false := by
        unfold eqV
        simp
        omega
      rw [this]
      simp [ne]
theorem flat_I (ks : List Nat) : (vIs ks).all flatV = true := by
  rw [List.all_eq_true]
  intro v hv
  obtain ⟨l, _, rfl⟩ := List.mem_map.mp hv
  rfl
theorem lenS {C L g ro b : Addr} {H : Hp} {ls : List (List Nat)}
    {rows : List En} {i : Nat} {r : List Nat} {ks : List Nat} {a : Nat}
    (x : LogAt C L H g ro b ls rows) (hi : i + 1 < ls.length)
    (h : ks.length = rows.length) :
    (if outB ls (run ls (ixs rows)) i = true then ks ++ [a]
      else ks.eraseIdx (canJ ls (ixs rows) i)).length =
      (rowsS ls rows i r).length := by
  unfold rowsS
  cases ob : outB ls (run ls (ixs rows)) i with
  | true =>
    rw [if_pos rfl, if_pos rfl, List.length_append, List.length_append, h]
    rfl
  | false =>
    have cl := x.canLt hi ob
    rw [if_neg nofun, if_neg nofun, List.length_eraseIdx,
      List.length_eraseIdx, if_pos (by omega), if_pos cl, h]
theorem ne_ni {H : Hp} {o q : Addr} {ms : List (List Nat)} {ks : List Nat}
    (h : H o = some (.lst (ms.map vS))) (ne : ms ≠ [])
    (k : H q = some (.lst (vIs ks))) : o ≠ q := ne_of h k fun z => by
  have z' := HO.lst.inj z
  cases ms with
  | nil => exact ne rfl
  | cons m r =>
    cases ks with
    | nil => cases z'
    | cons a r => cases (List.cons.inj z').1
/-- a log stays where a list of numbers changes -/
theorem LogAt.ints {C L g ro b p : Addr} {H H' : Hp} {ls : List (List Nat)}
    {rows : List En} {ks : List Nat} (x : LogAt C L H g ro b ls rows)
    (h : H p = some (.lst (vIs ks))) (n : p ≠ ro) (s : But p H H') :
    LogAt C L H' g ro b ls rows := by
  obtain ⟨dx, cu, rs, h1, h2, h3, h4⟩ := x.ob
  obtain ⟨dy, lo, d, z1, z2, z3⟩ := x.ba.ob
  exact ⟨⟨dx, cu, rs, s _ _ h1 (ne_of h1 h nofun),
    s _ _ h2 (ne_ni h2 (run_ne _ x.good.ne) h), s _ _ h3 n.symm,
    h4.keep fun a xs e => s _ _ e (ne_of e h nofun)⟩,
    ⟨dy, lo, d, s _ _ z1 (ne_of z1 h nofun), s _ _ z2 (ne_ni z2 x.good.ne h),
      s _ _ z3 (ne_of z3 h nofun)⟩, x.good, x.wd, x.rn⟩
/-- a log stays where another one changes -/
theorem LogAt.other {C L g ro b p dx bb cu rr : Addr} {H H' : Hp}
    {ls : List (List Nat)} {rows : List En} (x : LogAt C L H g ro b ls rows)
    (h : H p = some (.ins L dx (lf bb cu rr))) (n : g ≠ p) (s : But p H H') :
    LogAt C L H' g ro b ls rows := by
  obtain ⟨dx, cu, rs, h1, h2, h3, h4⟩ := x.ob
  obtain ⟨dy, lo, d, z1, z2, z3⟩ := x.ba.ob
  exact ⟨⟨dx, cu, rs, s _ _ h1 n, s _ _ h2 (ne_of h2 h nofun),
    s _ _ h3 (ne_of h3 h nofun),
    h4.keep fun a xs e => s _ _ e (ne_of e h nofun)⟩,
    ⟨dy, lo, d, s _ _ z1 (ne_of z1 h bf_ne_lf), s _ _ z2 (ne_of z2 h nofun),
      s _ _ z3 (ne_of z3 h nofun)⟩, x.good, x.wd, x.rn⟩
def spLBase (C L : Addr) : Sp := fun vs H Q _ =>
  ∃ (g ro b : Addr) (ls : List (List Nat)) (rows : List En), vs = [.ref g] ∧
  LogAt C L H g ro b ls rows ∧ Q (.ref b) H
def spClone (C L : Addr) : Sp := fun vs H Q _ =>
  ∃ (g ro b : Addr) (ls : List (List Nat)) (rows : List En), vs = [.ref g] ∧
  LogAt C L H g ro b ls rows ∧ ∀ g' ro' H', H g' = none → H ro' = none →
    LogAt C L H' g' ro' b ls rows → Same H H' → Q (.ref g') H'
def spRemove (C L : Addr) : Sp := fun vs H Q _ =>
  ∃ (g ro b : Addr) (ls : List (List Nat)) (rows : List En) (j : Nat),
  vs = [.ref g, .int j] ∧ LogAt C L H g ro b ls rows ∧ j < rows.length ∧
  ∀ q ro' H', H q = none → H ro' = none → q ≠ ro' →
    LogAt C L H' g ro' b ls (replN ls rows j rows.length).1 →
    H' q = some (.lst (vIs (gone ls rows j))) → But g H H' → Q (.ref q) H'
section
variable {P : Program} {w : World} {K : PySem.W.Frag}
  {mg : Str → Option Value} {base : Heap} {C L : Addr}
theorem ok_lbase {f : Addr} {fd : FuncData} {k : Nat}
    (F : Fun K "base" "SwapLog.base" s_SwapLog_base f fd)
    (T : LC K mg L) :
    FnOk P w K mg base CX0 (k + 1) f fd ["self"] (spLBase C L) := by
  refine F.ok sc_SwapLog_base (fun vs H Q E h => ?_)
    (fun cv A outer s H vs Q E hr h => ?_)
  · obtain ⟨g, ro, b, ls, rows, rfl, _⟩ := h
    rfl
  obtain ⟨g, ro, b, ls, rows, rfl, x, q⟩ := h
  obtain ⟨dx, cu, rs, h1, h2, h3, h4⟩ := x.ob
  refine ⟨_, pss_one (ps_ret (pe_fld (pv 0) rfl)), ?_⟩
  exact ⟨_, rfl, g, L, dx, _, _, rfl, h1, T.cl, T.nG, lf_ground _ _ _, q⟩
/-- a log's two lists replaced -/
theorem LogAt.swapIn {g ro b cu' ro' dx cu : Addr} {H1 H2 H3 : Hp}
    {ls : List (List Nat)} {rows rows' : List En} {rs' : List Addr}
    (x : LogAt C L H1 g ro b ls rows)
    (h1 : H1 g = some (.ins L dx (lf b cu ro)))
    (s : ∀ q o, H1 q = some o → q ≠ g → H3 q = some o)
    (k1 : H3 g = some (.ins L dx (lf b cu' ro')))
    (k2 : H3 cu' = some (.lst ((run ls (ixs rows')).map vS)))
    (k3 : H3 ro' = some (.lst (rs'.map V.ref))) (k4 : EnsAt H3 rs' rows')
    (wd : Wd ls ls (ixs rows')) (rn : ∀ e ∈ rows', Rsn e.2) :
    LogAt C L H3 g ro' b ls rows' := by
  refine ⟨⟨dx, cu', rs', k1, k2, k3, k4⟩, ?_, x.good, wd, rn⟩
  obtain ⟨dy, lo, d, z1, z2, z3⟩ := x.ba.ob
  exact ⟨dy, lo, d, s _ _ z1 (ne_of z1 h1 bf_ne_lf),
    s _ _ z2 (ne_of z2 h1 nofun), s _ _ z3 (ne_of z3 h1 nofun)⟩
theorem ok_remove {f : Addr} {fd : FuncData} {k : Nat}
    (F : Fun K "remove_entry" "SwapLog.remove_entry" s_SwapLog_remove_entry
      f fd)
    (B : Bl mg) (T : LC K mg L)
    (Cl : CalC P w K mg base L k "SwapLog" ["self", "base"] (spLInit C L))
    (Mk' : CalM P w K mg base L k "check_position" ["self", "position"]
      (spLChk C L))
    (Mo : CalM P w K mg base L k "order" ["self"] (spLOrd C L))
    (Me : CalM P w K mg base L k "entries" ["self"] (spLEnt C L))
    (Ms : CalM P w K mg base L k "swap_checked" ["self", "index", "reason"]
      (spSwapC C L)) :
    FnOk P w K mg base CX0 (k + 2) f fd ["self", "position"]
      (spRemove C L) := by
  refine F.ok sc_SwapLog_remove_entry (fun vs H Q E h => ?_)
    (fun cv A outer s H vs Q E hr1 h => ?_)
  · obtain ⟨g, ro, b, ls, rows, j, rfl, _⟩ := h
    rfl
  obtain ⟨g, ro, b, ls, rows, j, rfl, x, hj, q⟩ := h
  have nd := sc_SwapLog_remove_entry.nd
  have hr := hr1.mono (Nat.le_succ k)
  refine ⟨_, pss_cons (ps_expr (pe_calM Mk' hr (pv 0) (pa_cons (pv 1) pa_nil)))
    (pss_cons (ps_set (i := 2) nd rfl (.inl rfl) (pe_calM0 Me hr (pv 0)))
    (C8.pss_cut (ps_set (i := 3) nd rfl (.inl rfl)
      (pe_calC Cl hr1 (pa_cons (pe_fld (pv 0) rfl) pa_nil)))
    (pss_cons (ps_set (i := 4) nd rfl (.inr rfl) (pe_lst pa_nil))
    (C8.pss_cut (ps_for PassesOwn.never rfl
      (pi_enum (by rfl) B.enum (pa_cons (pv 2) pa_nil))
      (pg_tup rfl (pgs_cons (pg_name (i := 5) nd rfl (.inl rfl))
        (pgs_cons (pg_tup rfl (pgs_cons (pg_name (i := 6) nd rfl (.inl rfl))
          (pgs_cons (pg_name (i := 7) nd rfl (.inl rfl)) pgs_nil))) pgs_nil)))
      (pss_one (ps_if (pt_cmpR op_ne (pv 5) (pv 1) (nomark _))
        (C8.pss_cut (ps_set (i := 8) nd rfl (.inl rfl)
          (pe_calM Ms hr (pv 3) (pa_cons (pv 6) (pa_cons (pv 7) pa_nil))))
        (pss_one (ps_if (pt_cmpR op_isN (pv 8) pe_non (nomark _))
          (pss_one (ps_expr (pe_bm PySem.F.plainAttrs_list
            PySem.F.slot_list_append PySem.F.type_list_append mt_append (pv 4)
            (pa_cons (pv 5) pa_nil))))
          (pss_one (ps_expr (pe_bm PySem.F.plainAttrs_list
            PySem.F.slot_list_pop PySem.F.type_list_pop mt_popAt (pv 4)
            (pa_cons (pv 8) pa_nil)))))))
        pss_nil)))
    (pss_cons (ps_fld (pv 0) (pe_calM0 Mo hr (pv 3)) rfl)
    (pss_cons (ps_fld (pv 0) (pe_calM0 Me hr (pv 3)) rfl)
    (pss_one (ps_ret (pe_lc (own := [("at", 5)]) (g := gName 5) rfl nd
      (pi_range1 (by rfl) B.range (pa_cons (pe_callB call_len_seq (by rfl) B.len
        PySem.boot_len (pa_cons (pv 2) pa_nil)) pa_nil))
      (blkOk_by (N := N_SwapLog_remove_entry)
        (sc := defScope s_SwapLog_remove_entry) (by decide +kernel))
      (fun _ _ _ _ _ => pg_name (i := 5) nd rfl (Or.inl rfl))
      (fun _ _ _ _ _ => pts_one (pt_cmpR (r := rIn K true)
        op_notIn_seq (pv 5) (pv 4) (by rfl)))
      (fun _ _ _ _ _ => pv 5)))))))))), ?_⟩
  obtain ⟨dx, cu, rs, h1, h2, h3, h4⟩ := x.ob
  have many := x.many
  refine ⟨_, rfl, g, dx, _, rfl, h1, lf_no _ _ _ (by decide +kernel)
    (by decide +kernel) (by decide +kernel), _, rfl, g, ro, b, ls, rows, j, rfl,
    x, hj, ?_⟩
  refine ⟨_, rfl, g, dx, _, rfl, h1, lf_no _ _ _ (by decide +kernel)
    (by decide +kernel) (by decide +kernel), g, ro, b, ls, rows, rfl, x,
    fun fo rsf H1 nfo hfo hes s1 => ?_⟩
  have lrs := hes.len
  -- an empty log
  refine ⟨fun σ' H' => ∃ g2 ro2, σ' = [some (.ref g), some (.int j),
    some (.ref fo), some (.ref g2), none, none, none, none, none] ∧
    H1 g2 = none ∧ H1 ro2 = none ∧ LogAt C L H' g2 ro2 b ls [] ∧
    Same H1 H', ?_, ?_⟩
  · refine ⟨_, rfl, g, L, dx, _, _, rfl, s1 _ _ h1, T.cl, T.nG, lf_ground _ _ _,
      fun g2 dx2 ng nx ne => ?_⟩
    have s0 : Same H1 (upd (upd H1 dx2 (.own g2)) g2 (.ins L dx2 [])) :=
      OM.Same.put (sameNew nx) ng
    refine ⟨g2, b, dx2, ls, rfl, upd_same, (x.same s1).ba.same s0, x.good,
      fun ro2 H2 nro x2 b2 => ⟨rfl, g2, ro2, rfl, ng, s0.free nro, x2, ?_⟩⟩
    exact fun y o e => b2 y o (s0 y o e) (ne_of_none e ng)
  rintro _ H2 ⟨g2, ro2, rfl, ng1, nro1, x2, s2⟩
  have ng : H g2 = none := s1.free ng1
  have nro : H ro2 = none := s1.free nro1
  have nfg : fo ≠ g2 := ne_of_none hfo ng1
  have nfr : fo ≠ ro2 := ne_of_none hfo nro1
  refine ⟨sz (by simp), fun pl npl => ?_⟩
  have nfp : fo ≠ pl := ne_of_none (s2 _ _ hfo) npl
  have s3 : Same H2 (upd H2 pl (.lst [])) := sameNew npl
  have hpl : (upd H2 pl (.lst [])) pl = some (.lst []) := upd_same
  have npr : pl ≠ ro2 := fun e => by
    obtain ⟨_, _, _, _, _, k3, _⟩ := x2.ob
    rw [e, k3] at npl; cases npl
  have fpl : H pl = none := (s1.trans s2).free npl
  generalize upd H2 pl (.lst []) = H3 at s3 hpl ⊢
  have x3 := x2.same s3
  have s03 : Same H H3 := (s1.trans s2).trans s3
  -- the others again
  refine ⟨fun σ' H' => ∃ y5 y6 y7 y8, σ' = [some (.ref g), some (.int j),
    some (.ref fo), some (.ref g2), some (.ref pl), y5, y6, y7, y8] ∧
    LogAt C L H' g2 ro2 b ls (replN ls rows j rows.length).1 ∧
    H' pl = some (.lst (vIs (replN ls rows j rows.length).2)) ∧ Same H H' ∧
    H' fo = some (.lst (rsf.map V.ref)), ?_, ?_⟩
  · refine ⟨_, rfl, fo, _, rfl, SqL.of (s3 _ _ (s2 _ _ hfo)), ?_⟩
    refine for_it (walk_enum (K := K) (a := fo) (xs := rsf.map V.ref))
      (fun i σ H' => ∃ y5 y6 y7 y8, σ = [some (.ref g), some (.int j),
        some (.ref fo), some (.ref g2), some (.ref pl), y5, y6, y7, y8] ∧
        LogAt C L H' g2 ro2 b ls (replN ls rows j i).1 ∧
        H' pl = some (.lst (vIs (replN ls rows j i).2)) ∧
        (replN ls rows j i).2.length = (replN ls rows j i).1.length ∧
        Same H H' ∧ H' fo = some (.lst (rsf.map V.ref)) ∧ EnsAt H' rsf rows)
      ⟨none, none, none, none, rfl, x3, hpl, rfl, s03, s3 _ _ (s2 _ _ hfo),
        (hes.same s2).same s3⟩
      (fun i σ H' _ z => by
        obtain ⟨_, _, _, _, _, _, _, _, _, z, _⟩ := z
        exact SqL.of z) ?_ ?_
    · rintro i v σ H4 H5 hi ⟨y5, y6, y7, y8, rfl, x4, p4, l4, s4, f4, e4⟩
        ⟨T', x1', x2', rfl, nT, rfl, c1, c2⟩
      have c2 : (rsf.map V.ref)[i]? = some x2' := c2
      rw [List.getElem?_map] at c2
      rw [List.length_map] at hi
      have hi' : i < rows.length := by omega
      have gi : rows[i]? = some rows[i] := List.getElem?_eq_getElem hi'
      obtain ⟨r, er, ht⟩ := e4.get gi
      rw [er] at c2
      cases Option.some.inj c2
      cases Option.some.inj c1
      have s5 : Same H4 (upd H4 T' (.tup [.int (i : Nat), .ref r])) :=
        sameNew nT
      have hT : (upd H4 T' (.tup [.int (i : Nat), .ref r])) T' =
        some (.tup [.int (i : Nat), .ref r]) := upd_same
      generalize (upd H4 T' (.tup [.int (i : Nat), .ref r])) = H5 at s5 hT ⊢
      have x5 := x4.same s5
      have p5 := s5 _ _ p4
      have f5 := s5 _ _ f4
      have e5 := e4.same s5
      have gd : rows.getD i (0, []) = rows[i] := by
        rw [List.getD_eq_getElem?_getD, gi]; rfl
      have ix : rows[i].1 + 1 < ls.length := x.wd.ixs _
        (List.mem_map_of_mem (List.getElem_mem hi'))
      have le := replN_le ls rows j i
      refine ⟨T', _, rfl, .inl (.inl hT), rfl, _, _, rfl, _, _, rfl, r, _, rfl,
        .inl (.inl (s5 _ _ ht)), rfl, _, _, rfl, _, _, rfl, rfl, rfl, ?_⟩
      refine ⟨_, rfl, _, rfl, rfl, _, rfl, ?_⟩
      by_cases c : i = j
      · subst c
        refine iteNS rfl ?_
        have er : replN ls rows i (i + 1) = replN ls rows i i := if_pos rfl
        rw [er]
        exact ⟨_, _, _, _, rfl, x5, p5, l4, s4.trans s5, f5, e5⟩
      · have nv : ¬ (V.int (i : Int) = V.int (j : Int)) := fun z => c (by
          have := V.int.inj z
          omega)
        rw [decide_eq_false nv]
        refine iteT ?_
        have er : replN ls rows j (i + 1) =
            rep1 ls (replN ls rows j i) i rows[i] := by
          rw [← gd]
          exact if_neg c
        rw [er]
        generalize replN ls rows j i = R at x5 p5 l4 le ⊢
        obtain ⟨R1, R2⟩ := R
        simp only at x5 p5 l4 le
        obtain ⟨dy, cy, ry, w1, w2, w3, w4⟩ := x5.ob
        -- the swap
        refine ⟨fun σ' H' => σ' = [some (.ref g), some (.int j),
          some (.ref fo), some (.ref g2), some (.ref pl), some (.int (i : Nat)),
          some (.int rows[i].1), some (vS rows[i].2),
          some (ansS ls R1 rows[i].1)] ∧
          LogAt C L H' g2 ro2 b ls (rowsS ls R1 rows[i].1 rows[i].2) ∧
          But2 g2 ro2 H5 H', ?_, ?_⟩
        · exact ⟨_, rfl, g2, dy, _, rfl, w1, lf_no _ _ _ (by decide +kernel)
            (by decide +kernel) (by decide +kernel), _, rfl, _, rfl, g2, ro2, b,
            ls, R1, rows[i].1, rows[i].2, rfl, x5, ix,
            x.rn _ (List.getElem_mem hi'), fun H6 x6 u6 => ⟨rfl, x6, u6⟩⟩
        rintro _ H6 ⟨rfl, x6, u6⟩
        have ngp : pl ≠ g2 := ne_of p5 w1 nofun
        have p6 := u6 _ _ p5 ngp npr
        have s6 : Same H H6 := But2.same (s4.trans s5) u6 ng nro
        have f6 := u6 _ _ f5 nfg nfr
        have e6 := x5.ents u6 e5
        have lenn := lenS (r := rows[i].2) (a := i) x5 ix l4
        have m6 := x6.many
        show tIfS _ _ _ _ _ _
        cases ob : outB ls (run ls (ixs R1)) rows[i].1 with
        | true =>
          have ea : ansS ls R1 rows[i].1 = .non := by
            unfold ansS
            rw [ob, if_pos rfl]
          have eb : rep1 ls (R1, R2) i rows[i] =
              (rowsS ls R1 rows[i].1 rows[i].2, R2 ++ [i]) := by
            unfold rep1
            simp only
            rw [ob, if_pos rfl]
          rw [ob, if_pos rfl] at lenn
          rw [ea, eb]
          refine ⟨_, rfl, rfl, _, rfl, iteT ?_⟩
          refine ⟨_, rfl, .inl ⟨rfl, _, SqL.of p6⟩, _, rfl, pl, _, _, rfl, rfl,
            p6, ?_, ?_⟩
          · rw [List.length_map]
            exact sz' (by omega)
          have bp : But pl H6 (upd H6 pl (.lst (vIs R2 ++
            [.int (i : Nat)]))) := (But.refl H6).at
          refine ⟨_, _, _, _, rfl, x6.ints p6 npr bp, ?_, lenn,
            OM.Same.put s6 fpl, bp _ _ f6 nfp, e6.keep fun a xs e =>
              bp _ _ e (ne_of e p6 nofun)⟩
          rw [upd_same]
          unfold vIs
          rw [List.map_append]
          rfl
        | false =>
          have ea : ansS ls R1 rows[i].1 =
              .int ((canJ ls (ixs R1) rows[i].1 : Nat) : Int) := by
            unfold ansS
            rw [ob, if_neg nofun]
          have eb : rep1 ls (R1, R2) i rows[i] =
              (rowsS ls R1 rows[i].1 rows[i].2,
                R2.eraseIdx (canJ ls (ixs R1) rows[i].1)) := by
            unfold rep1
            simp only
            rw [ob, if_neg nofun]
          have cl := x5.canLt ix ob
          rw [ob, if_neg nofun] at lenn
          rw [ea, eb]
          generalize canJ ls (ixs R1) rows[i].1 = c at cl lenn ⊢
          refine ⟨_, rfl, rfl, _, rfl, iteF ?_⟩
          have ec : (vIs R2)[c]? = some ((vIs R2)[c]'(by
            rw [List.length_map]; omega)) := List.getElem?_eq_getElem _
          refine ⟨_, rfl, .inl ⟨rfl, _, SqL.of p6⟩, _, rfl, pl, _, _, c, _, rfl,
            rfl, p6, by omega, by omega, ?_, ec, ?_⟩
          · have sx := seqIndex_of (k := ((c : Nat) : Int))
              (n := (vIs R2).length) (by omega) (by
                rw [List.length_map]; omega)
            rw [Int.toNat_natCast] at sx
            exact sx
          have bp : But pl H6 (upd H6 pl (.lst ((vIs R2).eraseIdx c))) :=
            (But.refl H6).at
          refine ⟨_, _, _, _, rfl, x6.ints p6 npr bp, ?_, lenn,
            OM.Same.put s6 fpl, bp _ _ f6 nfp, e6.keep fun a xs e =>
              bp _ _ e (ne_of e p6 nofun)⟩
          rw [upd_same]
          congr 2
          exact map_erase _ _ _
    · rintro σ H4 ⟨y5, y6, y7, y8, rfl, x4, p4, l4, s4, f4, e4⟩
      rw [List.length_map, lrs] at x4 p4
      exact ⟨_, _, _, _, rfl, x4, p4, s4, f4⟩
  rintro _ H4 ⟨y5, y6, y7, y8, rfl, x4, p4, s4, f4⟩
  have wd' := x4.wd
  have rn' := x4.rn
  have le := replN_le ls rows j rows.length
  have hgg := s4 _ _ h1
  have n2g : g2 ≠ g := fun e => by rw [e, h1] at ng; cases ng
  obtain ⟨d4, c4, r4, a1, a2, a3, a4⟩ := x4.ob
  refine ⟨_, rfl, g2, d4, _, rfl, a1, lf_no _ _ _ (by decide +kernel)
    (by decide +kernel) (by decide +kernel), g2, ro2, b, ls, _, rfl, x4,
    fun o H5 no ho s5 => ?_⟩
  have ngo : g ≠ o := ne_of_none hgg no
  refine ⟨_, rfl, g, L, dx, _, rfl, s5 _ _ hgg, T.cl, T.nC, lf_len _ _ _, ?_⟩
  rw [lf_setc]
  have u6 : But g H4 (upd H5 g (.ins L dx (lf b o ro))) := (But.of s5).at
  have g6 : (upd H5 g (.ins L dx (lf b o ro))) g =
    some (.ins L dx (lf b o ro)) := upd_same
  have o6 : (upd H5 g (.ins L dx (lf b o ro))) o = some (.lst ((run ls
    (ixs (replN ls rows j rows.length).1)).map vS)) := by
    rw [upd_ne ngo.symm]; exact ho
  generalize (upd H5 g (.ins L dx (lf b o ro))) = H6 at u6 g6 o6 ⊢
  have x6 := x4.other hgg n2g u6
  refine ⟨_, rfl, g2, d4, _, rfl, u6 _ _ a1 n2g, lf_no _ _ _
    (by decide +kernel) (by decide +kernel) (by decide +kernel), g2, ro2, b, ls,
    _, rfl, x6, fun e rsE H7 ne he heE s7 => ?_⟩
  have nge : g ≠ e := ne_of_none g6 ne
  refine ⟨_, rfl, g, L, dx, _, rfl, s7 _ _ g6, T.cl, T.nR, lf_len _ _ _, ?_⟩
  rw [lf_setr]
  have u8 : But g H4 (upd H7 g (.ins L dx (lf b o e))) :=
    (u6.trans (But.of s7)).at
  have g8 : (upd H7 g (.ins L dx (lf b o e))) g =
    some (.ins L dx (lf b o e)) := upd_same
  have o8 : (upd H7 g (.ins L dx (lf b o e))) o = some (.lst ((run ls
    (ixs (replN ls rows j rows.length).1)).map vS)) := by
    rw [upd_ne ngo.symm]; exact s7 _ _ o6
  have e8 : (upd H7 g (.ins L dx (lf b o e))) e =
    some (.lst (rsE.map V.ref)) := by
    rw [upd_ne nge.symm]; exact he
  have r8 : EnsAt (upd H7 g (.ins L dx (lf b o e))) rsE
      (replN ls rows j rows.length).1 := heE.keep fun a xs h => by
    rw [upd_ne (ne_of h (s7 _ _ g6) nofun)]; exact h
  generalize (upd H7 g (.ins L dx (lf b o e))) = H8 at u8 g8 o8 e8 r8 ⊢
  have b8 : But g H H8 := fun y o' h n => u8 _ _ (s4 _ _ h) n
  have nfog : fo ≠ g := fun z => by rw [z, h1] at nfo; cases nfo
  have npg : pl ≠ g := fun z => by rw [z, h1] at fpl; cases fpl
  have f8 := u8 _ _ f4 nfog
  have p8 := u8 _ _ p4 npg
  have fe : H e = none := by
    cases z : H e with
    | none => rfl
    | some oo => rw [u6 _ _ (s4 _ _ z) nge.symm] at ne; cases ne
  refine ⟨_, rfl, fo, _, rfl, .inl (SqL.of f8), _, rfl, ?_, ?_,
    fun D nD => ?_⟩
  · omega
  · rw [List.length_map]
    omega
  have nDe : D ≠ e := (ne_of_none e8 nD).symm
  have fD : H D = none := by
    cases z : H D with
    | none => rfl
    | some oo =>
      have nDg : D ≠ g := fun w => by rw [w, g8] at nD; cases nD
      rw [b8 _ _ z nDg] at nD; cases nD
  generalize hn : (Int.toNat _) = n
  have hn' : n = rows.length := by
    rw [← hn, List.length_map, lrs]
    omega
  subst hn'
  clear hn
  refine lc_range (lo := 0) (n := rows.length) (fun i H' =>
    H' D = some (.lst (vIs ((List.range i).filter fun a =>
      decide (a ∉ (replN ls rows j rows.length).2)))) ∧ Same H8 H')
    ⟨upd_same, sameNew nD⟩ ?_ ?_
  · rintro i H9 hi ⟨hD, s9⟩
    refine ⟨rfl, _, rfl, _, rfl, pl, _, rfl, .inl (SqL.of (s9 _ _ p8)), rfl,
      flat_I _, _, rfl, ?_⟩
    rw [Int.zero_add, inV_I]
    have hl : ((List.range i).filter fun a =>
        decide (a ∉ (replN ls rows j rows.length).2)).length ≤ i := by
      refine Nat.le_trans (List.length_filter_le _ _) ?_
      rw [List.length_range]
      exact Nat.le_refl _
    by_cases hm : i ∈ (replN ls rows j rows.length).2
    · rw [decide_eq_true hm]
      refine iteF ⟨?_, s9⟩
      rw [hD, List.range_succ, List.filter_append,
        List.filter_cons_of_neg (by simp [hm]), List.filter_nil,
        List.append_nil]
    · rw [decide_eq_false hm]
      refine iteT ⟨_, rfl, _, hD, ?_, ?_, OM.Same.put s9 nD⟩
      · rw [List.length_map]
        exact sz' (by omega)
      · rw [upd_same, List.range_succ, List.filter_append,
          List.filter_cons_of_pos (by simp [hm]), List.filter_nil]
        unfold vIs
        rw [List.map_append]
        rfl
  · rintro H9 ⟨hD, s9⟩
    refine q D e H9 fD fe nDe ?_ hD ?_
    · exact x.swapIn (H2 := H8) h1 (fun y o' h n => s9 _ _ (b8 _ _ h n))
        (s9 _ _ g8) (s9 _ _ o8) (s9 _ _ e8) (r8.same s9) wd' rn'
    · exact fun y o' h n => s9 _ _ (b8 _ _ h n)
end
end OM
namespace OM
open PySem PySem.Spec PyProof.Rows L2
/-! ### the law's own state of a log -/
theorem set_exch {α : Type} : ∀ (xs : List α) (k : Nat) (h : k + 1 < xs.length),
    (xs.set k xs[k + 1]).set (k + 1) xs[k] = exch xs k
  | [], k, h => absurd h (by simp)
  | [x], k, h => absurd h (by simp)
  | x :: y :: r, 0, h => rfl
  | x :: y :: r, k + 1, h => by
    have ih := set_exch (y :: r) k (by simpa using h)
    rw [exch_succ, ← ih]
    rfl
abbrev kI : Key := Sum.inr ("items" : Str)
abbrev kO : Key := Sum.inr ("order" : Str)
abbrev kE : Key := Sum.inr ("entries" : Str)
theorem kIO : ¬ (kI = kO) := by decide +kernel
theorem kIE : ¬ (kI = kE) := by decide +kernel
theorem kOE : ¬ (kO = kE) := by decide +kernel
def st3 (it od en : Addr) : List (Key × V) :=
  [(kI, .ref it), (kO, .ref od), (kE, .ref en)]
theorem st3_I (it od en : Addr) : valV (st3 it od en) kI = some (.ref it) :=
  valV_pos rfl
theorem st3_O (it od en : Addr) : valV (st3 it od en) kO = some (.ref od) :=
  (valV_neg kIO).trans (valV_pos rfl)
theorem st3_E (it od en : Addr) : valV (st3 it od en) kE = some (.ref en) :=
  (valV_neg kIE).trans ((valV_neg kOE).trans (valV_pos rfl))
theorem put_E (it od en en' : Addr) :
    putK (st3 it od en) kE (.ref en') = st3 it od en' := by
  unfold putK
  rw [valV_any, st3_E, if_pos (show (some (V.ref en)).isSome = true from rfl)]
  unfold st3
  rw [List.map_cons, List.map_cons, List.map_cons, if_neg kIE, if_neg kOE,
    if_pos rfl]
  rfl
theorem put_O (it od en od' : Addr) :
    putK (st3 it od en) kO (.ref od') = st3 it od' en := by
  unfold putK
  rw [valV_any, st3_O, if_pos (show (some (V.ref od)).isSome = true from rfl)]
  unfold st3
  rw [List.map_cons, List.map_cons, List.map_cons, if_neg kIO, if_pos rfl,
    if_neg (fun z => kOE z.symm)]
  rfl
theorem merge3 (it od en : Addr) : mergeK [] [(kI, V.ref it), (kO, .ref od),
    (kE, .ref en)] = st3 it od en := by
  unfold mergeK
  rw [List.foldl_cons, List.foldl_cons, List.foldl_cons, List.foldl_nil]
  rw [putK_new _ (rfl : valV ([] : List (Key × V)) kI = none), List.nil_append,
    putK_new _ (show valV [(kI, V.ref it)] kO = none from
      (valV_neg kIO).trans rfl),
    putK_new _ (show valV ([(kI, V.ref it)] ++ [(kO, V.ref od)]) kE = none from
      (valV_neg kIE).trans ((valV_neg kOE).trans rfl))]
  rfl
/-- the state at s: items, order, entries -/
structure StAt (H : Hp) (s it en : Addr) (ls : List (List Nat))
    (rows : List En) : Prop where
  ob : ∃ od rs, H s = some (.dK (st3 it od en)) ∧
    H it = some (.lst (ls.map vS)) ∧
    H od = some (.lst ((run ls (ixs rows)).map vS)) ∧
    H en = some (.lst (rs.map V.ref)) ∧ EnsAt H rs rows
theorem StAt.same {H H' : Hp} {s it en : Addr} {ls : List (List Nat)}
    {rows : List En} (x : StAt H s it en ls rows) (z : Same H H') :
    StAt H' s it en ls rows := by
  obtain ⟨od, rs, h1, h2, h3, h4, h5⟩ := x.ob
  exact ⟨od, rs, z _ _ h1, z _ _ h2, z _ _ h3, z _ _ h4, h5.same z⟩
/-- what entries may be -/
structure Rw (ls : List (List Nat)) (rows : List En) : Prop where
  good : Good ls
  wd : Wd ls ls (ixs rows)
  rn : ∀ e ∈ rows, Rsn e.2
theorem LogAt.rw {C L g ro b : Addr} {H : Hp} {ls : List (List Nat)}
    {rows : List En} (x : LogAt C L H g ro b ls rows) : Rw ls rows :=
  ⟨x.good, x.wd, x.rn⟩
section
variable {ls : List (List Nat)} {rows : List En} {i : Nat} {r : List Nat}
theorem Rw.rep (x : Rw ls rows) :
    Rep ls (run ls (ixs rows)) (prsOf ls (ixs rows)) := by
  have := (Rep.nil x.good.nd).word ⟨x.good.nd, List.Perm.refl _⟩ x.wd
  rw [List.nil_append] at this
  exact this
theorem Rw.of (x : Rw ls rows) : Of ls (run ls (ixs rows)) :=
  Of.run _ ⟨x.good.nd, List.Perm.refl _⟩
theorem Rw.many (x : Rw ls rows) : rows.length ≤ 1600 := by
  have := x.rep.len (rep_inv x.good.nd)
  rw [prsOf_len, List.length_map] at this
  rw [this]
  exact x.good.many _ (Nat.le_refl _)
theorem Rw.sme (x : Rw ls rows) : SmE rows := fun e he => by
  have h1 := x.wd.ixs e.1 (List.mem_map_of_mem he)
  have h2 := x.good.hi
  have h3 := x.rn e he
  exact ⟨by omega, h3.len, h3.uni⟩
theorem Rw.canMem (x : Rw ls rows) (hi : i + 1 < ls.length)
    (ob : outB ls (run ls (ixs rows)) i = false) :
    ((run ls (ixs rows)).getD (i + 1) [], (run ls (ixs rows)).getD i []) ∈
      prsOf ls (ixs rows) :=
  (x.rep.inn x.of (by rw [run_len]; exact hi) ob).1
theorem Rw.canLt (x : Rw ls rows) (hi : i + 1 < ls.length)
    (ob : outB ls (run ls (ixs rows)) i = false) :
    canJ ls (ixs rows) i < rows.length := by
  have := List.idxOf_lt_length_of_mem (x.canMem hi ob)
  rw [prsOf_len, List.length_map] at this
  exact this
theorem Rw.step (x : Rw ls rows) (hi : i + 1 < ls.length) (hr : Rsn r) :
    Rw ls (rowsS ls rows i r) ∧
      run ls (ixs (rowsS ls rows i r)) = exch (run ls (ixs rows)) i := by
  have key : Wd ls ls (ixs (rowsS ls rows i r)) ∧
      run ls (ixs (rowsS ls rows i r)) = exch (run ls (ixs rows)) i := by
    unfold rowsS
    cases ob : outB ls (run ls (ixs rows)) i with
    | true =>
      rw [if_pos rfl]
      have e : ixs (rows ++ [(i, r)]) = ixs rows ++ [i] := List.map_append
      rw [e]
      exact ⟨x.wd.snoc hi ob, run_snoc _ _ _⟩
    | false =>
      rw [if_neg nofun, ixs_erase]
      have m := x.canMem hi ob
      have il := List.idxOf_lt_length_of_mem m
      refine cancel x.good.nd x.wd hi ob ?_
      unfold canJ
      rw [List.getElem?_eq_getElem il, List.getElem_idxOf il]
  refine ⟨⟨x.good, key.1, ?_⟩, key.2⟩
  unfold rowsS
  intro e he
  split at he
  · rcases List.mem_append.mp he with h | h
    · exact x.rn e h
    · rw [List.mem_singleton.mp h]
      exact hr
  · exact x.rn e (List.mem_of_mem_eraseIdx he)
end
def spSwEnt : Sp := fun vs H Q _ =>
  ∃ (it en od : Addr) (ls : List (List Nat)) (rows : List En)
    (rs : List Addr) (i : Nat) (r : List Nat),
  vs = [.ref it, .ref en, .ref od, .int i, vS r] ∧ Rw ls rows ∧
  H it = some (.lst (ls.map vS)) ∧ H en = some (.lst (rs.map V.ref)) ∧
  EnsAt H rs rows ∧ H od = some (.lst ((run ls (ixs rows)).map vS)) ∧
  i + 1 < ls.length ∧ ∀ t n rs' H', H n = none →
    H' t = some (.tup [.ref n, ansS ls rows i]) →
    H' n = some (.lst (rs'.map V.ref)) → EnsAt H' rs' (rowsS ls rows i r) →
    Same H H' → Q (.ref t) H'
def spBegun : Sp := fun vs H Q _ =>
  ∃ (it : Addr) (ls : List (List Nat)), vs = [.ref it] ∧
  H it = some (.lst (ls.map vS)) ∧ ls.length ≤ 1000 ∧ ∀ s en H', H s = none →
    H en = none → StAt H' s it en ls [] → Same H H' → Q (.ref s) H'
def spDone : Sp := fun vs H Q _ =>
  ∃ (s it en : Addr) (ls : List (List Nat)) (rows : List En) (i : Nat)
    (r : List Nat), vs = [.ref s, .int i, vS r] ∧ Rw ls rows ∧
  StAt H s it en ls rows ∧ i + 1 < ls.length ∧ Rsn r ∧
  ∀ en' H', H en' = none → StAt H' s it en' ls (rowsS ls rows i r) →
    But s H H' → Q (ansS ls rows i) H'
end OM
namespace OM
open PySem PySem.Spec PyProof.Rows L2
section
variable {P : Program} {w : World} {K : PySem.W.Frag}
  {mg : Str → Option Value} {base : Heap}
theorem ok_swent {f : Addr} {fd : FuncData} {k : Nat}
    (F : Fun K "_law_swapped_entries" "_law_swapped_entries"
      s_Lswapped_entries f fd) (B : Bl mg) :
    FnOk P w K mg base CX0 (k + 1) f fd ["_law_items", "_law_entries",
      "_law_order", "_law_index", "_law_label"] spSwEnt := by
  refine F.ok sc_Lswapped_entries (fun vs H Q E h => ?_)
    (fun cv A outer s H vs Q E hr h => ?_)
  · obtain ⟨it, en, od, ls, rows, rs, i, r, rfl, _⟩ := h
    rfl
  obtain ⟨it, en, od, ls, rows, rs, i, r, rfl, x, hit, hen, hes, hod, hi, q⟩ :=
    h
  have nd := sc_Lswapped_entries.nd
  refine ⟨_, C8.pss_cut (ps_par (i := 5) (j := 6) (by rfl) nd rfl rfl
      (by decide) rfl rfl
      (pa_cons (pe_ix ix_list (pv 2) (pv 3) (fun _ _ => rfl))
        (pa_cons (pe_ix ix_list (pv 2) (pe_op op_add (pv 3) pe_int)
          (fun _ _ => rfl)) pa_nil)) (by rfl))
    (pss_cons (ps_if (pt_cmpR op_lt
        (pe_bm PySem.F.plainAttrs_list PySem.F.slot_list_index
          PySem.F.type_list_index mt_index (pv 0) (pa_cons (pv 5) pa_nil))
        (pe_bm PySem.F.plainAttrs_list PySem.F.slot_list_index
          PySem.F.type_list_index mt_index (pv 0) (pa_cons (pv 6) pa_nil))
        (nomark _))
      (pss_one (ps_ret (pe_tup (pa_cons (pe_op op_cat (pv 1)
        (pe_lst (pa_cons (pe_tup (pa_cons (pv 3) (pa_cons (pv 4) pa_nil)))
          pa_nil))) (pa_cons pe_non pa_nil))))) pss_nil)
    (pss_cons (ps_set (i := 7) nd rfl (.inl rfl)
      (pe_callTy call_list_of (by rfl) B.list bt_list (pa_cons (pv 0) pa_nil)))
    (pss_cons (ps_for PassesOwn.never rfl
      (pi_enum (by rfl) B.enum (pa_cons (pv 1) pa_nil))
      (pg_tup rfl (pgs_cons (pg_name (i := 8) nd rfl (.inl rfl))
        (pgs_cons (pg_name (i := 9) nd rfl (.inl rfl)) pgs_nil)))
      (pss_cons (ps_set (i := 10) nd rfl (.inl rfl)
        (pe_ix ix_tup (pv 9) pe_int (fun _ _ => rfl)))
      (pss_cons (ps_if (pt_cmpR (op_eqD hr.units)
          (pe_tup (pa_cons (pe_ix ix_list (pv 7) (pv 10) (fun _ _ => rfl))
            (pa_cons (pe_ix ix_list (pv 7) (pe_op op_add (pv 10) pe_int)
              (fun _ _ => rfl)) pa_nil)))
          (pe_tup (pa_cons (pv 6) (pa_cons (pv 5) pa_nil))) (nomark _))
        (pss_one (ps_ret (pe_tup (pa_cons (pe_op op_cat
          (pe_slice sl_list (pv 1) po_none (po_some (pv 8)))
          (pe_slice sl_list (pv 1) (po_some (pe_op op_add (pv 8) pe_int))
            po_none)) (pa_cons (pv 8) pa_nil))))) pss_nil)
      (pss_one (ps_asg (pe_tup (pa_cons
          (pe_ix ix_list (pv 7) (pe_op op_add (pv 10) pe_int) (fun _ _ => rfl))
          (pa_cons (pe_ix ix_list (pv 7) (pv 10) (fun _ _ => rfl)) pa_nil)))
        (pg_tup rfl (pgs_cons (pg_sub (pv 7) (pv 10) set_list)
          (pgs_cons (pg_sub (pv 7) (pe_op op_add (pv 10) pe_int) set_list)
            pgs_nil))))))))
    (pss_one ps_never)))), ?_⟩
  have ol : (run ls (ixs rows)).length = ls.length := run_len _ _
  have hi' : i + 1 < (run ls (ixs rows)).length := by omega
  have gL := getD_map vS [] (show i < (run ls (ixs rows)).length by omega)
  have gR := getD_map vS [] hi'
  have mL := x.of.m0 hi'
  have mR := x.of.m1 hi'
  have eo := @out_lt ls (run ls (ixs rows)) i
  have ei := in_lt x.of hi'
  have cm := x.canMem (i := i) hi
  have ecj : canJ ls (ixs rows) i = (prsOf ls (ixs rows)).idxOf
    ((run ls (ixs rows)).getD (i + 1) [], (run ls (ixs rows)).getD i []) := rfl
  have many := x.many
  have lrs := hes.len
  have h40 := x.good.hi
  generalize (run ls (ixs rows)).getD i [] = l at gL mL eo ei cm ecj
  generalize (run ls (ixs rows)).getD (i + 1) [] = m at gR mR eo ei cm ecj
  -- the two items
  refine ⟨fun σ' H' => σ' = [some (.ref it), some (.ref en), some (.ref od),
    some (.int i), some (vS r), some (vS l), some (vS m), none, none, none,
    none] ∧ H = H', ?_, ?_⟩
  · exact ⟨_, rfl, _, rfl, od, _, _, _, rfl, rfl, SqL.of hod,
      atI_nat (j := i) gL, _, rfl, _, rfl, _, _, rfl, rfl, od, _, _, _, rfl,
      rfl, SqL.of hod, atI_nat (j := i + 1) gR, _, _, rfl, rfl, rfl⟩
  rintro _ _ ⟨rfl, rfl⟩
  have hL := SqL.of (K := K) hit
  refine ⟨_, rfl, .inl ⟨rfl, _, hL⟩, _, rfl, it, _, _, ls.idxOf l, vS l, rfl,
    rfl, hL, rfl, flat_S ls, idx_get mL, eqV_self l, idx_first, _, rfl,
    .inl ⟨rfl, _, hL⟩, _, rfl, it, _, _, ls.idxOf m, vS m, rfl, rfl,
    hL, rfl, flat_S ls, idx_get mR, eqV_self m, idx_first, _, _, rfl, rfl, _,
    rfl, ite2 (fun c => ?_) (fun c => ?_)⟩
  · have c' : ls.idxOf l < ls.idxOf m := by
      have : ((ls.idxOf l : Nat) : Int) < ((ls.idxOf m : Nat) : Int) :=
        of_decide_eq_true c
      omega
    have ob := eo.mpr c'
    have ea : ansS ls rows i = .non := by
      unfold ansS
      rw [ob, if_pos rfl]
    have er : rowsS ls rows i r = rows ++ [(i, r)] := by
      unfold rowsS
      rw [ob, if_pos rfl]
    rw [ea, er] at q
    refine ⟨_, rfl, _, rfl, _, rfl, sz (by simp), fun t nt => ?_⟩
    have s4 : Same H (upd H t (.tup [.int i, vS r])) := sameNew nt
    have ht : (upd H t (.tup [.int i, vS r])) t =
      some (.tup [.int i, vS r]) := upd_same
    generalize (upd H t (.tup [.int i, vS r])) = H4 at s4 ht ⊢
    refine ⟨sz (by simp), fun u nu => ?_⟩
    have s5 : Same H4 (upd H4 u (.lst [.ref t])) := sameNew nu
    have hu : (upd H4 u (.lst [.ref t])) u = some (.lst [.ref t]) := upd_same
    generalize (upd H4 u (.lst [.ref t])) = H5 at s5 hu ⊢
    refine ⟨en, u, _, _, rfl, rfl, s5 _ _ (s4 _ _ hen), hu, ?_,
      fun ex nex => ?_⟩
    · rw [List.length_map]
      exact sz (by simp; omega)
    have s6 : Same H5 (upd H5 ex (.lst (rs.map V.ref ++ [.ref t]))) :=
      sameNew nex
    have h6 : (upd H5 ex (.lst (rs.map V.ref ++ [.ref t]))) ex =
      some (.lst (rs.map V.ref ++ [.ref t])) := upd_same
    generalize (upd H5 ex (.lst (rs.map V.ref ++ [.ref t]))) = H6 at s6 h6 ⊢
    refine ⟨sz (by simp), fun t7 n7 => ?_⟩
    have s46 := (s4.trans s5).trans s6
    refine q t7 ex (rs ++ [t]) _ ((s4.trans s5).free nex) upd_same ?_ ?_
      (s46.trans (sameNew n7))
    · rw [List.map_append]
      exact sameNew n7 _ _ h6
    · exact (((hes.same s4).snoc (e := (i, r)) ht).same
        (s5.trans s6)).same (sameNew n7)
  · have ob : outB ls (run ls (ixs rows)) i = false := by
      cases z : outB ls (run ls (ixs rows)) i with
      | false => rfl
      | true =>
        have := eo.mp z
        exact absurd (decide_eq_true (show ((ls.idxOf l : Nat) : Int) <
          ((ls.idxOf m : Nat) : Int) by omega)) c
    have ea : ansS ls rows i = .int ((canJ ls (ixs rows) i : Nat) : Int) := by
      unfold ansS
      rw [ob, if_neg nofun]
    have er : rowsS ls rows i r = rows.eraseIdx (canJ ls (ixs rows) i) := by
      unfold rowsS
      rw [ob, if_neg nofun]
    have cl := x.canLt hi ob
    have pm := cm ob
    rw [ea, er] at q
    have cj : ∀ j, (prsOf ls (ixs rows))[j]? = some (m, l) →
        canJ ls (ixs rows) i = j := fun j h => by
      rw [ecj]; exact idx_of x.rep.nd h
    have cg : (prsOf ls (ixs rows))[canJ ls (ixs rows) i]? = some (m, l) := by
      have il := List.idxOf_lt_length_of_mem pm
      rw [ecj, List.getElem?_eq_getElem il, List.getElem_idxOf il]
    generalize canJ ls (ixs rows) i = c at cl q cj cg
    clear ea er
    refine ⟨_, rfl, it, _, rfl, .inl hL, fun nw nnw => ?_⟩
    have s1 : Same H (upd H nw (.lst (ls.map vS))) := sameNew nnw
    have h1 : (upd H nw (.lst (ls.map vS))) nw = some (.lst (ls.map vS)) :=
      upd_same
    generalize (upd H nw (.lst (ls.map vS))) = H1 at s1 h1 ⊢
    refine ⟨_, rfl, en, _, rfl, SqL.of (s1 _ _ hen), ?_⟩
    refine for_it (walk_enum (K := K) (a := en) (xs := rs.map V.ref))
      (fun j σ H' => ∃ y8 y9 y10, σ = [some (.ref it), some (.ref en),
        some (.ref od), some (.int i), some (vS r), some (vS l), some (vS m),
        some (.ref nw), y8, y9, y10] ∧
        H' nw = some (.lst ((run ls (ixs (rows.take j))).map vS)) ∧ j ≤ c ∧
        Same H H')
      ⟨none, none, none, rfl, h1, Nat.zero_le _, s1⟩
      (fun j σ H' _ z => by
        obtain ⟨_, _, _, _, _, _, s⟩ := z
        exact SqL.of (s _ _ hen)) ?_ ?_
    · rintro j v σ H4 H5 hj ⟨y8, y9, y10, rfl, w4, jc, s4⟩
        ⟨T', x1', x2', rfl, nT, rfl, c1, c2⟩
      have c2 : (rs.map V.ref)[j]? = some x2' := c2
      rw [List.getElem?_map] at c2
      rw [List.length_map] at hj
      have hj' : j < rows.length := by omega
      have gi : rows[j]? = some rows[j] := List.getElem?_eq_getElem hj'
      obtain ⟨e, er, ht⟩ := (hes.same s4).get gi
      rw [er] at c2
      cases Option.some.inj c2
      cases Option.some.inj c1
      have s5 : Same H4 (upd H4 T' (.tup [.int (j : Nat), .ref e])) :=
        sameNew nT
      have hT : (upd H4 T' (.tup [.int (j : Nat), .ref e])) T' =
        some (.tup [.int (j : Nat), .ref e]) := upd_same
      generalize (upd H4 T' (.tup [.int (j : Nat), .ref e])) = H5 at s5 hT ⊢
      have w5 := s5 _ _ w4
      have hx := x.wd.ixs _ (List.mem_map_of_mem (f := (·.1))
        (List.getElem_mem hj'))
      have tk : ixs (rows.take (j + 1)) = ixs (rows.take j) ++ [rows[j].1] := by
        rw [List.take_add_one, gi]
        exact List.map_append
      have pj : (prsOf ls (ixs rows))[j]? =
          some (nbr (run ls (ixs (rows.take j))) rows[j].1) := by
        have sp : ixs rows = ixs (rows.take j) ++ rows[j].1 ::
            ixs (rows.drop (j + 1)) := by
          have : rows = rows.take j ++ rows[j] :: rows.drop (j + 1) := by
            rw [← List.drop_eq_getElem_cons hj', List.take_append_drop]
          have e2 := congrArg ixs this
          rw [e2]
          unfold ixs
          rw [List.map_append, List.map_cons]
        have lt : (ixs (rows.take j)).length = j := by
          rw [List.length_map, List.length_take]; omega
        have := prsOf_get (ixs (rows.take j)) rows[j].1
          (ixs (rows.drop (j + 1))) ls
        rw [← sp, lt] at this
        exact this
      have ols : (run ls (ixs (rows.take j))).length = ls.length := run_len _ _
      have r1 : run ls (ixs (rows.take (j + 1))) =
          exch (run ls (ixs (rows.take j))) rows[j].1 := by
        rw [tk, run_snoc]
      rw [r1]
      have mm : ∀ y ∈ run ls (ixs (rows.take j)), y ∈ ls := fun y hy =>
        (Of.run (ixs (rows.take j)) ⟨x.good.nd, List.Perm.refl _⟩).pm.mem_iff.mp
          hy
      generalize run ls (ixs (rows.take j)) = os at w4 w5 pj ols mm ⊢
      have ht : H4 e = some (.tup [.int (rows[j].1 : Int), vS rows[j].2]) := ht
      generalize hp : rows[j].1 = a at hx pj ht ⊢
      have g0 := getD_map vS [] (show a < os.length by omega)
      have g1 := getD_map vS [] (show a + 1 < os.length by omega)
      have m0 := mm _ (getD_mem [] (show a < os.length by omega))
      have m1 := mm _ (getD_mem [] (show a + 1 < os.length by omega))
      have hS := SqL.of (K := K) w5
      refine ⟨T', _, rfl, .inl (.inl hT), rfl, _, _, rfl, _, _, rfl, rfl, ?_⟩
      refine ⟨_, rfl, e, _, 0, _, rfl, rfl, .inl (.inl (s5 _ _ ht)),
        atI_nat (j := 0) rfl, ?_⟩
      have u0 := (x.good.nm _ m0).uni
      have u1 := (x.good.nm _ m1).uni
      refine ⟨_, rfl, _, rfl, nw, _, _, _, rfl, rfl, hS, atI_nat (j := a) g0, _,
        rfl, _, rfl, _, _, rfl, rfl, nw, _, _, _, rfl, rfl, hS,
        atI_nat (j := a + 1) g1, sz (by simp), fun t1 n1 => ?_⟩
      have s6 : Same H5 (upd H5 t1 (.tup (vT (os.getD a [],
        os.getD (a + 1) [])))) := sameNew n1
      have h6 : (upd H5 t1 (.tup (vT (os.getD a [], os.getD (a + 1) [])))) t1 =
        some (.tup (vT (os.getD a [], os.getD (a + 1) []))) := upd_same
      generalize (upd H5 t1 (.tup (vT (os.getD a [], os.getD (a + 1) [])))) = H6
        at s6 h6 ⊢
      refine ⟨_, rfl, _, rfl, sz (by simp), fun t2 n2 => ?_⟩
      have s7 : Same H6 (upd H6 t2 (.tup (vT (m, l)))) := sameNew n2
      have h7 : (upd H6 t2 (.tup (vT (m, l)))) t2 =
        some (.tup (vT (m, l))) := upd_same
      generalize (upd H6 t2 (.tup (vT (m, l)))) = H7 at s7 h7 ⊢
      refine ⟨_, _, dp_T (s7 _ _ h6), dp_T h7, shaped_T u0 u1,
        shaped_T (x.good.nm m mR).uni (x.good.nm l mL).uni, _, rfl, ?_⟩
      rw [eqv_T]
      have s57 := (s5.trans s6).trans s7
      have sH := s4.trans s57
      by_cases d : (os.getD a [], os.getD (a + 1) []) = (m, l)
      · rw [decide_eq_true d]
        refine iteT ?_
        have ec : c = j := cj j (by rw [pj]; exact congrArg some d)
        subst ec
        have hE := SqL.of (K := K) (sH _ _ hen)
        refine ⟨_, rfl, _, rfl, c, rfl, en, _, rfl, hE, fun p1 n3 => ?_⟩
        rw [cut_to _ (by rw [List.length_map]; omega), ← List.map_take]
        have s8 : Same H7 (upd H7 p1 (.lst ((rs.take c).map V.ref))) :=
          sameNew n3
        have h8 : (upd H7 p1 (.lst ((rs.take c).map V.ref))) p1 =
          some (.lst ((rs.take c).map V.ref)) := upd_same
        generalize upd H7 p1 (.lst ((rs.take c).map V.ref)) = H8 at s8 h8 ⊢
        refine ⟨_, rfl, _, rfl, _, _, rfl, rfl, _, rfl, en, _, rfl, s8.seq hE,
          fun p2 n4 => ?_⟩
        rw [show (c : Int) + 1 = ((c + 1 : Nat) : Int) by omega,
          cut_from _ (by rw [List.length_map]; omega), ← List.map_drop]
        have s9 : Same H8 (upd H8 p2 (.lst ((rs.drop (c + 1)).map V.ref))) :=
          sameNew n4
        have h9 : (upd H8 p2 (.lst ((rs.drop (c + 1)).map V.ref))) p2 =
          some (.lst ((rs.drop (c + 1)).map V.ref)) := upd_same
        generalize upd H8 p2 (.lst ((rs.drop (c + 1)).map V.ref)) = H9
          at s9 h9 ⊢
        refine ⟨p1, p2, _, _, rfl, rfl, s9 _ _ h8, h9, ?_, fun p3 n5 => ?_⟩
        · rw [List.length_map, List.length_map, List.length_take,
            List.length_drop]
          exact sz (by omega)
        have s10 : Same H9 (upd H9 p3 (.lst ((rs.take c).map V.ref ++
          (rs.drop (c + 1)).map V.ref))) := sameNew n5
        have h10 : (upd H9 p3 (.lst ((rs.take c).map V.ref ++
          (rs.drop (c + 1)).map V.ref))) p3 = some (.lst ((rs.take c).map V.ref
          ++ (rs.drop (c + 1)).map V.ref)) := upd_same
        generalize (upd H9 p3 (.lst ((rs.take c).map V.ref ++
          (rs.drop (c + 1)).map V.ref))) = H10 at s10 h10 ⊢
        refine ⟨_, rfl, sz (by simp), fun t3 n6 => ?_⟩
        have s9' := (sH.trans s8).trans s9
        have s11 := (s9'.trans s10).trans (sameNew
          (o := .tup [.ref p3, .int (c : Nat)]) n6)
        refine q t3 p3 (rs.take c ++ rs.drop (c + 1)) _ (s9'.free n5) upd_same
          ?_ ?_ s11
        · rw [List.map_append]
          exact sameNew n6 _ _ h10
        · rw [List.eraseIdx_eq_take_drop_succ]
          exact EnsAt.app ((hes.drop (c + 1)).same s11)
            ((hes.take c).same s11)
      · rw [decide_eq_false d]
        refine iteF ?_
        have nj : c ≠ j := fun z => d (by
          have cg' := cg
          rw [z, pj] at cg'
          exact Option.some.inj cg')
        have w7 := s57 _ _ w4
        have hS7 := SqL.of (K := K) w7
        have ha1 : a + 1 < (os.map vS).length := by rw [List.length_map]; omega
        refine ⟨_, rfl, _, rfl, _, _, rfl, rfl, nw, _, _, (os.map vS)[a + 1],
          rfl, rfl, hS7, atI_nat (j := a + 1) (List.getElem?_eq_getElem ha1), _,
          rfl, _, rfl, nw, _, _, (os.map vS)[a], rfl, rfl, hS7,
          atI_nat (j := a) (List.getElem?_eq_getElem (by omega)), sz (by simp),
          fun t3 n3 => ?_⟩
        have ntr : nw ≠ t3 := ne_of_none w7 n3
        have h8 : (upd H7 t3 (.tup [(os.map vS)[a + 1], (os.map vS)[a]])) nw =
            some (.lst (os.map vS)) := by
          rw [upd_ne ntr]; exact w7
        refine ⟨t3, _, rfl, .inl (.inl upd_same), rfl, _, _, rfl, _, rfl, _,
          rfl, nw, _, a, a, rfl, rfl, h8, ?_, _, _, rfl, _, rfl, _, rfl, _,
          _, rfl, rfl, nw, _, a + 1, a + 1, rfl, rfl, upd_same, ?_, rfl, ?_⟩
        · unfold ixN
          rw [if_pos (by omega), if_pos (by omega), Int.toNat_natCast]
        · unfold ixN
          rw [List.length_set, if_pos (by omega), if_pos (by omega)]
          rfl
        refine ⟨_, _, _, rfl, ?_, by omega, ?_⟩
        · rw [upd_same, set_exch _ _ ha1, exch_map]
        · exact OM.Same.put (OM.Same.put ((sH).trans (sameNew n3)) nnw) nnw
    · rintro σ H4 ⟨y8, y9, y10, rfl, w4, jc, s4⟩
      rw [List.length_map] at jc
      omega
end
end OM
namespace OM
open PySem PySem.Spec PyProof.Rows L2
theorem sum_piled (ts : List Str) :
    (ts.map (·.length)).sum + 2 * ts.length = piled ts := by
  induction ts with
  | nil => rfl
  | cons t ts ih =>
    rw [piled_cons, List.map_cons, List.sum_cons, List.length_cons]
    omega
theorem shownN_le {ls : List (List Nat)} (g : Good ls) :
    (PyData.list (dN ls)).shown.length ≤ 4000 := by
  have e : (PyData.list (dN ls)).shown =
      listText (PyData.shownAll (dN ls)) := by simp only [PyData.shown]
  have p := piled_N ls 8 fun l h => ⟨(g.nm l h).hi, (g.nm l h).uni⟩
  have q := listText_len_le (PyData.shownAll (dN ls))
  rw [e]
  have r := sum_piled (PyData.shownAll (dN ls))
  have s : ls.length * (10 * 8 + 4) ≤ 40 * 84 :=
    Nat.mul_le_mul g.hi (Nat.le_refl _)
  omega
theorem shownE_le {rows : List En} (h : SmE rows) (hn : rows.length ≤ 1600) :
    (PyData.list (dEs rows)).shown.length ≤ 400000 := by
  have e : (PyData.list (dEs rows)).shown =
      listText (PyData.shownAll (dEs rows)) := by simp only [PyData.shown]
  have p := shown_EA rows h
  have q := listText_len_le (PyData.shownAll (dEs rows))
  rw [e]
  have r := sum_piled (PyData.shownAll (dEs rows))
  omega
theorem int1601 : ∀ i : Fin 1601, (PyData.int (i.val : Int)).showable = true ∧
    (PyData.int (i.val : Int)).shown.length ≤ 5 := by decide +kernel
/-- what a swap returns, as data -/
def ansD (ls : List (List Nat)) (rows : List En) (i : Nat) : PyData :=
  if outB ls (run ls (ixs rows)) i = true then .none
  else .int ((canJ ls (ixs rows) i : Nat) : Int)
theorem dp_ans {K : PySem.W.Frag} {H : Hp} {ls : List (List Nat)}
    {rows : List En} {i : Nat} : Dp K H (ansS ls rows i) (ansD ls rows i) := by
  unfold ansS ansD
  split
  · exact .non
  · exact .int _
theorem ans_ok {ls : List (List Nat)} {rows : List En} {i : Nat}
    (x : Rw ls rows) (hi : i + 1 < ls.length) :
    (ansD ls rows i).showable = true ∧ (ansD ls rows i).depth ≤ 60 ∧
      (ansD ls rows i).shown.length ≤ sizeLine := by
  unfold ansD
  cases ob : outB ls (run ls (ixs rows)) i with
  | true => rw [if_pos rfl]; decide +kernel
  | false =>
    rw [if_neg nofun]
    have cl := x.canLt hi ob
    have m := x.many
    obtain ⟨a, b⟩ := int1601 ⟨canJ ls (ixs rows) i, by omega⟩
    refine ⟨a, ?_, Nat.le_trans b (by decide)⟩
    simp only [PyData.depth]
    omega
section
variable {C L g ro b s it en p q : Addr} {H H' : Hp} {ls : List (List Nat)}
  {rows : List En}
theorem neRngR' {rs : List Addr} (r : Rng H p)
    (h : H q = some (.lst (rs.map V.ref))) : q ≠ p := by
  obtain ⟨a, b, e, _⟩ := r
  refine ne_of h e fun z => ?_
  have z' := HO.lst.inj z
  cases rs with
  | nil => cases z'
  | cons l r =>
    rw [List.map_cons] at z'
    cases (List.cons.inj z').1
theorem StAt.but (x : StAt H s it en ls rows) (r : Rng H p) (z : But p H H') :
    StAt H' s it en ls rows := by
  obtain ⟨od, rs, h1, h2, h3, h4, h5⟩ := x.ob
  have n2 := neRng r h2
  have n3 := neRng r h3
  have n4 := neRngR' r h4
  obtain ⟨i, j, e, _⟩ := r
  exact ⟨od, rs, z _ _ h1 (ne_of h1 e nofun), z _ _ h2 n2, z _ _ h3 n3,
    z _ _ h4 n4, h5.keep fun a xs h => z _ _ h (ne_of h e nofun)⟩
theorem StAt.but2 (x : StAt H s it en ls rows) {ms : List (List Nat)}
    {rows' : List En} (y : LogAt C L H g ro b ms rows') (ne : ls ≠ [])
    (n : en ≠ ro) (z : But2 g ro H H') : StAt H' s it en ls rows := by
  obtain ⟨od, rs, h1, h2, h3, h4, h5⟩ := x.ob
  obtain ⟨dx, cu, rs', k1, k2, k3, k4⟩ := y.ob
  have o2 := y.nms h2 ne
  have o3 := y.nms h3 (run_ne _ ne)
  exact ⟨od, rs, z _ _ h1 (ne_of h1 k1 nofun) (ne_of h1 k3 nofun),
    z _ _ h2 o2.g o2.ro, z _ _ h3 o3.g o3.ro,
    z _ _ h4 (ne_of h4 k1 nofun) n, y.ents z h5⟩
/-- a log stays where the law's state changes -/
theorem LogAt.butS (y : LogAt C L H g ro b ls rows) {od : Addr}
    (h : H s = some (.dK (st3 it od en))) (z : But s H H') :
    LogAt C L H' g ro b ls rows := by
  obtain ⟨dx, cu, rs, h1, h2, h3, h4⟩ := y.ob
  obtain ⟨dy, lo, d, z1, z2, z3⟩ := y.ba.ob
  refine ⟨⟨dx, cu, rs, z _ _ h1 (ne_of h1 h nofun), z _ _ h2 (ne_of h2 h nofun),
    z _ _ h3 (ne_of h3 h nofun),
    h4.keep fun a xs e => z _ _ e (ne_of e h nofun)⟩,
    ⟨dy, lo, d, z _ _ z1 (ne_of z1 h nofun), z _ _ z2 (ne_of z2 h nofun),
      z _ _ z3 (ne_of z3 h fun w => ?_)⟩, y.good, y.wd, y.rn⟩
  have w' := HO.dK.inj w
  have ne := y.good.ne
  cases ls with
  | nil => exact ne rfl
  | cons l r =>
    have w2 : (Sum.inr (SX.S l), V.int ((0 : Nat) : Int)) =
        ((kI : Key), V.ref it) := (List.cons.inj w').1
    exact absurd (congrArg Prod.snd w2) nofun
theorem Rng.butS (r : Rng H p) {od : Addr}
    (h : H s = some (.dK (st3 it od en))) (z : But s H H') : Rng H' p := by
  obtain ⟨i, j, e, w⟩ := r
  exact ⟨i, j, z _ _ e (ne_of e h nofun), w⟩
end
/-- a log and the law's state of it -/
structure Bth (C L : Addr) (H : Hp) (g ro b s it en : Addr)
    (ls : List (List Nat)) (rows : List En) : Prop where
  lg : LogAt C L H g ro b ls rows
  st : StAt H s it en ls rows
  ne : en ≠ ro
/-- all but four places are as they were -/
def But4 (p g ro s : Addr) (H H' : Hp) : Prop :=
  ∀ q o, H q = some o → q ≠ p → q ≠ g → q ≠ ro → q ≠ s → H' q = some o
def spSwapd (C L : Addr) : Sp := fun vs H Q _ =>
  ∃ (p g ro b s it en : Addr) (ls : List (List Nat)) (rows : List En),
  vs = [.ref p, .ref g, .ref s] ∧ Rng H p ∧ Bth C L H g ro b s it en ls rows ∧
  2 ≤ ls.length ∧ ∀ rows' en' H', Bth C L H' g ro b s it en' ls rows' →
    Rng H' p → But4 p g ro s H H' → Q (.bl true) H'
def spIs (C L : Addr) : Sp := fun vs H Q _ =>
  ∃ (g ro b s it en : Addr) (ls : List (List Nat)) (rows : List En),
  vs = [.ref g, .ref s] ∧ Bth C L H g ro b s it en ls rows ∧
  ∀ H', Same H H' → Q (.bl true) H'
theorem Bth.same {C L g ro b s it en : Addr} {H H' : Hp}
    {ls : List (List Nat)} {rows : List En}
    (x : Bth C L H g ro b s it en ls rows) (z : Same H H') :
    Bth C L H' g ro b s it en ls rows := ⟨x.lg.same z, x.st.same z, x.ne⟩
theorem Bth.but {C L g ro b s it en p : Addr} {H H' : Hp}
    {ls : List (List Nat)} {rows : List En}
    (x : Bth C L H g ro b s it en ls rows) (r : Rng H p) (z : But p H H') :
    Bth C L H' g ro b s it en ls rows := ⟨x.lg.but r z, x.st.but r z, x.ne⟩
/-- the data that is shown -/
def dSt (os ls : List (List Nat)) (rows : List En) : PyData :=
  .list [.list (dN os), .list (dEs rows), .int (rows.length : Int),
    .list (dN ls)]
theorem dSt_ok {os ls : List (List Nat)} {rows : List En} (g1 : Good os)
    (g2 : Good ls) (sm : SmE rows) (hn : rows.length ≤ 1600) :
    (dSt os ls rows).showable = true ∧ (dSt os ls rows).depth ≤ 60 ∧
      (dSt os ls rows).shown.length ≤ sizeLine := by
  obtain ⟨i1, i2⟩ := int1601 ⟨rows.length, by omega⟩
  have i1' : (PyData.int (rows.length : Int)).showable = true := i1
  have i2' : (PyData.int (rows.length : Int)).shown.length ≤ 5 := i2
  have a1 := showable_L os
  have a2 := showable_L ls
  have a3 := showable_E sm
  refine ⟨?_, ?_, ?_⟩
  · unfold dSt
    rw [show (PyData.list [.list (dN os), .list (dEs rows),
      .int (rows.length : Int), .list (dN ls)]).showable =
      ((PyData.list (dN os)).showable && ((PyData.list (dEs rows)).showable &&
      ((PyData.int (rows.length : Int)).showable &&
      ((PyData.list (dN ls)).showable && true)))) by
        simp only [PyData.showable, PyData.showableAll], a1, a2, a3, i1']
    rfl
  · have d1 := depth_L os
    have d2 := depth_L ls
    have d3 := depth_E rows
    unfold dSt
    rw [show (PyData.list [.list (dN os), .list (dEs rows),
      .int (rows.length : Int), .list (dN ls)]).depth =
      max (PyData.list (dN os)).depth (max (PyData.list (dEs rows)).depth
      (max (PyData.int (rows.length : Int)).depth
      (max (PyData.list (dN ls)).depth 0))) + 1 by
        simp only [PyData.depth, PyData.depthAll]]
    have d4 : (PyData.int (rows.length : Int)).depth ≤ 1 := by
      simp only [PyData.depth]
      omega
    omega
  · have b1 := shownN_le g1
    have b2 := shownN_le g2
    have b3 := shownE_le sm hn
    have e : (dSt os ls rows).shown = listText [(PyData.list (dN os)).shown,
        (PyData.list (dEs rows)).shown, (PyData.int (rows.length : Int)).shown,
        (PyData.list (dN ls)).shown] := by
      unfold dSt
      simp only [PyData.shown, PyData.shownAll]
    rw [e]
    have q := listText_len_le [(PyData.list (dN os)).shown,
        (PyData.list (dEs rows)).shown, (PyData.int (rows.length : Int)).shown,
        (PyData.list (dN ls)).shown]
    simp only [List.map_cons, List.map_nil, List.sum_cons, List.sum_nil,
      List.length_cons, List.length_nil] at q
    exact Nat.le_trans (show _ ≤ 410000 by omega) (by decide)
end OM
namespace OM
open PySem PySem.Spec PyProof.Rows L2
/-! ### lists of small numbers -/
abbrev dIs (ks : List Nat) : List PyData := ks.map fun (i : Nat) =>
  .int (i : Int)
theorem dpAll_I {K : PySem.W.Frag} {H : Hp} : ∀ ks : List Nat,
    DpAll K H (vIs ks) (dIs ks)
  | [] => .nil
  | _ :: r => .cons (.int _) (dpAll_I r)
theorem dp_I {K : PySem.W.Frag} {H : Hp} {a : Addr} {ks : List Nat}
    (h : SqL K H a (vIs ks)) : Dp K H (.ref a) (.list (dIs ks)) :=
  .lst h (dpAll_I ks)
theorem showable_IA : ∀ ks : List Nat, (∀ i ∈ ks, i < 1601) →
    PyData.showableAll (dIs ks) = true
  | [], _ => by simp [PyData.showableAll]
  | k :: r, h => by
    have ih := showable_IA r fun i hi => h i (List.mem_cons_of_mem _ hi)
    have a := (int1601 ⟨k, h k List.mem_cons_self⟩).1
    show PyData.showableAll (.int (k : Int) :: dIs r) = true
    rw [show PyData.showableAll (.int (k : Int) :: dIs r) =
      ((PyData.int (k : Int)).showable && PyData.showableAll (dIs r)) by
        simp only [PyData.showableAll], ih]
    rw [show (PyData.int (k : Int)).showable = true from a]
    rfl
theorem depth_IA : ∀ ks : List Nat, PyData.depthAll (dIs ks) ≤ 1
  | [] => by simp [PyData.depthAll]
  | k :: r => by
    have ih := depth_IA r
    show PyData.depthAll (.int (k : Int) :: dIs r) ≤ 1
    simp only [PyData.depthAll, PyData.depth]
    omega
theorem shown_IA : ∀ ks : List Nat, (∀ i ∈ ks, i < 1601) →
    piled (PyData.shownAll (dIs ks)) ≤ ks.length * 7
  | [], _ => by
    show piled (PyData.shownAll []) ≤ _
    simp only [PyData.shownAll]
    exact Nat.zero_le _
  | k :: r, h => by
    have ih := shown_IA r fun i hi => h i (List.mem_cons_of_mem _ hi)
    have a : (PyData.int (k : Int)).shown.length ≤ 5 :=
      (int1601 ⟨k, h k List.mem_cons_self⟩).2
    show piled (PyData.shownAll (.int (k : Int) :: dIs r)) ≤ _
    rw [show PyData.shownAll (.int (k : Int) :: dIs r) =
      (PyData.int (k : Int)).shown :: PyData.shownAll (dIs r) by
        simp only [PyData.shownAll], piled_cons, List.length_cons, Nat.add_mul]
    omega
theorem ints_ok {ks : List Nat} (h : ∀ i ∈ ks, i < 1601)
    (hn : ks.length ≤ 1600) : (PyData.list (dIs ks)).showable = true ∧
    (PyData.list (dIs ks)).depth ≤ 60 ∧
    (PyData.list (dIs ks)).shown.length ≤ sizeLine := by
  refine ⟨?_, ?_, ?_⟩
  · rw [show (PyData.list (dIs ks)).showable = PyData.showableAll (dIs ks) by
      simp only [PyData.showable]]
    exact showable_IA ks h
  · rw [show (PyData.list (dIs ks)).depth = PyData.depthAll (dIs ks) + 1 by
      simp only [PyData.depth]]
    have := depth_IA ks
    omega
  · have e : (PyData.list (dIs ks)).shown =
        listText (PyData.shownAll (dIs ks)) := by simp only [PyData.shown]
    have p := shown_IA ks h
    have q := listText_len_le (PyData.shownAll (dIs ks))
    rw [e]
    have r := sum_piled (PyData.shownAll (dIs ks))
    exact Nat.le_trans (show _ ≤ 20000 by omega) (by decide)
end OM
namespace OM
open PySem PySem.Spec PyProof.Rows L2
/-! ### what the top has left -/
structure DefAt (K : PySem.W.Frag) (mg : Str → Option Value) (x : Str)
    (st : Stmt) (ps : List Str) (f : Addr) (fd : FuncData) : Prop where
  fn : Fun K x x st f fd
  mg : mg x = some (.ref f)
  bd : Binds K fd ps []
  bt : ∀ (s : Shared) (us : List Value), us.length = ps.length →
    BindsTo s fd ⟨us, []⟩ (ps.zip us)
theorem defAt {K : PySem.W.Frag} {mg : Str → Option Value} {h : Heap}
    {x : Str} {st : Stmt} {ps : List Str} {f : Addr} {oc : Value}
    {od an : Option Addr} {sl : Array (Option Value)}
    {kV dc pm cv ct : Value} (X : K.In h) (G : h.Ns mainGlobals mg)
    (a : PySem.W.nsIn K mainGlobals x = some (some (.ref f)))
    (l : K.lookup f = some ⟨oc, od, .func (PySem.W.fnOf x x (defArgs st)
      (defBody st) (defScope st) .none kV dc pm an cv ct), sl⟩)
    (c : PySem.W.codeIn K cv x = true)
    (k : PySem.W.keepIn K (.ref f) = true)
    (b : ∀ (kV doc pm : Value) (an : Option Addr) (cdv ct : Value)
      (us : List Value), us.length = ps.length →
      bindArgs (PySem.W.fnOf x x (defArgs st) (defBody st) (defScope st)
        .none kV doc pm an cdv ct) ⟨us, []⟩ = pure (ps.zip us)) :
    ∃ fd, DefAt K mg x st ps f fd :=
  have F := fun_mk (st := st) l c k
  ⟨_, F, PySem.W.mg_of X G a, F.binds b,
    fun _ us hl => .of_eq (b _ _ _ _ _ _ us hl)⟩
structure MethAt (K : PySem.W.Frag) (C : Addr) (m q : Str) (st : Stmt)
    (ps : List Str) (f : Addr) (fd : FuncData) : Prop where
  fn : Fun K m q st f fd
  me : Meth K C m f
  bd : Binds K fd ps []
theorem methAt {K : PySem.W.Frag} {C : Addr}
    {m q : Str} {st : Stmt} {ps : List Str} {f : Addr} {oc : Value}
    {od an : Option Addr} {sl : Array (Option Value)}
    {kV dc pm cv ct : Value}
    (a : PySem.W.findIn K (.ref C) m = some (some (.ref f)))
    (i : PySem.W.isFn K (.ref f) = true)
    (l : K.lookup f = some ⟨oc, od, .func (PySem.W.fnOf m q (defArgs st)
      (defBody st) (defScope st) .none kV dc pm an cv ct), sl⟩)
    (c : PySem.W.codeIn K cv q = true)
    (k : PySem.W.keepIn K (.ref f) = true)
    (b : ∀ (kV doc pm : Value) (an : Option Addr) (cdv ct : Value)
      (us : List Value), us.length = ps.length →
      bindArgs (PySem.W.fnOf m q (defArgs st) (defBody st) (defScope st)
        .none kV doc pm an cdv ct) ⟨us, []⟩ = pure (ps.zip us)) :
    ∃ fd, MethAt K C m q st ps f fd :=
  have F := fun_mk (st := st) l c k
  ⟨_, F, ⟨a, i, k⟩, F.binds b⟩
section
variable {P : Program} {w : World} {K : PySem.W.Frag}
  {mg : Str → Option Value} {base : Heap} {C : Addr}
theorem DefAt.cal {k j : Nat} {x : Str} {st : Stmt} {ps : List Str} {f : Addr}
    {fd : FuncData} {sp : Sp} (D : DefAt K mg x st ps f fd)
    (G : FnOk P w K mg base CX0 j f fd ps sp) (h : j ≤ k) :
    Cal P w K mg base k x ps sp :=
  ⟨f, fd, G.mono h, D.mg, D.fn.kp, D.bd⟩
theorem FnG.up {j k : Nat} {f : Addr} {fd : FuncData} {ps : List Str} {sp : Sp}
    (F : FnG P w K mg base CX0 j f fd ps sp) (h : j ≤ k) :
    FnG P w K mg base CX0 k f fd ps sp :=
  ⟨F.len, fun A o s H ar us vs Q E r g e b v z =>
    F.run A o s H ar us vs Q E (r.mono h) g e b v z⟩
theorem DefAt.calG {k j : Nat} {x : Str} {st : Stmt} {ps : List Str} {f : Addr}
    {fd : FuncData} {sp : Sp} (D : DefAt K mg x st ps f fd)
    (G : FnG P w K mg base CX0 j f fd ps sp) (h : j ≤ k) :
    CalG P w K mg base k x ps sp :=
  ⟨f, fd, G.up h, D.mg, D.fn.kp, D.bd⟩
theorem MethAt.calM {k j : Nat} {m q : Str} {st : Stmt} {ps : List Str}
    {f : Addr} {fd : FuncData} {sp : Sp} (D : MethAt K C m q st ps f fd)
    (c : Cls K C) (G : FnOk P w K mg base CX0 j f fd ps sp) (h : j ≤ k) :
    CalM P w K mg base C k m ps sp :=
  ⟨c, f, fd, G.mono h, D.me, D.bd⟩
theorem MethAt.spec {m q : Str} {st : Stmt} {ps : List Str}
    {f : Addr} {fd : FuncData} (D : MethAt K C m q st ps f fd) :
    Spec1 K C m f fd ps := ⟨D.me.at_, D.me.fn, D.bd⟩
end
end OM
namespace OM
open PySem PySem.Spec PyProof.Rows L2
/-- a method whose last parameter is given by its name alone -/
structure MethKAt (K : PySem.W.Frag) (C : Addr) (m q kw : Str) (n : Nat)
    (st : Stmt) (ps : List Str) (f : Addr) (fd : FuncData) : Prop where
  fn : Fun K m q st f fd
  me : Meth K C m f
  kb : KBinds K fd ps [kw] (kwG n) (kwG n)
theorem methKAt {K : PySem.W.Frag} {C : Addr}
    {m q kw : Str} {n : Nat} {st : Stmt} {ps : List Str} {f : Addr} {oc : Value}
    {od an : Option Addr} {sl : Array (Option Value)}
    {kV dc pm cv ct : Value}
    (a : PySem.W.findIn K (.ref C) m = some (some (.ref f)))
    (i : PySem.W.isFn K (.ref f) = true)
    (l : K.lookup f = some ⟨oc, od, .func (PySem.W.fnOf m q (defArgs st)
      (defBody st) (defScope st) .none kV dc pm an cv ct), sl⟩)
    (c : PySem.W.codeIn K cv q = true)
    (k : PySem.W.keepIn K (.ref f) = true)
    (hp : 0 < ps.length)
    (b : ∀ (us : List Value) (z : Value), us.length = n →
      bindArgs (PySem.W.fnOf m q (defArgs st) (defBody st) (defScope st)
        .none kV dc pm an cv ct) ⟨us, [(kw, z)]⟩ = pure (ps.zip (us ++ [z]))) :
    ∃ fd, MethKAt K C m q kw n st ps f fd := by
  have F := fun_mk (st := st) l c k
  refine ⟨_, F, ⟨a, i, k⟩, ⟨?_, fun x y => kw_rel x y⟩⟩
  intro s us ws _ hl
  by_cases h : us.length = n ∧ ws.length = 1
  · obtain ⟨z, rfl⟩ := List.length_eq_one_iff.mp h.2
    have e : kwG n us [z] = us ++ [z] := if_pos h
    rw [e]
    exact .of_eq (b us z h.1)
  · have e : kwG n us ws = [] := if_neg h
    rw [e] at hl
    exact absurd hl (by rw [List.length_nil]; omega)
section
variable {P : Program} {w : World} {K : PySem.W.Frag}
  {mg : Str → Option Value} {base : Heap} {C : Addr}
theorem MethKAt.calMK {k j n : Nat} {m q kw : Str} {st : Stmt} {ps : List Str}
    {f : Addr} {fd : FuncData} {sp : Sp} (D : MethKAt K C m q kw n st ps f fd)
    (c : Cls K C) (G : FnOk P w K mg base CX0 j f fd ps sp) (h : j ≤ k) :
    CalMK P w K mg base C k m kw n ps sp :=
  ⟨c, f, fd, G.mono h, D.me, D.kb⟩
end
end OM
namespace OM
open PySem PySem.Spec PyProof.Rows L2
/-! ### a method whose last parameter has a default -/
structure CalMD (P : Program) (w : World) (K : PySem.W.Frag)
    (mg : Str → Option Value) (base : Heap) (C : Addr) (k : Nat) (x : Str)
    (ps : List Str) (dvs : List V) (sp : Sp) : Prop where
  cl : Cls K C
  ex : ∃ f fd ds, FnOk P w K mg base CX0 k f fd ps sp ∧ Meth K C x f ∧
    Binds K fd ps ds ∧ Vals dvs ds
section
variable {X : Cx} {k : Nat} {ps : List Str} {sp : Sp} {x : Str} {C : Addr}
  {p pos : Pos} {o e : Expr} {es : List Expr} {t : TA} {to : TE} {dvs : List V}
theorem pe_calMD {pl : Sem Bool}
    (M : CalMD X.prog X.w X.K X.mg X.base C k x ps dvs sp)
    (room : Room k X.A) (ho : PE X o to) (ha : PA X (e :: es) t)
    (h1 : starEach (e :: es) X.env =
      (false, eval e X.env) :: starEach es X.env := by rfl)
    (h2 : (backTo pos (starEach es X.env)).any (·.1) = false := by rfl)
    (h3 : eval (.Call (.Attribute o x p) (e :: es) [] pos) X.env = (do
      let ov ← eval o X.env
      standAt p.atName
      let (f, first) ← holding [ov] (getMethod ov x pl)
      callWith pos f first (backTo pos (starEach (e :: es) X.env))
        (backToKw pos (keywordEach [] X.env))) := by rfl) :
    PE X (.Call (.Attribute o x p) (e :: es) [] pos)
      (tMeth C x sp dvs E0 to t) := by
  obtain ⟨f, fd, ds, F, m, b, v⟩ := M.ex
  exact pe_meth (pl := pl) ho M.cl m F room b v pass0 ha h1 h2 h3
end
structure MethKDAt (K : PySem.W.Frag) (C : Addr) (m q kw : Str) (n : Nat)
    (st : Stmt) (ps : List Str) (f : Addr) (fd : FuncData) : Prop where
  k : MethKAt K C m q kw n st ps f fd
  bd : ∃ ds, Vals [vS []] ds ∧ Binds K fd ps ds
theorem methKDAt {K : PySem.W.Frag} {C D : Addr}
    {m q kw : Str} {n : Nat} {st : Stmt} {ps : List Str} {f : Addr} {oc : Value}
    {od an : Option Addr} {sl : Array (Option Value)} {t : Tok}
    {dc pm cv ct : Value}
    (a : PySem.W.findIn K (.ref C) m = some (some (.ref f)))
    (i : PySem.W.isFn K (.ref f) = true)
    (l : K.lookup f = some ⟨oc, od, .func (PySem.W.fnOf m q (defArgs st)
      (defBody st) (defScope st) .none (.ref D) dc pm an cv ct), sl⟩)
    (c : PySem.W.codeIn K cv q = true)
    (k : PySem.W.keepIn K (.ref f) = true)
    (hp : ps.length = n + 1)
    (hd : PySem.W.nsIn K D kw = some (some (.str (Str.ofString "") t)))
    (b : ∀ (us : List Value) (z : Value), us.length = n →
      bindArgs (PySem.W.fnOf m q (defArgs st) (defBody st) (defScope st)
        .none (.ref D) dc pm an cv ct) ⟨us, [(kw, z)]⟩ =
        pure (ps.zip (us ++ [z])))
    (b2 : ∀ (us : List Value) (z : Value), us.length = n →
      KwChain D [(kw, z)] (bindArgs (PySem.W.fnOf m q (defArgs st) (defBody st)
        (defScope st) .none (.ref D) dc pm an cv ct) ⟨us, []⟩)
        (ps.zip (us ++ [z]))) :
    ∃ fd, MethKDAt K C m q kw n st ps f fd := by
  have F := fun_mk (st := st) l c k
  refine ⟨_, ⟨F, ⟨a, i, k⟩, ⟨?_, fun x y => kw_rel x y⟩⟩, [.str (Str.ofString "") t],
    .cons ⟨_, rfl⟩ .nil, ?_⟩
  · intro s us ws _ hl
    by_cases h : us.length = n ∧ ws.length = 1
    · obtain ⟨z, rfl⟩ := List.length_eq_one_iff.mp h.2
      have e : kwG n us [z] = us ++ [z] := if_pos h
      rw [e]
      exact .of_eq (b us z h.1)
    · have e : kwG n us ws = [] := if_neg h
      rw [e] at hl
      exact absurd hl (by rw [List.length_nil]; omega)
  · intro s us X hl
    rw [List.length_append, hp] at hl
    have hn : us.length = n := by simpa using hl
    refine BindsTo.of_looks fun M => KwChain.looks X ?_ (b2 us _ hn)
    intro z hz
    rw [List.mem_singleton.mp hz]
    exact hd
section
variable {P : Program} {w : World} {K : PySem.W.Frag}
  {mg : Str → Option Value} {base : Heap} {C : Addr}
theorem MethKDAt.calMD {k j n : Nat} {m q kw : Str} {st : Stmt} {ps : List Str}
    {f : Addr} {fd : FuncData} {sp : Sp} (D : MethKDAt K C m q kw n st ps f fd)
    (c : Cls K C) (G : FnOk P w K mg base CX0 j f fd ps sp) (h : j ≤ k) :
    CalMD P w K mg base C k m ps [vS []] sp := by
  obtain ⟨ds, v, b⟩ := D.bd
  exact ⟨c, f, fd, ds, G.mono h, D.k.me, b, v⟩
end
end OM
namespace OM
open PySem PySem.Spec PyProof.Rows L2
def spOas (C : Addr) : Sp := fun vs H Q _ =>
  ∃ (b a : Addr) (ls : List (List Nat)) (ws : List Nat),
  vs = [.ref b, .ref a] ∧ BaseAt C H b ls ∧ Good ls ∧
  H a = some (.lst (vIs ws)) ∧ Ixs ls.length ws ∧
  ∀ q H', H q = none → H' q = some (.lst ((run ls ws).map vS)) → Same H H' →
    Q (.ref q) H'
def spLAfter (C L : Addr) : Sp := fun vs H Q _ =>
  ∃ (g ro b : Addr) (ls : List (List Nat)) (rows : List En) (n : Nat),
  vs = [.ref g, .int n] ∧ LogAt C L H g ro b ls rows ∧ n ≤ rows.length ∧
  ∀ q H', H q = none →
    H' q = some (.lst ((run ls ((ixs rows).take n)).map vS)) → Same H H' →
    Q (.ref q) H'
def spClear (C L : Addr) : Sp := fun vs H Q _ =>
  ∃ (g ro b : Addr) (ls : List (List Nat)) (rows : List En), vs = [.ref g] ∧
  LogAt C L H g ro b ls rows ∧ ∀ ro' H', H ro' = none →
    LogAt C L H' g ro' b ls [] → But g H H' → Q .non H'
def logText (os : List (List Nat)) (rows : List En) : Str :=
  Str.empty ++ Str.ofString "SwapLog(" ++ (PyData.list (dN os)).shown ++
    Str.ofString ", " ++ (PyData.list (dEs rows)).shown ++ Str.ofString ")"
def spLRepr (C L : Addr) : Sp := fun vs H Q _ =>
  ∃ (g ro b : Addr) (ls : List (List Nat)) (rows : List En), vs = [.ref g] ∧
  LogAt C L H g ro b ls rows ∧
  Q (.str (logText (run ls (ixs rows)) rows)) H
section
variable {P : Program} {w : World} {K : PySem.W.Frag}
  {mg : Str → Option Value} {base : Heap} {C L : Addr}
theorem ok_oas {f : Addr} {fd : FuncData} {k : Nat}
    (F : Fun K "order_after_swaps" "order_after_swaps" s_order_after_swaps
      f fd)
    (Mn : CalM P w K mg base C k "names" ["self"] (spGetNames C))
    (Ce : Cal P w K mg base k "exchanged" ["order", "index"] (spExch K)) :
    FnOk P w K mg base CX0 (k + 1) f fd ["base", "indexes"] (spOas C) := by
  refine F.ok sc_order_after_swaps (fun vs H Q E h => ?_)
    (fun cv A outer s H vs Q E hr h => ?_)
  · obtain ⟨b, a, ls, ws, rfl, _⟩ := h
    rfl
  obtain ⟨b, a, ls, ws, rfl, hb, gd, ha, ix, q⟩ := h
  have nd := sc_order_after_swaps.nd
  refine ⟨_, pss_cons (ps_set (i := 2) nd rfl (.inl rfl)
      (pe_calM0 Mn hr (pv 0)))
    (pss_cons (ps_for PassesOwn.never rfl (pi_list (pv 1))
      (pg_name (i := 3) nd rfl (.inl rfl))
      (pss_one (ps_set (i := 2) nd rfl (.inl rfl)
        (pe_cal Ce hr (pa_cons (pv 2) (pa_cons (pv 3) pa_nil))))))
    (pss_one (ps_ret (pv 2)))), ?_⟩
  obtain ⟨dx, lo, d, h1, h2, h3⟩ := hb.ob
  refine ⟨_, rfl, b, dx, _, rfl, h1, bf_no _ _ (by decide +kernel)
    (by decide +kernel), b, ls, rfl, hb, fun o0 H1 no0 ho0 s1 => ?_⟩
  refine ⟨_, rfl, a, rfl, ⟨_, SqL.of (s1 _ _ ha)⟩, ?_⟩
  refine for_list (K := K) (a := a) (xs := vIs ws) (fun i σ H' =>
      ∃ (o : Addr) (y : Option V),
      σ = [some (.ref b), some (.ref a), some (.ref o), y] ∧ H o = none ∧
      H' o = some (.lst ((run ls (ws.take i)).map vS)) ∧ Same H H')
    ⟨o0, none, rfl, no0, ho0, s1⟩
    (fun i σ H' _ z => by
      obtain ⟨_, _, _, _, _, s⟩ := z
      exact SqL.of (s _ _ ha)) ?_ ?_
  · rintro i v σ H2 hv ⟨o, y, rfl, no, ho, s2⟩
    obtain ⟨m, hm, rfl⟩ : ∃ m : Nat, ws[i]? = some m ∧ v = .int (m : Int) := by
      rw [List.getElem?_map] at hv
      cases e : ws[i]? with
      | none => rw [e] at hv; cases hv
      | some m => rw [e] at hv; exact ⟨m, rfl, (Option.some.inj hv).symm⟩
    have mx := ix m (List.mem_of_getElem? hm)
    have ol : (run ls (ws.take i)).length = ls.length := run_len _ _
    refine ⟨_, rfl, _, rfl, o, _, m, rfl, SqL.of ho, ?_, ?_,
      fun o' H5 no' ho' s5 => ?_⟩
    · rw [List.length_map]; omega
    · rw [List.length_map, ol]
      have := gd.hi
      omega
    rw [exch_map] at ho'
    have tk : ws.take (i + 1) = ws.take i ++ [m] := by
      rw [List.take_add_one, hm]
      rfl
    refine ⟨o', _, rfl, s2.free no', ?_, s2.trans s5⟩
    rw [tk, run_snoc]
    exact ho'
  · rintro σ H2 ⟨o, y, rfl, no, ho, s2⟩
    rw [List.length_map, List.take_length] at ho
    exact ⟨_, rfl, q o H2 no ho s2⟩
theorem ok_lafter {f : Addr} {fd : FuncData} {k : Nat}
    (F : Fun K "order_after" "SwapLog.order_after" s_SwapLog_order_after f fd)
    (B : Bl mg) (T : LC K mg L)
    (Ci : Cal P w K mg base k "is_integer_from" ["value", "low", "high"]
      spIntFrom)
    (Co : Cal P w K mg base k "order_after_swaps" ["base", "indexes"]
      (spOas C))
    (Mi : CalM P w K mg base L k "indexes" ["self"] (spLIxs C L)) :
    FnOk P w K mg base CX0 (k + 1) f fd ["self", "count"]
      (spLAfter C L) := by
  refine F.ok sc_SwapLog_order_after (fun vs H Q E h => ?_)
    (fun cv A outer s H vs Q E hr h => ?_)
  · obtain ⟨g, ro, b, ls, rows, n, rfl, _⟩ := h
    rfl
  obtain ⟨g, ro, b, ls, rows, n, rfl, x, hn, q⟩ := h
  refine ⟨_, pss_cons (ps_if (pt_not (pt_val (pe_cal Ci hr (pa_cons (pv 1)
      (pa_cons pe_int (pa_cons (pe_callB call_len_seq (by rfl) B.len
        PySem.boot_len (pa_cons (pe_fld (pv 0) rfl) pa_nil)) pa_nil))))))
      (pss_one ps_never) pss_nil)
    (pss_one (ps_ret (pe_cal Co hr (pa_cons (pe_fld (pv 0) rfl) (pa_cons
      (pe_slice sl_list (pe_calM0 Mi hr (pv 0)) po_none (po_some (pv 1)))
      pa_nil))))), ?_⟩
  obtain ⟨dx, cu, rs, h1, h2, h3, h4⟩ := x.ob
  refine ⟨_, rfl, _, rfl, g, L, dx, _, _, rfl, h1, T.cl, T.nR, lf_rows _ _ _,
    ro, _, rfl, .inl (SqL.of h3), _, 0, _, rfl, _, rfl, ?_⟩
  rw [List.length_map, h4.len, decide_eq_true (show (0 : Int) ≤ (n : Int) by
    omega), decide_eq_true (show (n : Int) ≤ (rows.length : Int) by omega)]
  refine iteF ?_
  refine ⟨_, rfl, g, L, dx, _, _, rfl, h1, T.cl, T.nG, lf_ground _ _ _, _, rfl,
    g, dx, _, rfl, h1, lf_no _ _ _ (by decide +kernel) (by decide +kernel)
    (by decide +kernel), g, ro, b, ls, rows, rfl, x, fun ia H1 nia hia s1 => ?_⟩
  refine ⟨_, rfl, n, rfl, ia, _, rfl, SqL.of hia, fun t nt => ?_⟩
  rw [cut_to _ (by rw [List.length_map, List.length_map]; exact hn)]
  have e : (vIs (ixs rows)).take n = vIs ((ixs rows).take n) :=
    List.map_take.symm
  rw [e]
  have x1 := (x.same s1).same (sameNew (o := .lst (vIs ((ixs rows).take n))) nt)
  refine ⟨b, t, ls, (ixs rows).take n, rfl, x1.ba, x.good, upd_same, ?_,
    fun o H2 no ho s2 => ?_⟩
  · exact fun i hi => x.wd.ixs i (List.mem_of_mem_take hi)
  · have s12 := (s1.trans (sameNew (o := .lst (vIs ((ixs rows).take n))) nt))
    exact q o H2 (s12.free no) ho (s12.trans s2)
theorem ok_clear {f : Addr} {fd : FuncData} {k : Nat}
    (F : Fun K "clear_entries" "SwapLog.clear_entries"
      s_SwapLog_clear_entries f fd)
    (T : LC K mg L)
    (Mn : CalM P w K mg base C k "names" ["self"] (spGetNames C)) :
    FnOk P w K mg base CX0 (k + 1) f fd ["self"] (spClear C L) := by
  refine F.ok sc_SwapLog_clear_entries (fun vs H Q E h => ?_)
    (fun cv A outer s H vs Q E hr h => ?_)
  · obtain ⟨g, ro, b, ls, rows, rfl, _⟩ := h
    rfl
  obtain ⟨g, ro, b, ls, rows, rfl, x, q⟩ := h
  refine ⟨_, pss_cons (ps_fld (pv 0) (pe_calM0 Mn hr (pe_fld (pv 0) rfl)) rfl)
    (pss_one (ps_fld (pv 0) (pe_lst pa_nil) rfl)), ?_⟩
  obtain ⟨dx, cu, rs, h1, h2, h3, h4⟩ := x.ob
  obtain ⟨dy, lo, d, z1, z2, z3⟩ := x.ba.ob
  refine ⟨_, rfl, g, L, dx, _, _, rfl, h1, T.cl, T.nG, lf_ground _ _ _, b, dy,
    _, rfl, z1, bf_no _ _ (by decide +kernel) (by decide +kernel), b, ls, rfl,
    x.ba, fun o H1 no ho s1 => ?_⟩
  have ngo : g ≠ o := ne_of_none h1 no
  refine ⟨_, rfl, g, L, dx, _, rfl, s1 _ _ h1, T.cl, T.nC, lf_len _ _ _, ?_⟩
  rw [lf_setc]
  have u2 : But g H (upd H1 g (.ins L dx (lf b o ro))) := (But.of s1).at
  have g2 : (upd H1 g (.ins L dx (lf b o ro))) g =
    some (.ins L dx (lf b o ro)) := upd_same
  have o2 : (upd H1 g (.ins L dx (lf b o ro))) o =
    some (.lst (ls.map vS)) := by
    rw [upd_ne ngo.symm]; exact ho
  generalize (upd H1 g (.ins L dx (lf b o ro))) = H2 at u2 g2 o2 ⊢
  refine ⟨sz (by simp), fun e ne => ?_⟩
  have nge : g ≠ e := ne_of_none g2 ne
  have noe : o ≠ e := ne_of_none o2 ne
  refine ⟨_, rfl, g, L, dx, _, rfl, by rw [upd_ne nge]; exact g2, T.cl, T.nR,
    lf_len _ _ _, ?_⟩
  rw [lf_setr]
  have u3 : But g H (upd (upd H2 e (.lst [])) g (.ins L dx (lf b o e))) :=
    (u2.put ne nge.symm).at
  refine q e _ (u2.free nge.symm ne) ?_ u3
  refine x.swapIn (H2 := H2) h1 (fun y o' h n => u3 _ _ h n) upd_same
    (cu' := o) ?_ ?_ (rs' := []) .nil trivial nofun
  · rw [upd_ne ngo.symm, upd_ne noe]
    exact o2
  · rw [upd_ne nge.symm, upd_same]
    rfl
theorem ok_lrepr {f : Addr} {fd : FuncData} {k : Nat}
    (F : Fun K "__repr__" "SwapLog.__repr__" s_SwapLog_repr f fd)
    (T : LC K mg L) :
    FnG P w K mg base CX0 (k + 1) f fd ["self"] (spLRepr C L) := by
  refine okG F sc_SwapLog_repr (fun vs H Q E h => ?_)
    (fun cv A outer s H vs Q E hr gd h => ?_)
  · obtain ⟨g, ro, b, ls, rows, rfl, _⟩ := h
    rfl
  obtain ⟨g, ro, b, ls, rows, rfl, x, q⟩ := h
  obtain ⟨dx, cu, rs, h1, h2, h3, h4⟩ := x.ob
  refine ⟨_, pss_one (ps_ret (pe_joined (.cons pe_str (.cons
    (pe_fmtD hr gd (pe_fld (pv 0) rfl)) (.cons pe_str (.cons
    (pe_fmtD hr gd (pe_fld (pv 0) rfl)) (.cons pe_str .nil))))))), ?_⟩
  have go := x.good.perm x.perm
  have m := x.many
  have b1 := shownN_le go
  have b2 := shownE_le x.sme m
  have l3 : (Str.ofString "SwapLog(").length = 8 := by decide +kernel
  have l4 : (Str.ofString ")").length = 1 := by decide +kernel
  have l5 : (Str.empty).length = 0 := by decide +kernel
  have l7 : (Str.ofString ", ").length = 2 := by decide +kernel
  have l6 : 410000 ≤ sizeLine := by decide
  refine ⟨_, rfl, ?_, _, rfl, g, L, dx, _, _, rfl, h1, T.cl, T.nC,
    lf_current _ _ _, cu, _, rfl, dp_N (SqL.of h2), showable_L _,
    Nat.le_trans (depth_L _) (by decide), Nat.le_trans b1 (by decide), _, rfl, ?_, _, rfl, ?_, _,
    rfl, g, L, dx, _, _, rfl, h1, T.cl, T.nR, lf_rows _ _ _, ro, _, rfl,
    dp_Es (SqL.of h3) h4, showable_E x.sme,
    Nat.le_trans (depth_E _) (by decide), shown_E x.sme (by omega), _, rfl, ?_,
    _, rfl, ?_, q⟩
  · rw [strLen_append]
    omega
  · rw [strLen_append, strLen_append]
    omega
  · rw [strLen_append, strLen_append, strLen_append]
    omega
  · rw [strLen_append, strLen_append, strLen_append, strLen_append]
    omega
  · rw [strLen_append, strLen_append, strLen_append, strLen_append,
      strLen_append]
    omega
end
end OM
namespace OM
open PySem PySem.Spec PyProof.Rows L2
theorem filter_one {j : Nat} {f : Nat → Bool} : ∀ n,
    (∀ k, k < n → (f k = true ↔ k = j)) →
    (List.range n).filter f = if j < n then [j] else []
  | 0, _ => rfl
  | n + 1, h => by
    have ih := filter_one (j := j) (f := f) n fun k hk => h k (by omega)
    rw [List.range_succ, List.filter_append, ih]
    by_cases e : n = j
    · subst e
      rw [if_neg (Nat.lt_irrefl _), if_pos (Nat.lt_succ_self _),
        List.filter_cons_of_pos ((h n (Nat.lt_succ_self _)).mpr rfl)]
      rfl
    · have nf : ¬ f n = true := fun z => e ((h n (Nat.lt_succ_self _)).mp z)
      rw [List.filter_cons_of_neg nf, List.filter_nil, List.append_nil]
      by_cases c : j < n
      · rw [if_pos c, if_pos (by omega)]
      · rw [if_neg c, if_neg (by omega)]
theorem filter_none {f : Nat → Bool} : ∀ n, (∀ k, k < n → f k = false) →
    (List.range n).filter f = []
  | 0, _ => rfl
  | n + 1, h => by
    have ih := filter_none (f := f) n fun k hk => h k (by omega)
    rw [List.range_succ, List.filter_append, ih,
      List.filter_cons_of_neg (by rw [h n (Nat.lt_succ_self _)]; nofun)]
    rfl
/-- is the entry there one of two items -/
def dueB (ps : List Pr) (l m : List Nat) (k : Nat) : Bool :=
  decide ((l, m) = ps.getD k ([], [])) || (decide ((m, l) = ps.getD k ([], []))
    || false)
/-- where the entries of two items are -/
def dueL (ps : List Pr) (l m : List Nat) (n : Nat) : List Nat :=
  (List.range n).filter (dueB ps l m)
def entL (ls : List (List Nat)) (rows : List En) (l m : List Nat) : List Nat :=
  if pairOf ls l m ∈ prsOf ls (ixs rows) then
    [(prsOf ls (ixs rows)).idxOf (pairOf ls l m)] else []
theorem dueB_iff {ls : List (List Nat)} {rows : List En} (x : Rw ls rows)
    {l m : List Nat} {k : Nat} (hk : k < (prsOf ls (ixs rows)).length) :
    dueB (prsOf ls (ixs rows)) l m k = true ↔
      (prsOf ls (ixs rows))[k]? = some (pairOf ls l m) := by
  have gk := List.getElem?_eq_getElem hk
  have gd : (prsOf ls (ixs rows)).getD k ([], []) =
      (prsOf ls (ixs rows))[k] := by
    rw [List.getD_eq_getElem?_getD, gk]; rfl
  have hm := (x.rep.mem _).mp (List.getElem_mem hk)
  unfold dueB
  rw [gd, gk]
  generalize (prsOf ls (ixs rows))[k] = p at hm
  obtain ⟨a, c⟩ := p
  have lt : ls.idxOf a < ls.idxOf c := hm.2.2.1
  rw [Bool.or_false, Bool.or_eq_true, decide_eq_true_eq, decide_eq_true_eq]
  unfold pairOf
  constructor
  · rintro (e | e)
    · cases e
      rw [if_pos lt]
    · cases e
      rw [if_neg (by omega)]
  · intro e
    split at e
    · cases Option.some.inj e
      exact .inl rfl
    · cases Option.some.inj e
      exact .inr rfl
theorem due_eq {ls : List (List Nat)} {rows : List En} (x : Rw ls rows)
    {l m : List Nat} : dueL (prsOf ls (ixs rows)) l m
      (prsOf ls (ixs rows)).length = entL ls rows l m := by
  unfold dueL entL
  by_cases c : pairOf ls l m ∈ prsOf ls (ixs rows)
  · have il := List.idxOf_lt_length_of_mem c
    rw [if_pos c, filter_one (j := (prsOf ls (ixs rows)).idxOf (pairOf ls l m))
      _ fun k hk => ?_, if_pos il]
    rw [dueB_iff x hk]
    constructor
    · intro h
      exact (idx_of x.rep.nd h).symm
    · rintro rfl
      rw [List.getElem?_eq_getElem hk, List.getElem_idxOf hk]
  · rw [if_neg c, filter_none _ fun k hk => ?_]
    cases e : dueB (prsOf ls (ixs rows)) l m k with
    | false => rfl
    | true =>
      have := (dueB_iff x hk).mp e
      exact absurd (List.mem_of_getElem? this) c
def entD (ls : List (List Nat)) (rows : List En) (l m : List Nat) : PyData :=
  if pairOf ls l m ∈ prsOf ls (ixs rows) then
    .int (((prsOf ls (ixs rows)).idxOf (pairOf ls l m) : Nat) : Int) else .none
theorem dp_ent {K : PySem.W.Frag} {H : Hp} {ls : List (List Nat)}
    {rows : List En} {l m : List Nat} :
    Dp K H (entV ls rows l m) (entD ls rows l m) := by
  unfold entV entD
  split
  · exact .int _
  · exact .non
theorem ent_ok {ls : List (List Nat)} {rows : List En} (x : Rw ls rows)
    {l m : List Nat} : (entD ls rows l m).showable = true ∧
    (entD ls rows l m).depth ≤ 60 ∧
    (entD ls rows l m).shown.length ≤ sizeLine := by
  unfold entD
  by_cases c : pairOf ls l m ∈ prsOf ls (ixs rows)
  · rw [if_pos c]
    have cl := List.idxOf_lt_length_of_mem c
    rw [prsOf_len, List.length_map] at cl
    have mm := x.many
    obtain ⟨a, b⟩ := int1601 ⟨(prsOf ls (ixs rows)).idxOf (pairOf ls l m), by
      omega⟩
    refine ⟨a, ?_, Nat.le_trans b (by decide)⟩
    simp only [PyData.depth]
    omega
  · rw [if_neg c]
    decide +kernel
/-- the first of them, or none -/
theorem ent_first {ls : List (List Nat)} {rows : List En} {l m : List Nat} :
    atI (vIs (entL ls rows l m) ++ [.non]) 0 = some (entV ls rows l m) := by
  unfold entL entV
  split
  · exact atI_nat (j := 0) rfl
  · exact atI_nat (j := 0) rfl
theorem ent_same {ls : List (List Nat)} {rows : List En} (x : Rw ls rows)
    (l : List Nat) : entL ls rows l l = [] := by
  unfold entL
  rw [if_neg fun z => ?_]
  have h := ((x.rep.mem _).mp z).2.2.1
  unfold pairOf at h
  rw [if_neg (Nat.lt_irrefl _)] at h
  exact Nat.lt_irrefl _ h
theorem perm_inv {ls : List (List Nat)} {rows : List En} (x : Rw ls rows) :
    (prsOf ls (ixs rows)).Perm (invAll ls (run ls (ixs rows))) :=
  (List.perm_ext_iff_of_nodup x.rep.nd (rep_inv x.good.nd).nd).mpr fun p =>
    (x.rep.mem p).trans ((rep_inv x.good.nd).mem p).symm
end OM
namespace OM
open PySem PySem.Spec PyProof.Rows L2
/-! laws that are all(_law_right(_law_rng(script, k)) for k in range(..)) -/
def spLaw (K : PySem.W.Frag) : Sp := fun vs H Q _ =>
  ∃ (a : Addr) (ns : List Int), vs = [.ref a] ∧ SqL K H a (ns.map V.int) ∧
  ns.length ≤ 63 ∧ ∀ H', Q (.bl true) H'
def spRight : Sp := fun vs H Q _ => ∃ p : Addr, vs = [.ref p] ∧ Rng H p ∧
  ∀ H', Rng H' p → But p H H' → Q (.bl true) H'
section
variable {P : Program} {w : World} {K : PySem.W.Frag}
  {mg : Str → Option Value} {base : Heap}
theorem ok_lawAll {f : Addr} {fd : FuncData} {k : Nat}
    (F : Fun K "law" "law" s_law f fd) (B : Bl mg)
    (Cr : Cal P w K mg base k "_law_rng" ["_law_script", "_law_k"] (spRng K))
    (Cx : CalG P w K mg base k "_law_right" ["_law_rng_here"] spRight) :
    FnG P w K mg base CX0 (k + 1) f fd ["_law_script"] (spLaw K) := by
  refine okG F sc_law (fun vs H Q E h => ?_)
    (fun cv A outer s H vs Q E hr gd h => ?_)
  · obtain ⟨a, ns, rfl, _⟩ := h
    rfl
  obtain ⟨a, ns, rfl, hS, hlen, q⟩ := h
  have nd := sc_law.nd
  refine ⟨_, pss_one (ps_ret (pe_callB (cr_all rfl) (by rfl) B.all bt_all
    (pa_cons (pe_lc (own := [("_law_k", 1)]) (g := gName 1) (tt := tYes) rfl nd
      (pi_range1 (by rfl) B.range (pa_cons
        (pe_callB (call_max2 rfl) (by rfl) B.max bt_max (pa_cons pe_int (pa_cons
          (pe_callB (call_min2 rfl) (by rfl) B.min bt_min (pa_cons
            (pe_callB call_len_seq (by rfl) B.len PySem.boot_len
              (pa_cons (pv 0) pa_nil)) (pa_cons pe_int pa_nil))) pa_nil)))
        pa_nil))
      (blkOk_by (N := N_law) (sc := defScope s_law) (by decide +kernel))
      (fun _ _ _ _ _ => pg_name (i := 1) nd rfl (Or.inl rfl))
      (fun _ _ _ _ _ => pts_nil)
      (fun _ _ _ _ _ => pe_calG Cx hr gd (pa_cons
        (pe_cal Cr hr (pa_cons (pv 0) (pa_cons (pv 1) pa_nil))) pa_nil)))
      pa_nil))), ?_⟩
  refine ⟨_, rfl, a, _, rfl, .inl hS, _, _, rfl, _, _, rfl, _, rfl, ?_, ?_,
    fun D nD => ?_⟩
  · rw [List.length_map]
    split <;> split <;> omega
  · rw [List.length_map]
    split <;> split <;> omega
  generalize hn : (Int.toNat _) = n
  have n4 : n ≤ 1000 := by
    rw [← hn, List.length_map]
    split <;> split <;> omega
  clear hn
  refine lc_range (lo := 0) (n := n) (fun j H' =>
    H' D = some (.lst ((List.replicate j true).map V.bl)) ∧ Same H H')
    ⟨upd_same, sameNew nD⟩ ?_ ?_
  · rintro j H1 hj ⟨hD, s1⟩
    refine ⟨rfl, yes ⟨_, rfl, _, rfl, a, ns, j, ?_, s1.seq hS, by omega,
      fun p H2 np rg2 s2 => ⟨p, rfl, rg2, fun H3 rg3 b3 => ?_⟩⟩⟩
    · rw [Int.zero_add]
      rfl
    have nDp : D ≠ p := ne_of_none hD np
    have sb : Same H1 H3 := fun y o e =>
      b3 y o (s2 y o e) (ne_of_none e np)
    refine ⟨_, sb _ _ hD, ?_, ?_, ?_⟩
    · rw [List.length_map, List.length_replicate]
      exact sz' (by omega)
    · rw [upd_same, List.replicate_succ', List.map_append]
      rfl
    · exact OM.Same.put (s1.trans sb) nD
  · rintro H1 ⟨hD, s1⟩
    refine ⟨D, _, rfl, SqL.of hD, ?_⟩
    rw [show (List.replicate n true).all id = true by
      rw [List.all_eq_true]
      intro x hx
      exact List.eq_of_mem_replicate hx]
    exact q H1
end
end OM
namespace OM
open PySem PySem.Spec PyProof.Rows L2
/-! ### the shortest swaps to another order -/
/-- the first neighbours that stand the other way round -/
def Fo (ot os : List (List Nat)) : Option Nat → Prop
  | none => ∀ i, i + 1 < os.length → outB ot os i = true
  | some i => i + 1 < os.length ∧ outB ot os i = false ∧
    ∀ j, j < i → outB ot os j = true
def foV : Option Nat → V
  | none => .non
  | some i => .int (i : Nat)
theorem Fo.uniq {ot os : List (List Nat)} : ∀ {a b : Option Nat}, Fo ot os a →
    Fo ot os b → a = b
  | none, none, _, _ => rfl
  | none, some j, x, y => by
    have := x j y.1
    rw [y.2.1] at this
    cases this
  | some i, none, x, y => by
    have := y i x.1
    rw [x.2.1] at this
    cases this
  | some i, some j, x, y => by
    rcases Nat.lt_trichotomy i j with h | h | h
    · have := y.2.2 i h
      rw [x.2.1] at this
      cases this
    · rw [h]
    · have := x.2.2 j h
      rw [y.2.1] at this
      cases this
/-- the swaps, each at the first such place -/
def Pth (ot : List (List Nat)) : List (List Nat) → List Nat → Prop
  | os, [] => Fo ot os none
  | os, i :: r => Fo ot os (some i) ∧ Pth ot (exch os i) r
theorem Pth.uniq {ot : List (List Nat)} : ∀ {a b : List Nat}
    {os : List (List Nat)}, Pth ot os a → Pth ot os b → a = b
  | [], [], _, _, _ => rfl
  | [], j :: b, os, x, y => by
    have := Fo.uniq (show Fo ot os none from x) y.1
    cases this
  | i :: a, [], os, x, y => by
    have := Fo.uniq (show Fo ot os none from y) x.1
    cases this
  | i :: a, j :: b, os, x, y => by
    have e := Fo.uniq x.1 y.1
    cases Option.some.inj e
    rw [Pth.uniq x.2 y.2]
theorem Pth.ixs {ot : List (List Nat)} : ∀ {a : List Nat}
    {os : List (List Nat)}, Pth ot os a → Ixs os.length a
  | [], _, _ => nofun
  | i :: a, os, x => fun j hj => by
    rcases List.mem_cons.mp hj with e | e
    · rw [e]; exact x.1.1
    · have := x.2.ixs j e
      rw [exch_len] at this
      exact this
/-- each of them brings one pair into its place -/
theorem Fo.less {ot os : List (List Nat)} {i : Nat} (h : Fo ot os (some i))
    (o : Of ot os) :
    (invAll ot (exch os i)).length + 1 = (invAll ot os).length := by
  obtain ⟨m, r⟩ := (rep_inv (os := os) o.nd).inn o h.1 h.2.1
  have := r.len (rep_inv o.nd)
  rw [List.length_erase_of_mem m] at this
  have : 0 < (invAll ot os).length := List.length_pos_of_mem m
  omega
theorem Pth.len {ot : List (List Nat)} : ∀ {a : List Nat}
    {os : List (List Nat)}, Pth ot os a → Of ot os →
    a.length ≤ (invAll ot os).length
  | [], _, _, _ => Nat.zero_le _
  | i :: a, os, x, o => by
    have := x.1.less o
    have := x.2.len (o.exch i)
    rw [List.length_cons]
    omega
/-- what has been gone leads on -/
def Way (ot os : List (List Nat)) (ws : List Nat) (cur : List (List Nat)) :
    Prop := ∀ r, Pth ot cur r → Pth ot os (ws ++ r)
theorem Way.refl (ot os : List (List Nat)) : Way ot os [] os :=
  fun _ h => h
theorem Way.step {ot os cur : List (List Nat)} {ws : List Nat} {i : Nat}
    (w : Way ot os ws cur) (h : Fo ot cur (some i)) :
    Way ot os (ws ++ [i]) (exch cur i) := fun r hr => by
  rw [List.append_assoc]
  exact w (i :: r) ⟨h, hr⟩
theorem Way.done {ot os cur : List (List Nat)} {ws : List Nat}
    (w : Way ot os ws cur) (h : Fo ot cur none) : Pth ot os ws := by
  have := w [] h
  rw [List.append_nil] at this
  exact this
/-- a whole number each -/
def vI (i : Nat) : V := .int (i : Int)
def spFopp : Sp := fun vs H Q _ =>
  ∃ (a d : Addr) (ot os : List (List Nat)), vs = [.ref a, .ref d] ∧
  H a = some (.lst (os.map vS)) ∧ H d = some (.dK (prs 0 ot)) ∧ Of ot os ∧
  os.length ≤ 1000 ∧ ∀ o H', Fo ot os o → Same H H' → Q (foV o) H'
def spBetw (C : Addr) : Sp := fun vs H Q _ =>
  ∃ (b a c : Addr) (ls os ot : List (List Nat)), vs = [.ref b, .ref a, .ref c] ∧
  Ord C H b a ls os ∧ Ord C H b c ls ot ∧ ∀ q ws H', H q = none →
    H' q = some (.lst (ws.map vI)) → Pth ot os ws → Same H H' → Q (.ref q) H'
section
variable {P : Program} {w : World} {K : PySem.W.Frag}
  {mg : Str → Option Value} {base : Heap} {C : Addr}
theorem ok_fopp {f : Addr} {fd : FuncData} {k : Nat}
    (F : Fun K "first_opposite" "first_opposite" s_first_opposite f fd)
    (B : Bl mg) :
    FnOk P w K mg base CX0 (k + 1) f fd ["order", "places"] spFopp := by
  refine F.ok sc_first_opposite (fun vs H Q E h => ?_)
    (fun cv A outer s H vs Q E hr h => ?_)
  · obtain ⟨a, d, ot, os, rfl, _⟩ := h
    rfl
  obtain ⟨a, d, ot, os, rfl, ha, hd, o, hl, q⟩ := h
  have nd := sc_first_opposite.nd
  have hu := hu_of hr
  refine ⟨_, pss_cons (ps_for PassesOwn.never rfl
      (pi_range1 (by rfl) B.range (pa_cons (pe_op op_sub
        (pe_callB call_len_seq (by rfl) B.len PySem.boot_len
          (pa_cons (pv 0) pa_nil)) pe_int) pa_nil))
      (pg_name (i := 2) nd rfl (.inl rfl))
      (pss_one (ps_if (pt_cmpR op_gt
        (pe_dget hu (pv 1) (pe_ix ix_list (pv 0) (pv 2) (fun _ _ => rfl))
          (fun _ _ => rfl))
        (pe_dget hu (pv 1) (pe_ix ix_list (pv 0)
          (pe_op op_add (pv 2) pe_int) (fun _ _ => rfl)) (fun _ _ => rfl))
        (nomark _)) (pss_one (ps_ret (pv 2))) pss_nil)))
    (pss_one (ps_ret pe_non)), ?_⟩
  have hS := SqL.of (K := K) ha
  have sub : (((os.map vS).length : Nat) : Int) - 1 =
      ((os.length : Int) - 1) := by rw [List.length_map]
  refine ⟨_, rfl, a, _, rfl, .inl hS, _, _, rfl, rfl, _, rfl, ?_, ?_, ?_⟩
  · rw [sub]; omega
  · rw [sub]; omega
  rw [sub]
  refine for_range (lo := 0) (n := ((os.length : Int) - 1).toNat)
    (fun j σ H' => ∃ y, σ = [some (.ref a), some (.ref d), y] ∧ H = H' ∧
      ∀ i, i < j → outB ot os i = true) ⟨none, rfl, rfl, nofun⟩ ?_ ?_
  · rintro j σ H1 hj ⟨y, rfl, rfl, ih⟩
    have hj1 : j + 1 < os.length := by omega
    have g0 := getD_map vS [] (show j < os.length by omega)
    have g1 := getD_map vS [] hj1
    have m0 := o.m0 hj1
    have m1 := o.m1 hj1
    have el := @out_lt ot os j
    have ei := in_lt o hj1
    have dg : ∀ {l : List Nat}, l ∈ ot → DGet H d (vS l)
        (some (.int ((ot.idxOf l : Nat) : Int))) := fun {l} hm => by
      have := DGet.k (k := Sum.inr (SX.S l)) hd
      rw [val_prs, if_pos hm, Nat.zero_add] at this
      exact this
    have e0 : (0 : Int) + ((j : Nat) : Int) = ((j : Nat) : Int) := by omega
    rw [e0]
    refine ⟨_, rfl, _, rfl, _, rfl, a, _, _, _, rfl, rfl, hS,
      atI_nat (j := j) g0, d, _, rfl, dg m0, _, rfl, _, rfl, _, rfl, _, _, rfl,
      rfl, a, _, _, _, rfl, rfl, hS, atI_nat (j := j + 1) g1, d, _, rfl, dg m1,
      _, _, rfl, rfl, _, rfl, ite2 (fun c => ?_) (fun c => ?_)⟩
    · refine ⟨_, rfl, q (some j) H ⟨hj1, ei.mpr ?_, ih⟩ (Same.refl H)⟩
      have : ((ot.idxOf (os.getD (j + 1) []) : Nat) : Int) <
        ((ot.idxOf (os.getD j []) : Nat) : Int) := of_decide_eq_true c
      omega
    · refine ⟨_, rfl, rfl, fun i hi => ?_⟩
      rcases Nat.lt_or_ge i j with h | h
      · exact ih i h
      · have : i = j := by omega
        subst this
        cases z : outB ot os i with
        | true => rfl
        | false =>
          have := ei.mp z
          exact absurd (decide_eq_true (show
            ((ot.idxOf (os.getD (i + 1) []) : Nat) : Int) <
            ((ot.idxOf (os.getD i []) : Nat) : Int) by omega)) c
  · rintro σ H1 ⟨y, rfl, rfl, ih⟩
    exact q none H (fun i hi => ih i (by omega)) (Same.refl H)
end
end OM
namespace OM
open PySem PySem.Spec PyProof.Rows L2
section
variable {P : Program} {w : World} {K : PySem.W.Frag}
  {mg : Str → Option Value} {base : Heap} {C : Addr}
theorem ok_betw {f : Addr} {fd : FuncData} {k : Nat}
    (F : Fun K "swaps_between" "swaps_between" s_swaps_between f fd)
    (B : Bl mg)
    (Cc : Cal P w K mg base k "check_order" ["base", "order"] (spFaultOk C))
    (Ce : Cal P w K mg base k "exchanged" ["order", "index"] (spExch K))
    (Cf : Cal P w K mg base k "first_opposite" ["order", "places"] spFopp) :
    FnOk P w K mg base CX0 (k + 1) f fd ["base", "order", "other"]
      (spBetw C) := by
  refine F.ok sc_swaps_between (fun vs H Q E h => ?_)
    (fun cv A outer s H vs Q E hr h => ?_)
  · obtain ⟨b, a, c, ls, os, ot, rfl, _⟩ := h
    rfl
  obtain ⟨b, a, c, ls, os, ot, rfl, o, o', q⟩ := h
  have nd := sc_swaps_between.nd
  have hu := hu_of hr
  refine ⟨_, pss_cons (ps_expr (pe_cal Cc hr (pa_cons (pv 0)
      (pa_cons (pv 1) pa_nil))))
    (pss_cons (ps_expr (pe_cal Cc hr (pa_cons (pv 0) (pa_cons (pv 2) pa_nil))))
    (pss_cons (ps_setDc (i := 3) (own := [("name", 4), ("at", 5)])
        (g := gTup K 2 (gCons (gName 5) (gCons (gName 4) gNil)))
        (tt := tYes) (by rfl) nd rfl rfl
        (swd_true rfl rfl rfl (by decide +kernel))
        (pi_enum (by rfl) B.enum (pa_cons (pv 2) pa_nil))
        (blkOk_by (N := N_swaps_between) (sc := defScope s_swaps_between)
          (by decide +kernel))
        (fun _ _ _ _ _ => pg_tup rfl (pgs_cons (pg_name (i := 5) nd rfl
          (Or.inl rfl)) (pgs_cons (pg_name (i := 4) nd rfl (Or.inl rfl))
          pgs_nil)))
        (fun _ _ _ _ _ => pts_nil) (fun _ _ _ _ _ => pv 4)
        (fun _ _ _ _ _ => pv 5))
    (pss_cons (ps_set (i := 6) nd rfl (.inl rfl)
      (pe_callTy call_list_of (by rfl) B.list bt_list (pa_cons (pv 1) pa_nil)))
    (pss_cons (ps_set (i := 7) nd rfl (.inl rfl) (pe_lst pa_nil))
    (pss_cons (ps_set (i := 8) nd rfl (.inl rfl) (pe_cal Cf hr (pa_cons (pv 6)
      (pa_cons (pv 3) pa_nil))))
    (pss_cons (ps_while PassesOwn.never
      (pt_cmpR op_notN (pv 8) pe_non (nomark _))
      (pss_cons (ps_expr (pe_bm PySem.F.plainAttrs_list
          PySem.F.slot_list_append PySem.F.type_list_append mt_append (pv 7)
          (pa_cons (pv 8) pa_nil)))
      (pss_cons (ps_set (i := 6) nd rfl (.inl rfl) (pe_cal Ce hr
        (pa_cons (pv 6) (pa_cons (pv 8) pa_nil))))
      (pss_one (ps_set (i := 8) nd rfl (.inl rfl) (pe_cal Cf hr
        (pa_cons (pv 6) (pa_cons (pv 3) pa_nil))))))))
    (pss_one (ps_ret (pv 7))))))))), ?_⟩
  have go := o.good.perm o.pm
  have gt := o.good.perm o'.pm
  have of0 : Of ot os := ⟨gt.nd, o.pm.trans o'.pm.symm⟩
  have hhi := gt.hi
  refine ⟨_, rfl, _, rfl, b, a, ls, os, rfl, o, fun H1 s1 => ?_⟩
  refine ⟨_, rfl, _, rfl, b, c, ls, ot, rfl, o'.same s1, fun H2 s2 => ?_⟩
  have s02 := s1.trans s2
  have oc := o'.same s02
  -- places
  refine ⟨_, rfl, c, _, rfl, SqL.of oc.li, fun d nd' => ?_⟩
  refine walkW (walk_enum (K := K) (a := c) (xs := ot.map vS))
    (fun i H' => H' d = some (.dK (prs 0 (ot.take i))) ∧ Same H2 H')
    ⟨upd_same, sameNew nd'⟩ (fun i H' _ z => SqL.up oc.li z.2) ?_ ?_
  · rintro i v H3 H4 hi ⟨hd, s3⟩ ⟨T', x1, x2, rfl, nT, rfl, e1, e2⟩
    obtain ⟨l, hl, rfl⟩ := get_map e2
    cases Option.some.inj e1
    rw [List.length_map] at hi
    refine ⟨T', _, rfl, .inl (.inl upd_same), rfl, _, _, rfl, _, _, rfl, rfl,
      rfl, yes ⟨_, rfl, _, rfl, prs 0 (ot.take i), Sum.inr (SX.S l), rfl, ?_, ?_,
      ?_, ?_⟩⟩
    · rw [upd_ne (ne_of_none hd nT)]
      exact hd
    · rw [prs_len, List.length_take]
      exact sz' (by omega)
    · rw [upd_same, putK_new _ (by
        rw [val_prs, if_neg (nodup_take gt.nd hl)]), take_snoc hl, prs_snoc,
        List.length_take, Nat.min_eq_left (by omega), Nat.zero_add]
    · exact OM.Same.put (s3.trans (sameNew nT)) nd'
  rintro H3 ⟨hd, s3⟩
  rw [List.take_of_length_le (by rw [List.length_map]; exact Nat.le_refl _)]
    at hd
  have s03 := s02.trans s3
  -- current, indexes
  refine ⟨_, rfl, a, _, rfl, .inl (SqL.of (s03 _ _ o.li)), fun u nu => ?_⟩
  have s4 : Same H3 (upd H3 u (.lst (os.map vS))) := sameNew nu
  have h4 : (upd H3 u (.lst (os.map vS))) u = some (.lst (os.map vS)) :=
    upd_same
  generalize upd H3 u (.lst (os.map vS)) = H4 at s4 h4 ⊢
  refine ⟨sz (by simp), fun x nx => ?_⟩
  have s5 : Same H4 (upd H4 x (.lst [])) := sameNew nx
  have h5 : (upd H4 x (.lst [])) x = some (.lst []) := upd_same
  generalize upd H4 x (.lst []) = H5 at s5 h5 ⊢
  have s05 := (s03.trans s4).trans s5
  have nx0 : H x = none := (s03.trans s4).free nx
  have nxd : d ≠ x := ne_of_none (s4 _ _ hd) nx
  have hd5 := s5 _ _ (s4 _ _ hd)
  refine ⟨_, rfl, _, rfl, u, d, ot, os, rfl, s5 _ _ h4, hd5, of0, by
    rw [of0.pm.length_eq]; omega, fun oo H6 ho s6 => ?_⟩
  have many := o'.good.many (ls := ls) os (Nat.le_refl _)
  refine ⟨fun m σ' H' => ∃ (cu : Addr) (os' : List (List Nat)) (ws : List Nat)
      (oo : Option Nat), σ' = [some (.ref b), some (.ref a), some (.ref c),
      some (.ref d), none, none, some (.ref cu), some (.ref x),
      some (foV oo)] ∧ H' cu = some (.lst (os'.map vS)) ∧ cu ≠ x ∧
      Of ot os' ∧ Fo ot os' oo ∧ Way ot os ws os' ∧
      H' x = some (.lst (ws.map vI)) ∧ H' d = some (.dK (prs 0 ot)) ∧
      m = (invAll ot os').length ∧ ws.length + m ≤ 1600 ∧ Same H H',
    ⟨_, u, os, [], oo, rfl, s6 _ _ (s5 _ _ h4), ne_of_none h4 nx, of0, ho,
      Way.refl _ _, s6 _ _ h5, s6 _ _ hd5, rfl, ?_, s05.trans s6⟩, ?_⟩
  · rw [List.length_nil, Nat.zero_add]
    exact gt.many os (Nat.le_refl _)
  rintro m σ' H7 ⟨cu, os', ws, oo, rfl, hc, ncx, of', fo, wy, hx, hd7, em, lm,
    s7⟩
  cases oo with
  | none =>
    refine ⟨_, rfl, rfl, _, rfl, iteF ⟨_, rfl, q x ws H7 nx0 hx (wy.done fo) s7⟩⟩
  | some i =>
    have ls' := fo.less of'
    have lo : os'.length = ot.length := of'.pm.length_eq
    refine ⟨_, rfl, rfl, _, rfl, iteT ⟨_, fun σ8 H8 z => z, ?_⟩⟩
    refine ⟨_, rfl, .inl ⟨rfl, _, SqL.of hx⟩, _, rfl, x, _, _, rfl, rfl, hx, ?_,
      ?_⟩
    · rw [List.length_map]
      exact sz' (by omega)
    show tSeq _ _ _ _ (upd H7 x (.lst (ws.map vI ++ [.int (i : Nat)])))
    have bx : But x H7 (upd H7 x (.lst (ws.map vI ++ [.int (i : Nat)]))) :=
      (But.refl H7).at
    have h8 : (upd H7 x (.lst (ws.map vI ++ [.int (i : Nat)]))) x =
      some (.lst (ws.map vI ++ [.int (i : Nat)])) := upd_same
    have s8 : Same H (upd H7 x (.lst (ws.map vI ++ [.int (i : Nat)]))) :=
      OM.Same.put s7 nx0
    generalize upd H7 x (.lst (ws.map vI ++ [.int (i : Nat)])) = H8
      at bx h8 s8 ⊢
    refine ⟨_, rfl, _, rfl, cu, _, i, rfl, SqL.of (bx _ _ hc ncx), ?_, ?_,
      fun n H9 nn hn s9 => ?_⟩
    · rw [List.length_map]; exact fo.1
    · rw [List.length_map]; omega
    rw [exch_map] at hn
    have d9 := s9 _ _ (bx _ _ hd7 nxd)
    refine ⟨_, rfl, _, rfl, n, d, ot, exch os' i, rfl, hn, d9, of'.exch i, by
      rw [exch_len]; omega, fun o2 H10 f2 s10 => ?_⟩
    refine ⟨_, (by omega : (invAll ot (exch os' i)).length < m), n, exch os' i,
      ws ++ [i], o2, rfl, s10 _ _ hn, (ne_of_none h8 nn).symm, of'.exch i, f2,
      wy.step fo, ?_, s10 _ _ d9, rfl, ?_, (s8.trans s9).trans s10⟩
    · rw [List.map_append]
      exact s10 _ _ (s9 _ _ h8)
    · rw [List.length_append, List.length_singleton]
      omega
end
end OM
namespace OM
open PySem PySem.Spec PyProof.Rows L2
/-- the entries behind some swaps, and how many were cancelled -/
def stS (ls : List (List Nat)) (r : List Nat) (z : List En × Nat) (i : Nat) :
    List En × Nat :=
  (rowsS ls z.1 i r,
    if outB ls (run ls (ixs z.1)) i = true then z.2 else z.2 + 1)
def stF (ls : List (List Nat)) (r : List Nat) (rows : List En)
    (ws : List Nat) : List En × Nat := ws.foldl (stS ls r) (rows, 0)
theorem stF_snoc {ls : List (List Nat)} {r : List Nat} {rows : List En}
    {ws : List Nat} {j i : Nat} (h : ws[j]? = some i) :
    stF ls r rows (ws.take (j + 1)) = stS ls r (stF ls r rows (ws.take j)) i := by
  unfold stF
  rw [take_snoc h, List.foldl_append]
  rfl
def eaT (n c : Nat) : HO := .tup [.int ((n : Int) - (c : Int)), .int (c : Int)]
def spEach (C L : Addr) : Sp := fun vs H Q _ =>
  ∃ (g ro b x : Addr) (ls : List (List Nat)) (rows : List En) (ws r : List Nat),
  vs = [.ref g, .ref x, vS r] ∧ LogAt C L H g ro b ls rows ∧
  H x = some (.lst (ws.map vI)) ∧ x ≠ ro ∧ Ixs ls.length ws ∧
  ws.length ≤ 1600 ∧ Rsn r ∧ ∀ t H',
    LogAt C L H' g ro b ls (stF ls r rows ws).1 →
    H' t = some (eaT ws.length (stF ls r rows ws).2) → But2 g ro H H' →
    Q (.ref t) H'
def spChkItem (C : Addr) : Sp := fun vs H Q _ =>
  ∃ (b : Addr) (ls : List (List Nat)) (l : List Nat), vs = [.ref b, vS l] ∧
  BaseAt C H b ls ∧ Good ls ∧ l ∈ ls ∧ ∀ H', Same H H' → Q .non H'
/-- the swaps of a move -/
def mvP (h i : Nat) : List Nat :=
  if h < i then (List.range (i - h)).map fun k => h + k
  else (List.range (h - i)).map fun k => h - 1 - k
def spMove (C L : Addr) : Sp := fun vs H Q _ =>
  ∃ (g ro b : Addr) (ls : List (List Nat)) (rows : List En) (l : List Nat)
    (i : Nat) (r : List Nat),
  vs = [.ref g, vS l, .int i, vS r] ∧ LogAt C L H g ro b ls rows ∧ l ∈ ls ∧
  i < ls.length ∧ Rsn r ∧ ∀ t H',
    LogAt C L H' g ro b ls (stF ls r rows
      (mvP ((run ls (ixs rows)).idxOf l) i)).1 →
    H' t = some (eaT (mvP ((run ls (ixs rows)).idxOf l) i).length
      (stF ls r rows (mvP ((run ls (ixs rows)).idxOf l) i)).2) →
    But2 g ro H H' → Q (.ref t) H'
def spAdopt (C L : Addr) : Sp := fun vs H Q _ =>
  ∃ (g ro b a : Addr) (ls : List (List Nat)) (rows : List En)
    (ot : List (List Nat)) (r : List Nat),
  vs = [.ref g, .ref a, vS r] ∧ LogAt C L H g ro b ls rows ∧
  H a = some (.lst (ot.map vS)) ∧ ot.Perm ls ∧ Rsn r ∧ ∀ t ws H',
    Pth ot (run ls (ixs rows)) ws →
    LogAt C L H' g ro b ls (stF ls r rows ws).1 →
    H' t = some (eaT ws.length (stF ls r rows ws).2) → But2 g ro H H' →
    Q (.ref t) H'
theorem mvP_ixs {h i n : Nat} (hh : h < n) (hi : i < n) : Ixs n (mvP h i) := by
  unfold mvP
  intro j hj
  split at hj
  · obtain ⟨k, hk, rfl⟩ := List.mem_map.mp hj
    have := List.mem_range.mp hk
    omega
  · obtain ⟨k, hk, rfl⟩ := List.mem_map.mp hj
    have := List.mem_range.mp hk
    omega
theorem mvP_len {h i n : Nat} (hh : h < n) (hi : i < n) :
    (mvP h i).length ≤ n := by
  unfold mvP
  split
  · rw [List.length_map, List.length_range]; omega
  · rw [List.length_map, List.length_range]; omega
section
variable {P : Program} {w : World} {K : PySem.W.Frag}
  {mg : Str → Option Value} {base : Heap} {C L : Addr}
theorem ok_each {f : Addr} {fd : FuncData} {k : Nat}
    (F : Fun K "swap_each" "SwapLog.swap_each" s_SwapLog_swap_each f fd)
    (B : Bl mg)
    (Ms : CalM P w K mg base L k "swap_checked" ["self", "index", "reason"]
      (spSwapC C L)) :
    FnOk P w K mg base CX0 (k + 1) f fd ["self", "indexes", "reason"]
      (spEach C L) := by
  refine F.ok sc_SwapLog_swap_each (fun vs H Q E h => ?_)
    (fun cv A outer s H vs Q E hr h => ?_)
  · obtain ⟨g, ro, b, x, ls, rows, ws, r, rfl, _⟩ := h
    rfl
  obtain ⟨g, ro, b, x, ls, rows, ws, r, rfl, X, hx, nx, ix, hn, hrs, q⟩ := h
  have nd := sc_SwapLog_swap_each.nd
  refine ⟨_, pss_cons (ps_set (i := 3) nd rfl (.inl rfl) pe_int)
    (pss_cons (ps_for PassesOwn.never rfl (pi_list (pv 1))
      (pg_name (i := 4) nd rfl (.inl rfl))
      (pss_one (ps_if (pt_cmpR op_notN (pe_calM Ms hr (pv 0) (pa_cons (pv 4)
          (pa_cons (pv 2) pa_nil))) pe_non (nomark _))
        (pss_one (ps_aug (i := 3) nd rfl (.inl rfl) pe_int ip_add)) pss_nil)))
    (pss_one (ps_ret (pe_tup (pa_cons (pe_op op_sub
      (pe_callB call_len_seq (by rfl) B.len PySem.boot_len
        (pa_cons (pv 1) pa_nil)) (pv 3)) (pa_cons (pv 3) pa_nil)))))), ?_⟩
  refine ⟨_, rfl, x, rfl, ⟨_, SqL.of hx⟩, ?_⟩
  have ngx : ∀ {H' : Hp} {rows' : List En}, LogAt C L H' g ro b ls rows' →
      ∀ {o}, H' x = some (.lst o) → x ≠ g := fun z o e => by
    obtain ⟨dx, cu, rs, h1, _⟩ := z.ob
    exact ne_of e h1 nofun
  refine for_list (K := K) (a := x) (xs := ws.map vI) (fun j σ H' =>
      ∃ y, σ = [some (.ref g), some (.ref x), some (vS r),
        some (.int ((stF ls r rows (ws.take j)).2 : Nat)), y] ∧
      LogAt C L H' g ro b ls (stF ls r rows (ws.take j)).1 ∧
      H' x = some (.lst (ws.map vI)) ∧ But2 g ro H H')
    ⟨none, rfl, X, hx, But2.of (Same.refl H)⟩
    (fun j σ H' _ z => by
      obtain ⟨_, _, _, e, _⟩ := z
      exact SqL.of e) ?_ ?_
  · rintro j v σ H1 hj ⟨y, rfl, X1, hx1, u1⟩
    rw [List.getElem?_map] at hj
    obtain ⟨i, hi, rfl⟩ := Option.map_eq_some_iff.mp hj
    have hix := ix i (List.mem_of_getElem? hi)
    obtain ⟨dx, cu, rs, h1, h2, h3, h4⟩ := X1.ob
    rw [stF_snoc hi]
    generalize stF ls r rows (ws.take j) = z at X1 ⊢
    refine ⟨_, rfl, g, dx, _, rfl, h1, lf_no _ _ _ (by decide +kernel)
      (by decide +kernel) (by decide +kernel), _, rfl, _, rfl, g, ro, b, ls, z.1,
      i, r, rfl, X1, hix, hrs, fun H2 X2 u2 => ⟨rfl, _, rfl, ?_⟩⟩
    have hx2 := u2 _ _ hx1 (ngx X1 hx1) nx
    have u12 := u1.trans u2
    unfold ansS stS
    cases ob : outB ls (run ls (ixs z.1)) i with
    | true =>
      rw [if_pos rfl]
      refine iteF ?_
      exact ⟨_, rfl, X2, hx2, u12⟩
    | false =>
      rw [if_neg nofun]
      refine iteT ⟨_, rfl, _, _, rfl, rfl, ?_⟩
      exact ⟨_, rfl, X2, hx2, u12⟩
  · rintro σ H1 ⟨y, rfl, X1, hx1, u1⟩
    rw [List.take_of_length_le (by rw [List.length_map]; exact Nat.le_refl _)]
      at X1 ⊢
    refine ⟨_, rfl, x, _, rfl, .inl (SqL.of hx1), _, rfl, _, _, rfl, rfl, _,
      rfl, sz (by simp), fun t nt => ?_⟩
    have s2 := sameNew (o := .tup [.int (((ws.map vI).length : Nat) -
      (((stF ls r rows ws).2 : Nat) : Int)),
      .int ((stF ls r rows ws).2 : Nat)]) nt
    refine q t _ (X1.same s2) ?_ (u1.trans (But2.of s2))
    rw [upd_same, List.length_map]
    rfl
theorem ok_chkitem {f : Addr} {fd : FuncData} {k : Nat}
    (F : Fun K "check_item" "check_item" s_check_item f fd)
    (Mh : CalM P w K mg base C k "has_item" ["self", "value"] (spHas K C)) :
    FnOk P w K mg base CX0 (k + 1) f fd ["base", "value"] (spChkItem C) := by
  refine F.ok sc_check_item (fun vs H Q E h => ?_)
    (fun cv A outer s H vs Q E hr h => ?_)
  · obtain ⟨b, ls, l, rfl, _⟩ := h
    rfl
  obtain ⟨b, ls, l, rfl, hb, gd, hl, q⟩ := h
  refine ⟨_, pss_one (ps_if (pt_not (pt_val (pe_calM Mh hr (pv 0)
    (pa_cons (pv 1) pa_nil)))) (pss_one ps_never) pss_nil), ?_⟩
  obtain ⟨dx, lo, d, h1, h2, h3⟩ := hb.ob
  refine ⟨_, rfl, b, dx, _, rfl, h1, bf_no _ _ (by decide +kernel)
    (by decide +kernel), _, rfl, b, ls, _, rfl, hb, gd.nm, .inl ⟨_, rfl, ?_,
    fun H1 s1 => ⟨_, rfl, ?_⟩⟩⟩
  · rw [SX.S_len]
    have := (gd.nm l hl).hi
    exact sz (by omega)
  · rw [show (SX.S l).cps.toList = l by rfl, decide_eq_true hl]
    exact iteF (q H1 s1)
theorem ok_adopt {f : Addr} {fd : FuncData} {k : Nat}
    (F : Fun K "adopt" "SwapLog.adopt" s_SwapLog_adopt f fd)
    (T : LC K mg L)
    (Cc : Cal P w K mg base k "check_order" ["base", "order"] (spFaultOk C))
    (Cr : Cal P w K mg base k "check_reason" ["reason"] spChkRsn)
    (Cb : Cal P w K mg base k "swaps_between" ["base", "order", "other"]
      (spBetw C))
    (Ms : CalM P w K mg base L k "swap_each" ["self", "indexes", "reason"]
      (spEach C L)) :
    FnOk P w K mg base CX0 (k + 1) f fd ["self", "order", "reason"]
      (spAdopt C L) := by
  refine F.ok sc_SwapLog_adopt (fun vs H Q E h => ?_)
    (fun cv A outer s H vs Q E hr h => ?_)
  · obtain ⟨g, ro, b, a, ls, rows, ot, r, rfl, _⟩ := h
    rfl
  obtain ⟨g, ro, b, a, ls, rows, ot, r, rfl, x, ha, pm, hrs, q⟩ := h
  refine ⟨_, pss_cons (ps_expr (pe_cal Cc hr (pa_cons (pe_fld (pv 0) rfl)
      (pa_cons (pv 1) pa_nil))))
    (pss_cons (ps_expr (pe_cal Cr hr (pa_cons (pv 2) pa_nil)))
    (pss_one (ps_ret (pe_calM Ms hr (pv 0) (pa_cons (pe_cal Cb hr
      (pa_cons (pe_fld (pv 0) rfl) (pa_cons (pe_fld (pv 0) rfl)
        (pa_cons (pv 1) pa_nil)))) (pa_cons (pv 2) pa_nil)))))), ?_⟩
  obtain ⟨dx, cu, rs, h1, h2, h3, h4⟩ := x.ob
  have o1 : Ord C H b a ls ot := ⟨x.ba, x.good, ha, pm⟩
  have o2 : Ord C H b cu ls (run ls (ixs rows)) := ⟨x.ba, x.good, h2, x.perm⟩
  refine ⟨_, rfl, g, L, dx, _, _, rfl, h1, T.cl, T.nG, lf_ground _ _ _, _, rfl,
    b, a, ls, ot, rfl, o1, fun H1 s1 => ?_⟩
  refine ⟨_, rfl, r, rfl, hrs, fun H2 s2 => ?_⟩
  have s12 := s1.trans s2
  have x2 := x.same s12
  have g2 := s12 _ _ h1
  refine ⟨_, rfl, g, dx, _, rfl, g2, lf_no _ _ _ (by decide +kernel)
    (by decide +kernel) (by decide +kernel), _, rfl, g, L, dx, _, _, rfl, g2,
    T.cl, T.nG, lf_ground _ _ _, _, rfl, g, L, dx, _, _, rfl, g2, T.cl, T.nC,
    lf_current _ _ _, _, rfl, b, cu, a, ls, _, ot, rfl, o2.same s12,
    o1.same s12, fun n ws H3 nn hn pt s3 => ?_⟩
  have gt := x.good.perm pm
  have of0 : Of ot (run ls (ixs rows)) := ⟨gt.nd, x.perm.trans pm.symm⟩
  have lw := pt.len of0
  have lw' := gt.many (run ls (ixs rows)) (Nat.le_refl _)
  have px := pt.ixs
  rw [run_len] at px
  refine ⟨_, rfl, g, ro, b, n, ls, rows, ws, r, rfl, x2.same s3, hn, ?_, px, ?_,
    hrs, fun t H4 x4 ht u4 => q t ws H4 pt x4 ht
      ((But2.of (s12.trans s3)).trans u4)⟩
  · exact (ne_of_none (s12 _ _ h3) nn).symm
  · exact Nat.le_trans lw lw'
end
end OM
namespace OM
open PySem PySem.Spec PyProof.Rows L2
theorem rgV_up {h i : Nat} (c : h < i) :
    rgV (h : Int) (i : Int) = (mvP h i).map vI := by
  unfold rgV mvP
  rw [if_pos c, List.map_map]
  rw [show ((i : Int) - (h : Int)).toNat = i - h by omega]
  refine List.map_congr_left fun k _ => ?_
  show V.int _ = V.int _
  congr 1
theorem rgC_down {h i n : Nat} (c : ¬ h < i) (hn : n = h - i) :
    rgC ((h : Int) - 1) (-1) n = (mvP h i).map vI := by
  unfold rgC mvP
  rw [if_neg c, List.map_map, hn]
  refine List.map_congr_left fun k hk => ?_
  have := List.mem_range.mp hk
  show V.int ((h : Int) - 1 + (k : Nat) * (-1)) =
    V.int (((h - 1 - k : Nat) : Nat) : Int)
  congr 1
  omega
section
variable {P : Program} {w : World} {K : PySem.W.Frag}
  {mg : Str → Option Value} {base : Heap} {C L : Addr}
theorem ok_move {f fl : Addr} {fd fdl : FuncData} {k n : Nat}
    (F : Fun K "move" "SwapLog.move" s_SwapLog_move f fd)
    (B : Bl mg) (T : LC K mg L)
    (Cc : Cal P w K mg base k "check_item" ["base", "value"] (spChkItem C))
    (Ci : Cal P w K mg base k "is_integer_from" ["value", "low", "high"]
      spIntFrom)
    (Sl : Spec1 K C "__len__" fl fdl ["self"])
    (Gl : FnOk P w K mg base CX0 n fl fdl ["self"] (spLenB C))
    (hn : n + 1 ≤ k)
    (Cr : Cal P w K mg base k "check_reason" ["reason"] spChkRsn)
    (Ms : CalM P w K mg base L k "swap_each" ["self", "indexes", "reason"]
      (spEach C L)) :
    FnOk P w K mg base CX0 (k + 1) f fd ["self", "item", "index", "reason"]
      (spMove C L) := by
  refine F.ok sc_SwapLog_move (fun vs H Q E h => ?_)
    (fun cv A outer s H vs Q E hr h => ?_)
  · obtain ⟨g, ro, b, ls, rows, l, i, r, rfl, _⟩ := h
    rfl
  obtain ⟨g, ro, b, ls, rows, l, i, r, rfl, x, hl, hi, hrs, q⟩ := h
  have nd := sc_SwapLog_move.nd
  have hrn := hr.mono hn
  refine ⟨_, pss_cons (ps_expr (pe_cal Cc hr (pa_cons (pe_fld (pv 0) rfl)
      (pa_cons (pv 1) pa_nil))))
    (pss_cons (ps_if (pt_not (pt_val (pe_cal Ci hr (pa_cons (pv 2)
        (pa_cons pe_int (pa_cons (pe_op op_sub
          (pe_callB (call_lenOwn Sl Gl hrn) (by rfl) B.len PySem.boot_len
            (pa_cons (pe_fld (pv 0) rfl) pa_nil)) pe_int) pa_nil))))))
      (pss_one ps_never) pss_nil)
    (pss_cons (ps_expr (pe_cal Cr hr (pa_cons (pv 3) pa_nil)))
    (pss_cons (ps_set (i := 4) nd rfl (.inl rfl)
      (pe_bm PySem.F.plainAttrs_list PySem.F.slot_list_index
        PySem.F.type_list_index mt_index (pe_fld (pv 0) rfl)
        (pa_cons (pv 1) pa_nil)))
    (pss_cons (ps_if (pt_cmpR op_lt (pv 4) (pv 2) (nomark _))
      (pss_one (ps_ret (pe_calM Ms hr (pv 0) (pa_cons
        (pe_listRg (by rfl) (by rfl) B.list (prg_2 (by rfl) B.range (pv 4)
          (pv 2))) (pa_cons (pv 3) pa_nil))))) pss_nil)
    (pss_one (ps_ret (pe_calM Ms hr (pv 0) (pa_cons
      (pe_listC (by rfl) (by rfl) B.list (by rfl) B.range
        (pa_cons (pe_op op_sub (pv 4) pe_int) (pa_cons (pe_op op_sub (pv 2)
          pe_int) (pa_cons (pe_un un_neg pe_int) pa_nil)))) (pa_cons (pv 3)
        pa_nil))))))))), ?_⟩
  obtain ⟨dx, cu, rs, h1, h2, h3, h4⟩ := x.ob
  have h40 := x.good.hi
  have ol := x.oLen
  have mo : l ∈ run ls (ixs rows) := x.perm.mem_iff.mpr hl
  refine ⟨_, rfl, g, L, dx, _, _, rfl, h1, T.cl, T.nG, lf_ground _ _ _, _, rfl,
    b, ls, l, rfl, x.ba, x.good, hl, fun H1 s1 => ?_⟩
  obtain ⟨dy, lo, d, k1, k2, k3⟩ := (x.ba.same s1).ob
  refine ⟨_, rfl, _, rfl, g, L, dx, _, _, rfl, s1 _ _ h1, T.cl, T.nG,
    lf_ground _ _ _, b, dy, _, rfl, k1, b, ls, rfl, x.ba.same s1, ls.length,
    rfl, by omega, _, _, rfl, rfl, (i : Int), 0, _, rfl, _, rfl, ?_⟩
  rw [decide_eq_true (show (0 : Int) ≤ (i : Int) by omega),
    decide_eq_true (show (i : Int) ≤ (ls.length : Int) - 1 by omega)]
  refine iteF ?_
  refine ⟨_, rfl, r, rfl, hrs, fun H2 s2 => ?_⟩
  have s12 := s1.trans s2
  have g2 := s12 _ _ h1
  have hS := SqL.of (K := K) (s12 _ _ h2)
  have hlt := List.idxOf_lt_length_of_mem mo
  refine ⟨_, rfl, g, L, dx, _, _, rfl, g2, T.cl, T.nC, lf_current _ _ _,
    .inl ⟨rfl, _, hS⟩, _, rfl, cu, _, _, (run ls (ixs rows)).idxOf l, vS l,
    rfl, rfl, hS, rfl, flat_S _, idx_get mo, eqV_self l, idx_first, ?_⟩
  generalize (run ls (ixs rows)).idxOf l = h at q hlt ⊢
  have hh : h < ls.length := by omega
  have fin : ∀ (y : Addr) (H3 : Hp), H2 y = none → H3 y =
      some (.lst ((mvP h i).map vI)) → Same H2 H3 → spEach C L [.ref g, .ref y,
        vS r] H3 Q E := fun y H3 ny hy s3 => by
    refine ⟨g, ro, b, y, ls, rows, mvP h i, r, rfl, (x.same s12).same s3, hy, ?_,
      mvP_ixs hh hi, ?_, hrs, fun t H4 x4 ht u4 => q t H4 x4 ht
        ((But2.of (s12.trans s3)).trans u4)⟩
    · exact (ne_of_none (s12 _ _ h3) ny).symm
    · have := mvP_len hh hi
      omega
  refine ⟨_, rfl, _, rfl, _, _, rfl, rfl, _, rfl, ite2 (fun c => ?_)
    (fun c => ?_)⟩
  · have c' : h < i := by
      have : (h : Int) < (i : Int) := of_decide_eq_true c
      omega
    refine ⟨_, rfl, g, dx, _, rfl, g2, lf_no _ _ _ (by decide +kernel)
      (by decide +kernel) (by decide +kernel), _, rfl, _, rfl, _, _, rfl, rfl,
      RgOk.of_le (by omega) (by omega) (by omega) (by omega),
      fun y ny => ⟨_, rfl, ?_⟩⟩
    rw [rgV_up c']
    exact fin y _ ny upd_same (sameNew ny)
  · have c' : ¬ h < i := fun z => c (decide_eq_true (by omega))
    refine ⟨_, rfl, g, dx, _, rfl, g2, lf_no _ _ _ (by decide +kernel)
      (by decide +kernel) (by decide +kernel), _, rfl, _, _, rfl, rfl, _, rfl,
      _, _, rfl, rfl, _, rfl, _, _, _, h - i, rfl, ?_, by omega,
      fun y ny => ⟨_, rfl, ?_⟩⟩
    · have := RgC.neg (i := (h : Int) - 1) (j := (i : Int) - 1) (by omega)
        (by omega) (by omega) (by omega)
      rw [show ((h : Int) - 1 - ((i : Int) - 1)).toNat = h - i by omega] at this
      exact this
    · rw [rgC_down c' rfl]
      exact fin y _ ny upd_same (sameNew ny)
end
end OM
namespace OM
open PySem PySem.Spec PyProof.Rows L2
theorem dgI {H : Hp} {s it od en : Addr} (e : H s = some (.dK (st3 it od en))) :
    DGet H s (.str (Str.ofString "items")) (some (.ref it)) := by
  have := DGet.k (k := kI) e
  rw [st3_I] at this
  exact this
theorem dgO {H : Hp} {s it od en : Addr} (e : H s = some (.dK (st3 it od en))) :
    DGet H s (.str (Str.ofString "order")) (some (.ref od)) := by
  have := DGet.k (k := kO) e
  rw [st3_O] at this
  exact this
theorem dgE {H : Hp} {s it od en : Addr} (e : H s = some (.dK (st3 it od en))) :
    DGet H s (.str (Str.ofString "entries")) (some (.ref en)) := by
  have := DGet.k (k := kE) e
  rw [st3_E] at this
  exact this
section
variable {P : Program} {w : World} {K : PySem.W.Frag}
  {mg : Str → Option Value} {base : Heap}
theorem ok_lsw {f : Addr} {fd : FuncData} {k : Nat}
    (F : Fun K "_law_swap" "_law_swap" s_Lswap f fd)
    (Ce : Cal P w K mg base k "_law_swapped_entries" ["_law_items",
      "_law_entries", "_law_order", "_law_index", "_law_label"]
      spSwEnt) :
    FnOk P w K mg base CX0 (k + 1) f fd ["_law_model", "_law_index",
      "_law_label"] spDone := by
  refine F.ok sc_Lswap (fun vs H Q E h => ?_)
    (fun cv A outer s H vs Q E hr h => ?_)
  · obtain ⟨s, it, en, ls, rows, i, r, rfl, _⟩ := h
    rfl
  obtain ⟨sa, it, en, ls, rows, i, r, rfl, x, st, hi, hrs, q⟩ := h
  have nd := sc_Lswap.nd
  have hu := hu_of hr
  refine ⟨_, C8.pss_cut (ps_par3 (i := 3) (j := 4) (l := 5) (by rfl) nd rfl rfl
      rfl (by decide) (by decide) (by decide) rfl rfl rfl
      (pa_cons (pe_dget hu (pv 0) pe_str (fun _ _ => rfl))
        (pa_cons (pe_dget hu (pv 0) pe_str (fun _ _ => rfl))
          (pa_cons (pe_dget hu (pv 0) pe_str (fun _ _ => rfl)) pa_nil)))
      (by rfl))
    (C8.pss_cut (ps_asg (pe_cal Ce hr (pa_cons (pv 3) (pa_cons (pv 4)
        (pa_cons (pv 5) (pa_cons (pv 1) (pa_cons (pv 2) pa_nil))))))
      (pg_tup rfl (pgs_cons (pg_sub (pv 0) pe_str (set_dict hu))
        (pgs_cons (pg_name (i := 6) nd rfl (.inl rfl)) pgs_nil))))
    (pss_cons (ps_dput hu (pv 0) pe_str (pe_op op_cat (pe_op op_cat
      (pe_slice sl_list (pv 5) po_none (po_some (pv 1)))
      (pe_lst (pa_cons (pe_ix ix_list (pv 5) (pe_op op_add (pv 1) pe_int)
          (fun _ _ => rfl))
        (pa_cons (pe_ix ix_list (pv 5) (pv 1) (fun _ _ => rfl)) pa_nil))))
      (pe_slice sl_list (pv 5) (po_some (pe_op op_add (pv 1) pe_int))
        po_none)) rfl)
    (pss_one (ps_ret (pv 6))))), ?_⟩
  obtain ⟨od, rs, h1, h2, h3, h4, h5⟩ := st.ob
  have ol : (run ls (ixs rows)).length = ls.length := run_len _ _
  have h40 := x.good.hi
  obtain ⟨x', st2⟩ := x.step hi hrs
  refine ⟨fun σ' H' => σ' = [some (.ref sa), some (.int i), some (vS r),
    some (.ref it), some (.ref en), some (.ref od), none] ∧ H = H', ?_, ?_⟩
  · exact ⟨_, rfl, sa, _, rfl, dgI h1, _, rfl, sa, _, rfl, dgE h1, _, rfl, sa,
      _, rfl, dgO h1, _, _, _, rfl, rfl, rfl⟩
  rintro _ _ ⟨rfl, rfl⟩
  refine ⟨fun σ' H' => ∃ n rs' , σ' = [some (.ref sa), some (.int i),
    some (vS r), some (.ref it), some (.ref en), some (.ref od),
    some (ansS ls rows i)] ∧ H n = none ∧ H' sa = some (.dK (st3 it od n)) ∧
    sa ≠ n ∧ H' n = some (.lst (rs'.map V.ref)) ∧
    EnsAt H' rs' (rowsS ls rows i r) ∧ H' it = some (.lst (ls.map vS)) ∧
    H' od = some (.lst ((run ls (ixs rows)).map vS)) ∧ But sa H H', ?_, ?_⟩
  · refine ⟨_, rfl, _, rfl, _, rfl, _, rfl, _, rfl, it, en,
      od, ls, rows, rs, i, r, rfl, x, h2, h4, h5, h3, hi,
      fun t n rs' H1 nn ht hn hes s1 => ?_⟩
    have g1 := s1 _ _ h1
    have nsn : sa ≠ n := ne_of_none h1 nn
    refine ⟨t, _, rfl, .inl (.inl ht), rfl, _, _, rfl, _, rfl, sa, _, rfl,
      DPut.k (k := kE) g1 (by show 3 < sizeLine; decide), _, _, rfl, rfl, ?_⟩
    rw [put_E]
    have b2 : But sa H1 (upd H1 sa (.dK (st3 it od n))) := (But.refl H1).at
    have o1 := s1 _ _ h3
    have i1 := s1 _ _ h2
    refine ⟨n, rs', rfl, nn, upd_same, nsn, b2 _ _ hn nsn.symm, hes.keep fun a xs e =>
      b2 _ _ e (ne_of e g1 nofun), b2 _ _ i1 (ne_of i1 g1 nofun),
      b2 _ _ o1 (ne_of o1 g1 nofun), fun y o e m => b2 _ _ (s1 _ _ e) m⟩
  rintro _ H2 ⟨n, rs', rfl, nn, g2, nsn, n2, e2, it2, o2, b2⟩
  have hS : SqL K H2 od ((run ls (ixs rows)).map vS) := SqL.of o2
  generalize hos : run ls (ixs rows) = os at *
  have hil : i + 1 < (os.map vS).length := by rw [List.length_map]; omega
  refine ⟨_, rfl, _, rfl, i, rfl, od, _, rfl, hS, fun p1 n1 => ?_⟩
  rw [cut_to _ (by omega)]
  have s3 : Same H2 (upd H2 p1 (.lst ((os.map vS).take i))) := sameNew n1
  have k3 : (upd H2 p1 (.lst ((os.map vS).take i))) p1 =
    some (.lst ((os.map vS).take i)) := upd_same
  generalize upd H2 p1 (.lst ((os.map vS).take i)) = H3 at s3 k3 ⊢
  have hS3 := s3.seq hS
  refine ⟨_, rfl, _, rfl, _, _, rfl, rfl, od, _, _, (os.map vS)[i + 1], rfl, rfl,
    hS3, atI_nat (j := i + 1) (List.getElem?_eq_getElem hil), _, rfl, _, rfl,
    od, _, _, (os.map vS)[i], rfl, rfl, hS3, atI_nat (j := i)
    (List.getElem?_eq_getElem (by omega)), sz (by simp), fun p2 m2 => ?_⟩
  have s4 : Same H3 (upd H3 p2 (.lst [(os.map vS)[i + 1], (os.map vS)[i]])) :=
    sameNew m2
  have k4 : (upd H3 p2 (.lst [(os.map vS)[i + 1], (os.map vS)[i]])) p2 =
    some (.lst [(os.map vS)[i + 1], (os.map vS)[i]]) := upd_same
  generalize upd H3 p2 (.lst [(os.map vS)[i + 1], (os.map vS)[i]]) = H4
    at s4 k4 ⊢
  refine ⟨p1, p2, _, _, rfl, rfl, s4 _ _ k3, k4, ?_, fun p3 m3 => ?_⟩
  · rw [List.length_take]
    exact sz (by simp; omega)
  have s5 : Same H4 (upd H4 p3 (.lst ((os.map vS).take i ++
    [(os.map vS)[i + 1], (os.map vS)[i]]))) := sameNew m3
  have k5 : (upd H4 p3 (.lst ((os.map vS).take i ++
    [(os.map vS)[i + 1], (os.map vS)[i]]))) p3 =
    some (.lst ((os.map vS).take i ++
      [(os.map vS)[i + 1], (os.map vS)[i]])) := upd_same
  generalize upd H4 p3 (.lst ((os.map vS).take i ++
    [(os.map vS)[i + 1], (os.map vS)[i]])) = H5 at s5 k5 ⊢
  refine ⟨_, rfl, _, rfl, _, _, rfl, rfl, _, rfl, od, _, rfl,
    s5.seq (s4.seq hS3), fun p4 m4 => ?_⟩
  rw [show (i : Int) + 2 = ((i + 2 : Nat) : Int) by omega,
    cut_from _ (by omega)]
  have s6 : Same H5 (upd H5 p4 (.lst ((os.map vS).drop (i + 2)))) := sameNew m4
  have k6 : (upd H5 p4 (.lst ((os.map vS).drop (i + 2)))) p4 =
    some (.lst ((os.map vS).drop (i + 2))) := upd_same
  generalize upd H5 p4 (.lst ((os.map vS).drop (i + 2))) = H6 at s6 k6 ⊢
  refine ⟨p3, p4, _, _, rfl, rfl, s6 _ _ k5, k6, ?_, fun p5 m5 => ?_⟩
  · rw [List.length_append, List.length_take, List.length_drop]
    exact sz (by simp; omega)
  rw [← exch_eq hil, exch_map]
  have s7 : Same H6 (upd H6 p5 (.lst ((exch os i).map vS))) := sameNew m5
  have k7 : (upd H6 p5 (.lst ((exch os i).map vS))) p5 =
    some (.lst ((exch os i).map vS)) := upd_same
  generalize upd H6 p5 (.lst ((exch os i).map vS)) = H7 at s7 k7 ⊢
  have s27 := (((s3.trans s4).trans s5).trans s6).trans s7
  have g7 := s27 _ _ g2
  refine ⟨_, rfl, sa, _, rfl, DPut.k (k := kO) g7 (by
    show 3 < sizeLine; decide), ?_⟩
  rw [put_O]
  have b8 : But sa H7 (upd H7 sa (.dK (st3 it p5 n))) := (But.refl H7).at
  refine ⟨_, rfl, q n _ nn ⟨p5, rs', upd_same, ?_, ?_, ?_, ?_⟩ ?_⟩
  · have z := s27 _ _ it2
    exact b8 _ _ z (ne_of z g7 nofun)
  · rw [st2]
    exact b8 _ _ k7 (ne_of k7 g7 nofun)
  · exact b8 _ _ (s27 _ _ n2) nsn.symm
  · exact (e2.same s27).keep fun a xs e => b8 _ _ e (ne_of e g7 nofun)
  · exact fun y o e m => b8 _ _ (s27 _ _ (b2 _ _ e m)) m
end
end OM
namespace OM
open PySem PySem.Spec PyProof.Rows L2
def cntN (ps : List V) : Nat := (ps.filter fun v => !decide (v = .non)).length
theorem cntN_snoc (ps : List V) (v : V) : cntN (ps ++ [v]) =
    cntN ps + if v = .non then 0 else 1 := by
  unfold cntN
  rw [List.filter_append, List.length_append]
  congr 1
  by_cases h : v = .non
  · rw [List.filter_cons_of_neg (by simp [h]), if_pos h]
    rfl
  · rw [List.filter_cons_of_pos (by simp [h]), if_neg h]
    rfl
def spLSws : Sp := fun vs H Q _ =>
  ∃ (s it en x : Addr) (ls : List (List Nat)) (rows : List En) (ws r : List Nat),
  vs = [.ref s, .ref x, vS r] ∧ Rw ls rows ∧ StAt H s it en ls rows ∧
  H x = some (.lst (ws.map vI)) ∧ Ixs ls.length ws ∧ ws.length ≤ 1600 ∧
  Rsn r ∧ ∀ en' t H', (en' = en ∨ H en' = none) →
    StAt H' s it en' ls (stF ls r rows ws).1 →
    H' t = some (eaT ws.length (stF ls r rows ws).2) → But s H H' →
    Q (.ref t) H'
theorem stF_rw {ls : List (List Nat)} {r : List Nat} (hr : Rsn r) :
    ∀ {ws : List Nat} {z : List En × Nat}, Rw ls z.1 → Ixs ls.length ws →
    Rw ls (ws.foldl (stS ls r) z).1
  | [], _, x, _ => x
  | i :: ws, z, x, h => stF_rw hr (z := stS ls r z i)
      (x.step (h i List.mem_cons_self) hr).1
      (fun j hj => h j (List.mem_cons_of_mem _ hj))
/-- none or a whole number each -/
def NI (ps : List V) : Prop := ∀ v ∈ ps, v = .non ∨ ∃ i, v = .int i
theorem ne_NI {H : Hp} {a D : Addr} {os : List (List Nat)} {ps : List V}
    (h : H a = some (.lst (os.map vS))) (ne : os ≠ [])
    (hD : H D = some (.lst ps)) (np : NI ps) : a ≠ D := by
  refine ne_of h hD fun z => ?_
  have z' := HO.lst.inj z
  cases os with
  | nil => exact ne rfl
  | cons l r =>
    rw [List.map_cons] at z'
    rcases np (vS l) (by rw [← z']; exact List.mem_cons_self) with e | ⟨i, e⟩
    · cases e
    · cases e
theorem StAt.putD {H : Hp} {s it en D : Addr} {ls : List (List Nat)}
    {rows : List En} {ps ps' : List V} (x : StAt H s it en ls rows)
    (ne : ls ≠ []) (hD : H D = some (.lst ps)) (np : NI ps) (nD : en ≠ D) :
    StAt (upd H D (.lst ps')) s it en ls rows := by
  obtain ⟨od, rs, h1, h2, h3, h4, h5⟩ := x.ob
  have b : But D H (upd H D (.lst ps')) := (But.refl H).at
  exact ⟨od, rs, b _ _ h1 (ne_of h1 hD nofun), b _ _ h2 (ne_NI h2 ne hD np),
    b _ _ h3 (ne_NI h3 (run_ne _ ne) hD np), b _ _ h4 nD,
    h5.keep fun a xs e => b _ _ e (ne_of e hD nofun)⟩
section
variable {P : Program} {w : World} {K : PySem.W.Frag}
  {mg : Str → Option Value} {base : Heap}
theorem ok_lsws {f : Addr} {fd : FuncData} {k : Nat}
    (F : Fun K "_law_swaps" "_law_swaps" s_Lswaps f fd) (B : Bl mg)
    (Cs : Cal P w K mg base k "_law_swap" ["_law_model", "_law_index",
      "_law_label"] spDone) :
    FnOk P w K mg base CX0 (k + 1) f fd ["_law_model", "_law_path",
      "_law_label"] spLSws := by
  refine F.ok sc_Lswaps (fun vs H Q E h => ?_)
    (fun cv A outer s H vs Q E hr h => ?_)
  · obtain ⟨s, it, en, x, ls, rows, ws, r, rfl, _⟩ := h
    rfl
  obtain ⟨sa, it, en, x, ls, rows, ws, r, rfl, X, st, hx, ix, hn, hrs, q⟩ := h
  have nd := sc_Lswaps.nd
  refine ⟨_, C8.pss_cut (ps_setLc (i := 3) (own := [("_law_index", 4)])
      (g := gName 4) (tt := tYes) (by rfl) nd rfl rfl
      (sw_true rfl rfl rfl (by decide +kernel))
      (pi_list (pv 1))
      (blkOk_by (N := N_Lswaps) (sc := defScope s_Lswaps) (by decide +kernel))
      (fun _ _ _ _ _ => pg_name (i := 4) nd rfl (Or.inl rfl))
      (fun _ _ _ _ _ => pts_nil)
      (fun _ _ _ _ _ => pe_cal Cs hr (pa_cons (pv 0) (pa_cons (pv 4)
        (pa_cons (pv 2) pa_nil)))))
    (C8.pss_cut (ps_set (i := 5) nd rfl (.inl rfl)
      (pe_callB call_len_seq (by rfl) B.len PySem.boot_len (pa_cons
        (pe_lc (own := [("_law_position", 6)]) (g := gName 6) rfl nd
          (pi_list (pv 3))
          (blkOk_by (N := N_Lswaps) (sc := defScope s_Lswaps)
            (by decide +kernel))
          (fun _ _ _ _ _ => pg_name (i := 6) nd rfl (Or.inl rfl))
          (fun _ _ _ _ _ => pts_one (pt_cmpR op_notN (pv 6) pe_non
            (nomark _)))
          (fun _ _ _ _ _ => pv 6)) pa_nil)))
    (pss_one (ps_ret (pe_tup (pa_cons (pe_op op_sub
      (pe_callB call_len_seq (by rfl) B.len PySem.boot_len
        (pa_cons (pv 3) pa_nil)) (pv 5)) (pa_cons (pv 5) pa_nil)))))), ?_⟩
  obtain ⟨od, rs, h1, h2, h3, h4, h5⟩ := st.ob
  have nxs : x ≠ sa := ne_of hx h1 nofun
  refine ⟨fun σ' H' => ∃ en' D ps, σ' = [some (.ref sa), some (.ref x),
    some (vS r), some (.ref D), none, none, none] ∧ ps.length = ws.length ∧
    cntN ps = (stF ls r rows ws).2 ∧ (en' = en ∨ H en' = none) ∧
    StAt H' sa it en' ls (stF ls r rows ws).1 ∧ H' D = some (.lst ps) ∧
    But sa H H', ?_, ?_⟩
  · refine ⟨_, rfl, x, rfl, ⟨_, SqL.of hx⟩, fun D nD => ?_⟩
    have nDs : D ≠ sa := (ne_of_none h1 nD).symm
    refine walkW (walk_list (K := K) (a := x) (xs := ws.map vI))
      (fun j H' => ∃ en' ps, ps.length = j ∧
        cntN ps = (stF ls r rows (ws.take j)).2 ∧ (en' = en ∨ H en' = none) ∧
        en' ≠ D ∧ NI ps ∧
        StAt H' sa it en' ls (stF ls r rows (ws.take j)).1 ∧
        H' D = some (.lst ps) ∧ H' x = some (.lst (ws.map vI)) ∧ But sa H H')
      ⟨en, [], rfl, rfl, .inl rfl, ne_of_none h4 nD, nofun, st.same (sameNew nD),
        upd_same, sameNew nD _ _ hx, But.of (sameNew nD)⟩
      (fun j H' _ z => by
        obtain ⟨_, _, _, _, _, _, _, _, _, e, _⟩ := z
        exact SqL.of e) ?_ ?_
    · rintro j v H3 H4 hj ⟨en', ps, lp, cp, ee, neD, np, st3', hD, hx3, b3⟩
        ⟨rfl, hv⟩
      rw [List.getElem?_map] at hv
      obtain ⟨i, hi, rfl⟩ := Option.map_eq_some_iff.mp hv
      have hix := ix i (List.mem_of_getElem? hi)
      have Xj : Rw ls (stF ls r rows (ws.take j)).1 :=
        stF_rw hrs X fun i hi => ix i (List.mem_of_mem_take hi)
      rw [stF_snoc hi]
      generalize stF ls r rows (ws.take j) = z at Xj st3' cp ⊢
      rw [List.length_map] at hj
      refine ⟨rfl, yes ⟨_, rfl, _, rfl, _, rfl, sa, it, en', ls, z.1, i, r, rfl,
        Xj, st3', hix, hrs, fun en2 H5 ne2 st5 b5 => ?_⟩⟩
      have hD5 := b5 _ _ hD nDs
      have neD2 : en2 ≠ D := (ne_of_none hD ne2).symm
      have nxD : x ≠ D := ne_of_none hx nD
      refine ⟨ps, hD5, ?_, en2, ps ++ [ansS ls z.1 i], ?_, ?_, .inr ?_, neD2, ?_,
        st5.putD X.good.ne hD5 np neD2, upd_same, ?_, ?_⟩
      · exact sz' (by omega)
      · rw [List.length_append, lp]
        rfl
      · rw [cntN_snoc, cp]
        unfold ansS stS
        cases ob : outB ls (run ls (ixs z.1)) i with
        | true =>
          rw [if_pos rfl, if_pos rfl, if_pos rfl]
          rfl
        | false =>
          rw [if_neg nofun, if_neg nofun]
      · exact b3.free (fun e => by
          rw [e] at ne2
          obtain ⟨_, _, e1, _⟩ := st3'.ob
          rw [e1] at ne2
          cases ne2) ne2
      · intro v hv
        rcases List.mem_append.mp hv with h | h
        · exact np v h
        · rw [List.mem_singleton.mp h]
          unfold ansS
          split
          · exact .inl rfl
          · exact .inr ⟨_, rfl⟩
      · rw [upd_ne nxD]
        exact b5 _ _ hx3 nxs
      · intro y o e m
        rw [upd_ne (ne_of_none e nD)]
        exact (b3.trans b5) y o e m
    · rintro H3 ⟨en', ps, lp, cp, ee, neD, np, st3', hD, hx3, b3⟩
      rw [List.take_of_length_le (by rw [List.length_map]; exact Nat.le_refl _)]
        at cp st3'
      rw [List.length_map] at lp
      exact ⟨en', D, ps, rfl, lp, cp, ee, st3', hD, b3⟩
  rintro _ H1 ⟨en', D, ps, rfl, lp, cp, ee, st1, hD, b1⟩
  -- how many were cancelled
  refine ⟨fun σ' H' => σ' = [some (.ref sa), some (.ref x),
    some (vS r), some (.ref D), none, some (.int (cntN ps : Nat)), none] ∧
    H' D = some (.lst ps) ∧ Same H1 H', ?_, ?_⟩
  · refine ⟨_, rfl, D, rfl, ⟨_, SqL.of hD⟩, fun N nN => ?_⟩
    have nND : D ≠ N := ne_of_none hD nN
    refine walkW (walk_list (K := K) (a := D) (xs := ps))
      (fun j H' => H' N = some (.lst ((ps.take j).filter fun v =>
        !decide (v = .non))) ∧ H' D = some (.lst ps) ∧ Same H1 H')
      ⟨upd_same, sameNew nN _ _ hD, sameNew nN⟩
      (fun j H' _ z => SqL.of z.2.1) ?_ ?_
    · rintro j v H3 H4 hj ⟨hN, hD3, s3⟩ ⟨rfl, hv⟩
      have ll := List.length_filter_le (fun v => !decide (v = V.non))
        (ps.take j)
      rw [List.length_take] at ll
      refine ⟨rfl, _, rfl, rfl, _, rfl, ?_⟩
      rw [take_snoc hv, List.filter_append]
      by_cases c : v = .non
      · rw [decide_eq_true c, List.filter_cons_of_neg (by simp [c])]
        refine iteF ?_
        rw [List.filter_nil, List.append_nil]
        exact ⟨hN, hD3, s3⟩
      · rw [decide_eq_false c, List.filter_cons_of_pos (by simp [c])]
        refine iteT ⟨_, rfl, _, hN, ?_, upd_same, ?_, OM.Same.put s3 nN⟩
        · exact sz' (by omega)
        · rw [upd_ne nND]
          exact hD3
    · rintro H3 ⟨hN, hD3, s3⟩
      rw [List.take_of_length_le (Nat.le_refl _)] at hN
      refine ⟨N, _, rfl, .inl (SqL.of hN), rfl, hD3, s3⟩
  rintro _ H2 ⟨rfl, hD2, s2⟩
  refine ⟨_, rfl, D, _, rfl, .inl (SqL.of hD2), _, rfl, _, _, rfl, rfl, _,
    rfl, sz (by simp), fun t nt => ?_⟩
  have s3 := sameNew (o := .tup [.int (((ps.length : Nat) : Int) -
    ((cntN ps : Nat) : Int)), .int (cntN ps : Nat)]) nt
  refine q en' t _ ee (st1.same (s2.trans s3)) ?_
    (b1.trans (But.of (s2.trans s3)))
  rw [upd_same, lp, cp]
  rfl
end
end OM
namespace OM
open PySem PySem.Spec PyProof.Rows L2
def fall (ot os : List (List Nat)) (j : Nat) : List Nat :=
  (List.range j).filter fun i => !outB ot os i
theorem fall_snoc (ot os : List (List Nat)) (j : Nat) :
    fall ot os (j + 1) = fall ot os j ++
      if outB ot os j = true then [] else [j] := by
  unfold fall
  rw [List.range_succ, List.filter_append]
  congr 1
  cases h : outB ot os j with
  | true => rw [List.filter_cons_of_neg (by simp [h]), if_pos rfl]; rfl
  | false => rw [List.filter_cons_of_pos (by simp [h]), if_neg nofun]; rfl
theorem fall_fo {ot os : List (List Nat)} :
    Fo ot os (fall ot os (os.length - 1)).head? := by
  unfold fall
  rw [List.head?_filter]
  cases h : (List.range (os.length - 1)).find? fun i => !outB ot os i with
  | none =>
    intro i hi
    have := List.find?_eq_none.mp h i (List.mem_range.mpr (by omega))
    simpa using this
  | some i =>
    obtain ⟨a, b, c⟩ := List.find?_range_eq_some.mp h
    have := List.mem_range.mp b
    refine ⟨by omega, by simpa using a, fun j hj => ?_⟩
    have := c j hj
    simpa using this
theorem shaped_I2 {ks : List Nat} : SeqAt.shaped (.list (dIs ks)) = true := by
  have lay : ∀ ks : List Nat, PyData.canLayAll0 (dIs ks) = true := by
    intro ks
    induction ks with
    | nil => simp [PyData.canLayAll0]
    | cons k r ih =>
      show PyData.canLayAll0 (.int (k : Int) :: dIs r) = true
      rw [show PyData.canLayAll0 (.int (k : Int) :: dIs r) =
        (PyData.canLay0 (.int (k : Int)) && PyData.canLayAll0 (dIs r)) by
          simp only [PyData.canLayAll0], ih]
      simp [PyData.canLay0]
  unfold SeqAt.shaped
  rw [show PyData.canLay0 (.list (dIs ks)) = PyData.canLayAll0 (dIs ks) by
    simp only [PyData.canLay0], lay ks]
  have d : (PyData.list (dIs ks)).depth = PyData.depthAll (dIs ks) + 1 := by
    simp only [PyData.depth]
  have := depth_IA ks
  exact decide_eq_true (by omega)
theorem eqv_nil (ks : List Nat) : PyData.eqv (.list (dIs ks)) (.list (dIs [])) =
    decide (ks = []) := by
  cases ks with
  | nil => decide +kernel
  | cons k r =>
    rw [decide_eq_false nofun]
    show PyData.eqv (.list (.int (k : Int) :: dIs r)) (.list []) = false
    simp [PyData.eqv, PyData.eqvAll]
def tFall (K : PySem.W.Frag) : TT := tTest (tOp
  (rI0 fun i j => .bl (decide (j < i)))
  (tBM K "list" (rIndex K) (tVar 1) (tCons
    (tOp (rIxL K) (tVar 2) (tVar 5)) tNil))
  (tBM K "list" (rIndex K) (tVar 1) (tCons (tOp (rIxL K) (tVar 2)
    (tOp (rI0 fun i j => .int (i + j)) (tVar 5) (tC (.int 1)))) tNil)))
theorem fall_lc {K : PySem.W.Frag} {a c u : Addr} {x3 x4 x5 : Option V}
    {ot os : List (List Nat)} {H : Hp} {Q : VK} {wi : TI}
    (hw : ∀ R, R (Itr 0 (os.length - 1)) H → wi [some (.ref a), some (.ref c),
      some (.ref u), x3, x4, x5] H R)
    (hc : H c = some (.lst (ot.map vS))) (hu : H u = some (.lst (os.map vS)))
    (o : Of ot os) (hl : os.length ≤ 1000)
    (q : ∀ D H', H D = none →
      H' D = some (.lst ((fall ot os (os.length - 1)).map vI)) → Same H H' →
      Q (.ref D) H') :
    tLc wi (gName 5) (tFall K) (tVar 5) [5] [some (.ref a), some (.ref c),
      some (.ref u), x3, x4, x5] H Q := by
  refine hw _ (fun D nD => ?_)
  refine walkW (walk_range (lo := 0) (n := os.length - 1))
    (fun j H' => H' D = some (.lst ((fall ot os j).map vI)) ∧ Same H H')
    ⟨upd_same, sameNew nD⟩ (fun _ _ _ _ => trivial) ?_ ?_
  · rintro j v H3 H4 hj ⟨hD, s3⟩ ⟨rfl, rfl⟩
    have hj1 : j + 1 < os.length := by omega
    have g0 := getD_map vS [] (show j < os.length by omega)
    have g1 := getD_map vS [] hj1
    have m0 := o.m0 hj1
    have m1 := o.m1 hj1
    have el := @out_lt ot os j
    have ei := in_lt o hj1
    have hC := SqL.of (K := K) (s3 _ _ hc)
    have hS := SqL.of (K := K) (s3 _ _ hu)
    have lf : (fall ot os j).length ≤ j := by
      unfold fall
      have := List.length_filter_le (fun i => !outB ot os i) (List.range j)
      rw [List.length_range] at this
      exact this
    have e0 : (0 : Int) + ((j : Nat) : Int) = ((j : Nat) : Int) := by omega
    show gName 5 (V.int (0 + ((j : Nat) : Int))) _ _ _
    rw [e0]
    refine ⟨rfl, _, rfl, .inl ⟨rfl, _, hC⟩, _, rfl, _, rfl, u, _, _, _, rfl, rfl,
      hS, atI_nat (j := j) g0, c, _, _, ot.idxOf (os.getD j []), _, rfl, rfl, hC,
      rfl, flat_S _, idx_get m0, eqV_self _, idx_first, _, rfl,
      .inl ⟨rfl, _, hC⟩, _, rfl, _, rfl, _, _, rfl, rfl, u, _, _, _, rfl, rfl,
      hS, atI_nat (j := j + 1) g1, c, _, _, ot.idxOf (os.getD (j + 1) []), _,
      rfl, rfl, hC, rfl, flat_S _, idx_get m1, eqV_self _, idx_first, _, _, rfl,
      rfl, _, rfl, ?_⟩
    rw [fall_snoc]
    refine ite2 (fun c => ?_) (fun c => ?_)
    · have ob : outB ot os j = false := ei.mpr (by
        have : ((ot.idxOf (os.getD (j + 1) []) : Nat) : Int) <
          ((ot.idxOf (os.getD j []) : Nat) : Int) := of_decide_eq_true c
        omega)
      rw [ob, if_neg nofun, List.map_append]
      refine ⟨_, rfl, _, hD, ?_, upd_same, OM.Same.put s3 nD⟩
      rw [List.length_map]
      exact sz' (by omega)
    · have ob : outB ot os j = true := by
        cases z : outB ot os j with
        | true => rfl
        | false =>
          have := ei.mp z
          exact absurd (decide_eq_true (show
            ((ot.idxOf (os.getD (j + 1) []) : Nat) : Int) <
            ((ot.idxOf (os.getD j []) : Nat) : Int) by omega)) c
      rw [ob, if_pos rfl, List.append_nil]
      exact ⟨hD, s3⟩
  · rintro H3 ⟨hD, s3⟩
    exact q D H3 nD hD s3
def spPath : Sp := fun vs H Q _ =>
  ∃ (a c : Addr) (ot os : List (List Nat)), vs = [.ref a, .ref c] ∧
  H a = some (.lst (os.map vS)) ∧ H c = some (.lst (ot.map vS)) ∧ Of ot os ∧
  Good ot ∧ ∀ q ws H', H q = none → H' q = some (.lst (ws.map vI)) →
    Pth ot os ws → Same H H' → Q (.ref q) H'
section
variable {P : Program} {w : World} {K : PySem.W.Frag}
  {mg : Str → Option Value} {base : Heap}
theorem ok_path {f : Addr} {fd : FuncData} {k : Nat}
    (F : Fun K "_law_path_to" "_law_path_to" s_Lpath_to f fd) (B : Bl mg) :
    FnOk P w K mg base CX0 (k + 1) f fd ["_law_order", "_law_other"]
      spPath := by
  refine F.ok sc_Lpath_to (fun vs H Q E h => ?_)
    (fun cv A outer s H vs Q E hr h => ?_)
  · obtain ⟨a, c, ot, os, rfl, _⟩ := h
    rfl
  obtain ⟨a, c, ot, os, rfl, ha, hc, of0, gt, q⟩ := h
  have nd := sc_Lpath_to.nd
  refine ⟨_, C8.pss_cut (ps_asg (pe_tup (pa_cons (pe_callTy call_list_of
        (by rfl) B.list bt_list (pa_cons (pv 0) pa_nil))
        (pa_cons (pe_lst pa_nil) pa_nil)))
      (pg_tup rfl (pgs_cons (pg_name (i := 2) nd rfl (.inr rfl))
        (pgs_cons (pg_name (i := 3) nd rfl (.inl rfl)) pgs_nil))))
    (C8.pss_cut (ps_setLc (i := 4) (own := [("_law_k", 5)])
      (g := gName 5) (tt := tFall K) (by rfl) nd rfl rfl
      (sw_true rfl rfl rfl (by decide +kernel))
      (pi_range1 (by rfl) B.range (pa_cons (pe_op op_sub
        (pe_callB call_len_seq (by rfl) B.len PySem.boot_len
          (pa_cons (pv 2) pa_nil)) pe_int) pa_nil))
      (blkOk_by (N := N_Lpath_to) (sc := defScope s_Lpath_to)
        (by decide +kernel))
      (fun _ _ _ _ _ => pg_name (i := 5) nd rfl (Or.inl rfl))
      (fun _ _ _ _ _ => pts_one (pt_cmpR op_gt
        (pe_bm PySem.F.plainAttrs_list PySem.F.slot_list_index
          PySem.F.type_list_index mt_index (pv 1) (pa_cons
          (pe_ix (r := rIxL K) ix_list (pv 2) (pv 5) (fun _ _ => rfl)) pa_nil))
        (pe_bm PySem.F.plainAttrs_list PySem.F.slot_list_index
          PySem.F.type_list_index mt_index (pv 1) (pa_cons
          (pe_ix (r := rIxL K) ix_list (pv 2) (pe_op op_add (pv 5) pe_int)
            (fun _ _ => rfl)) pa_nil)) (nomark _)))
      (fun _ _ _ _ _ => pv 5))
    (pss_cons (ps_while PassesOwn.never
      (pt_cmpR (op_neD hr.units) (pv 4) (pe_lst pa_nil) (nomark _))
      (C8.pss_cut (ps_set (i := 5) nd rfl (.inl rfl)
        (pe_ix ix_list (pv 4) pe_int (fun _ _ => rfl)))
      (C8.pss_cut (ps_asg (pe_tup (pa_cons
          (pe_ix ix_list (pv 2) (pe_op op_add (pv 5) pe_int) (fun _ _ => rfl))
          (pa_cons (pe_ix ix_list (pv 2) (pv 5) (fun _ _ => rfl)) pa_nil)))
        (pg_tup rfl (pgs_cons (pg_sub (pv 2) (pv 5) set_list)
          (pgs_cons (pg_sub (pv 2) (pe_op op_add (pv 5) pe_int) set_list)
            pgs_nil))))
      (C8.pss_cut (ps_expr (pe_bm PySem.F.plainAttrs_list
          PySem.F.slot_list_append PySem.F.type_list_append mt_append (pv 3)
          (pa_cons (pv 5) pa_nil)))
      (pss_one (ps_setLc (i := 4) (own := [("_law_k", 5)])
        (g := gName 5) (tt := tFall K) (by rfl) nd rfl rfl
        (sw_true rfl rfl rfl (by decide +kernel))
        (pi_range1 (by rfl) B.range (pa_cons (pe_op op_sub
          (pe_callB call_len_seq (by rfl) B.len PySem.boot_len
            (pa_cons (pv 2) pa_nil)) pe_int) pa_nil))
        (blkOk_by (N := N_Lpath_to) (sc := defScope s_Lpath_to)
          (by decide +kernel))
        (fun _ _ _ _ _ => pg_name (i := 5) nd rfl (Or.inl rfl))
        (fun _ _ _ _ _ => pts_one (pt_cmpR op_gt
          (pe_bm PySem.F.plainAttrs_list PySem.F.slot_list_index
            PySem.F.type_list_index mt_index (pv 1) (pa_cons
            (pe_ix (r := rIxL K) ix_list (pv 2) (pv 5) (fun _ _ => rfl))
              pa_nil))
          (pe_bm PySem.F.plainAttrs_list PySem.F.slot_list_index
            PySem.F.type_list_index mt_index (pv 1) (pa_cons
            (pe_ix (r := rIxL K) ix_list (pv 2) (pe_op op_add (pv 5) pe_int)
              (fun _ _ => rfl)) pa_nil)) (nomark _)))
        (fun _ _ _ _ _ => pv 5)))))))
    (pss_one (ps_ret (pv 3))))), ?_⟩
  have lo : os.length = ot.length := of0.pm.length_eq
  have h40 := gt.hi
  have ne0 : ot ≠ [] := gt.ne
  -- the copy and the new list
  refine ⟨fun σ' H' => ∃ u x, σ' = [some (.ref a), some (.ref c), some (.ref u),
    some (.ref x), none, none] ∧ H u = none ∧ H x = none ∧ u ≠ x ∧
    H' u = some (.lst (os.map vS)) ∧ H' x = some (.lst []) ∧ Same H H', ?_, ?_⟩
  · refine ⟨_, rfl, a, _, rfl, .inl (SqL.of ha), fun u nu => ?_⟩
    have s1 : Same H (upd H u (.lst (os.map vS))) := sameNew nu
    have k1 : (upd H u (.lst (os.map vS))) u = some (.lst (os.map vS)) :=
      upd_same
    generalize upd H u (.lst (os.map vS)) = H1 at s1 k1 ⊢
    refine ⟨sz (by simp), fun x nx => ?_⟩
    have s2 : Same H1 (upd H1 x (.lst [])) := sameNew nx
    have k2 : (upd H1 x (.lst [])) x = some (.lst []) := upd_same
    generalize upd H1 x (.lst []) = H2 at s2 k2 ⊢
    refine ⟨sz (by simp), fun t nt => ?_⟩
    exact ⟨t, _, rfl, .inl (.inl upd_same), rfl, _, _, rfl, _, _, rfl, rfl, u,
      x, rfl, nu, s1.free nx, ne_of_none k1 nx, sameNew nt _ _ (s2 _ _ k1),
      sameNew nt _ _ k2, (s1.trans s2).trans (sameNew nt)⟩
  rintro _ H1 ⟨u, x, rfl, nu, nx, nux, hu1, hx1, s1⟩
  have rngOk : ∀ {os' : List (List Nat)} {H' : Hp} {R : It → Hp → Prop},
      Of ot os' → R (Itr 0 (os'.length - 1)) H' →
      (-(2 ^ 62) : Int) ≤ (((os'.map vS).length : Nat) : Int) - 1 ∧
      (((os'.map vS).length : Nat) : Int) - 1 < 2 ^ 62 ∧
      R (Itr 0 ((((os'.map vS).length : Nat) : Int) - 1).toNat) H' := by
    intro os' H' R o' h
    have := o'.pm.length_eq
    rw [List.length_map]
    refine ⟨by omega, by omega, ?_⟩
    rw [show (((os'.length : Nat) : Int) - 1).toNat = os'.length - 1 by omega]
    exact h
  refine ⟨fun σ' H' => ∃ D, σ' = [some (.ref a), some (.ref c), some (.ref u),
    some (.ref x), some (.ref D), none] ∧ D ≠ x ∧ D ≠ u ∧
    H' D = some (.lst ((fall ot os (os.length - 1)).map vI)) ∧ Same H1 H',
    ?_, ?_⟩
  · refine fall_lc (fun R h => ⟨_, rfl, u, _, rfl, .inl (SqL.of hu1), _, _, rfl,
      rfl, _, rfl, rngOk of0 h⟩) (s1 _ _ hc) hu1 of0 (by omega)
      fun D H2 nD hD s2 => ?_
    exact ⟨D, rfl, (ne_of_none hx1 nD).symm, (ne_of_none hu1 nD).symm, hD, s2⟩
  rintro _ H2 ⟨D, rfl, nDx, nDu, hD, s2⟩
  have s02 := s1.trans s2
  refine ⟨fun m σ' H' => ∃ (D : Addr) (os' : List (List Nat)) (ws : List Nat)
      (y : Option V), σ' = [some (.ref a), some (.ref c), some (.ref u),
      some (.ref x), some (.ref D), y] ∧ D ≠ x ∧ D ≠ u ∧
      H' D = some (.lst ((fall ot os' (os'.length - 1)).map vI)) ∧
      H' u = some (.lst (os'.map vS)) ∧ Of ot os' ∧ Way ot os ws os' ∧
      H' x = some (.lst (ws.map vI)) ∧
      m = (invAll ot os').length ∧ ws.length + m ≤ 1600 ∧ Same H H',
    ⟨_, D, os, [], none, rfl, nDx, nDu, hD, s2 _ _ hu1, of0, Way.refl _ _,
      s2 _ _ hx1, rfl, ?_, s02⟩, ?_⟩
  · rw [List.length_nil, Nat.zero_add]
    exact gt.many os (Nat.le_refl _)
  rintro m σ' H3 ⟨D, os', ws, y, rfl, nDx, nDu, hD, hu3, of', wy, hx3, em, lm,
    s3⟩
  have fo := @fall_fo ot os'
  refine ⟨_, rfl, sz (by simp), fun z nz => ?_⟩
  have s4 : Same H3 (upd H3 z (.lst [])) := sameNew nz
  have k4 : (upd H3 z (.lst [])) z = some (.lst []) := upd_same
  generalize upd H3 z (.lst []) = H4 at s4 k4 ⊢
  refine ⟨_, _, dp_I (ks := fall ot os' (os'.length - 1)) (SqL.of (s4 _ _ hD)),
    dp_I (ks := []) (SqL.of k4), shaped_I2, shaped_I2, _, rfl, ?_⟩
  rw [eqv_nil]
  have hD4 := s4 _ _ hD
  have hu4 := s4 _ _ hu3
  have hx4 := s4 _ _ hx3
  have s04 := s3.trans s4
  generalize hfl : fall ot os' (os'.length - 1) = fl at fo hD4
  cases fl with
  | nil =>
    rw [decide_eq_true rfl]
    exact iteF ⟨_, rfl, q x ws H4 nx hx4 (wy.done fo) s04⟩
  | cons i fr =>
    rw [decide_eq_false nofun]
    have fo : Fo ot os' (some i) := fo
    have ls' := fo.less of'
    have lo' : os'.length = ot.length := of'.pm.length_eq
    have hi := fo.1
    refine iteT ⟨_, fun σ8 H8 z => z, ?_⟩
    -- k
    refine ⟨fun σ' H' => σ' = [some (.ref a), some (.ref c), some (.ref u),
      some (.ref x), some (.ref D), some (.int (i : Nat))] ∧ H4 = H', ?_, ?_⟩
    · exact ⟨_, rfl, D, _, 0, _, rfl, rfl, SqL.of hD4, atI_nat (j := 0) rfl, rfl,
        rfl⟩
    rintro _ _ ⟨rfl, rfl⟩
    -- exchanged
    have ha1 : i + 1 < (os'.map vS).length := by rw [List.length_map]; omega
    have hS := SqL.of (K := K) hu4
    refine ⟨fun σ' H' => σ' = [some (.ref a), some (.ref c), some (.ref u),
      some (.ref x), some (.ref D), some (.int (i : Nat))] ∧
      H' u = some (.lst ((exch os' i).map vS)) ∧
      H' x = some (.lst (ws.map vI)) ∧ Same H H', ?_, ?_⟩
    · refine ⟨_, rfl, _, rfl, _, _, rfl, rfl, u, _, _, (os'.map vS)[i + 1],
        rfl, rfl, hS, atI_nat (j := i + 1) (List.getElem?_eq_getElem ha1), _,
        rfl, _, rfl, u, _, _, (os'.map vS)[i], rfl, rfl, hS,
        atI_nat (j := i) (List.getElem?_eq_getElem (by omega)), sz (by simp),
        fun t3 n3 => ?_⟩
      have ntr : u ≠ t3 := ne_of_none hu4 n3
      have nxt : x ≠ t3 := ne_of_none hx4 n3
      have h8 : (upd H4 t3 (.tup [(os'.map vS)[i + 1], (os'.map vS)[i]])) u =
          some (.lst (os'.map vS)) := by
        rw [upd_ne ntr]; exact hu4
      refine ⟨t3, _, rfl, .inl (.inl upd_same), rfl, _, _, rfl, _, rfl, _,
        rfl, u, _, i, i, rfl, rfl, h8, ?_, _, _, rfl, _, rfl, _, rfl, _,
        _, rfl, rfl, u, _, i + 1, i + 1, rfl, rfl, upd_same, ?_, rfl, ?_⟩
      · unfold ixN
        rw [if_pos (by omega), if_pos (by omega), Int.toNat_natCast]
      · unfold ixN
        rw [List.length_set, if_pos (by omega), if_pos (by omega)]
        rfl
      refine ⟨rfl, ?_, ?_, ?_⟩
      · rw [upd_same, set_exch _ _ ha1, exch_map]
      · rw [upd_ne nux.symm, upd_ne nux.symm, upd_ne nxt]
        exact hx4
      · exact OM.Same.put (OM.Same.put (s04.trans (sameNew n3)) nu) nu
    rintro _ H5 ⟨rfl, hu5, hx5, s5⟩
    -- the result
    refine ⟨fun σ' H' => σ' = [some (.ref a), some (.ref c), some (.ref u),
      some (.ref x), some (.ref D), some (.int (i : Nat))] ∧
      H' u = some (.lst ((exch os' i).map vS)) ∧
      H' x = some (.lst ((ws ++ [i]).map vI)) ∧ Same H H', ?_, ?_⟩
    · refine ⟨_, rfl, .inl ⟨rfl, _, SqL.of hx5⟩, _, rfl, x, _, _, rfl, rfl, hx5,
        ?_, rfl, ?_, ?_, OM.Same.put s5 nx⟩
      · rw [List.length_map]
        exact sz' (by omega)
      · rw [upd_ne nux]
        exact hu5
      · rw [upd_same, List.map_append]
        rfl
    rintro _ H6 ⟨rfl, hu6, hx6, s6⟩
    have of6 := of'.exch i
    refine fall_lc (fun R h => ⟨_, rfl, u, _, rfl, .inl (SqL.of hu6), _, _, rfl,
      rfl, _, rfl, rngOk of6 h⟩) (s6 _ _ hc) hu6 of6 (by
        rw [exch_len]; omega) fun D' H7 nD' hD' s7 => ?_
    refine ⟨_, (by omega : (invAll ot (exch os' i)).length < m), D', exch os' i,
      ws ++ [i], _, rfl, (ne_of_none hx6 nD').symm, (ne_of_none hu6 nD').symm,
      hD', s7 _ _ hu6, of6, wy.step fo, s7 _ _ hx6, rfl, ?_, s6.trans s7⟩
    rw [List.length_append, List.length_singleton]
    omega
end
end OM
namespace OM
open PySem PySem.Spec PyProof.Rows L2
theorem lenR {ls : List (List Nat)} {rows : List En} {i : Nat} {r : List Nat}
    {ks : List Nat} {a : Nat} (x : Rw ls rows) (hi : i + 1 < ls.length)
    (h : ks.length = rows.length) :
    (if outB ls (run ls (ixs rows)) i = true then ks ++ [a]
      else ks.eraseIdx (canJ ls (ixs rows) i)).length =
      (rowsS ls rows i r).length := by
  unfold rowsS
  cases ob : outB ls (run ls (ixs rows)) i with
  | true =>
    rw [if_pos rfl, if_pos rfl, List.length_append, List.length_append, h]
    rfl
  | false =>
    have cl := x.canLt hi ob
    rw [if_neg nofun, if_neg nofun, List.length_eraseIdx,
      List.length_eraseIdx, if_pos (by omega), if_pos cl, h]
def spLRem : Sp := fun vs H Q _ =>
  ∃ (s it en : Addr) (ls : List (List Nat)) (rows : List En) (j : Nat),
  vs = [.ref s, .int j] ∧ StAt H s it en ls rows ∧ Rw ls rows ∧
  ∀ en' q H', H en' = none →
    StAt H' s it en' ls (replN ls rows j rows.length).1 →
    Rw ls (replN ls rows j rows.length).1 →
    H' q = some (.lst (vIs (gone ls rows j))) → But s H H' → Q (.ref q) H'
section
variable {P : Program} {w : World} {K : PySem.W.Frag}
  {mg : Str → Option Value} {base : Heap}
theorem ok_lrem {f : Addr} {fd : FuncData} {k : Nat}
    (F : Fun K "_law_removed" "_law_removed" s_Lremoved f fd) (B : Bl mg)
    (Cs : Cal P w K mg base k "_law_swap" ["_law_model", "_law_index",
      "_law_label"] spDone) :
    FnOk P w K mg base CX0 (k + 1) f fd ["_law_model", "_law_position"]
      spLRem := by
  refine F.ok sc_Lremoved (fun vs H Q E h => ?_)
    (fun cv A outer s H vs Q E hr h => ?_)
  · obtain ⟨s, it, en, ls, rows, j, rfl, _⟩ := h
    rfl
  obtain ⟨sa, it, en, ls, rows, j, rfl, st, x, q⟩ := h
  have nd := sc_Lremoved.nd
  have hu := hu_of hr
  refine ⟨_, C8.pss_cut (ps_asg (pe_tup (pa_cons
        (pe_dget hu (pv 0) pe_str (fun _ _ => rfl))
        (pa_cons (pe_lst pa_nil) pa_nil)))
      (pg_tup rfl (pgs_cons (pg_name (i := 2) nd rfl (.inl rfl))
        (pgs_cons (pg_name (i := 3) nd rfl (.inr rfl)) pgs_nil))))
    (C8.pss_cut (ps_asg (pe_tup (pa_cons (pe_lst pa_nil) (pa_cons
        (pe_callTy call_list_of (by rfl) B.list bt_list (pa_cons
          (pe_dget hu (pv 0) pe_str (fun _ _ => rfl)) pa_nil)) pa_nil)))
      (pg_tup rfl (pgs_cons (pg_sub (pv 0) pe_str (set_dict hu))
        (pgs_cons (pg_sub (pv 0) pe_str (set_dict hu)) pgs_nil))))
    (C8.pss_cut (ps_for PassesOwn.never rfl
      (pi_enum (by rfl) B.enum (pa_cons (pv 2) pa_nil))
      (pg_tup rfl (pgs_cons (pg_name (i := 4) nd rfl (.inl rfl))
        (pgs_cons (pg_name (i := 5) nd rfl (.inl rfl)) pgs_nil)))
      (pss_one (ps_if (pt_cmpR op_ne (pv 4) (pv 1) (nomark _))
        (C8.pss_cut (ps_set (i := 6) nd rfl (.inl rfl)
          (pe_cal Cs hr (pa_cons (pv 0) (pa_cons
            (pe_ix ix_tup (pv 5) pe_int (fun _ _ => rfl))
            (pa_cons (pe_ix ix_tup (pv 5) pe_int (fun _ _ => rfl)) pa_nil)))))
        (pss_one (ps_set (i := 3) nd rfl (.inr rfl)
          (pe_ifExp (pt_cmpR op_isN (pv 6) pe_non (nomark _))
            (pe_op op_cat (pv 3) (pe_lst (pa_cons (pv 4) pa_nil)))
            (pe_op op_cat
              (pe_slice sl_list (pv 3) po_none (po_some (pv 6)))
              (pe_slice sl_list (pv 3) (po_some (pe_op op_add (pv 6) pe_int))
                po_none))))))
        pss_nil)))
    (pss_one (ps_ret
      (pe_lc (own := [("_law_place", 4)]) (g := gName 4) rfl nd
        (pi_range1 (by rfl) B.range (pa_cons (pe_callB call_len_seq (by rfl)
          B.len PySem.boot_len (pa_cons (pv 2) pa_nil)) pa_nil))
        (blkOk_by (N := N_Lremoved) (sc := defScope s_Lremoved)
          (by decide +kernel))
        (fun _ _ _ _ _ => pg_name (i := 4) nd rfl (Or.inl rfl))
        (fun _ _ _ _ _ => pts_one (pt_cmpR (r := rIn K true)
          op_notIn_seq (pv 4) (pv 3) (by rfl)))
        (fun _ _ _ _ _ => pv 4)))))), ?_⟩
  have many := x.many
  obtain ⟨od, rs, h1, h2, h3, h4, h5⟩ := st.ob
  have lrs := h5.len
  have h40 := x.good.hi
  refine ⟨fun σ' H' => ∃ kp, σ' = [some (.ref sa), some (.int j),
    some (.ref en), some (.ref kp), none, none, none] ∧ H kp = none ∧
    H' kp = some (.lst []) ∧ Same H H', ?_, ?_⟩
  · refine ⟨_, rfl, sa, _, rfl, dgE h1, sz (by simp), fun kp nkp =>
      ⟨sz (by simp), fun t nt => ?_⟩⟩
    exact ⟨t, _, rfl, .inl (.inl upd_same), rfl, _, _, rfl, _, _, rfl, rfl, kp,
      rfl, nkp, sameNew nt _ _ upd_same, (sameNew nkp).trans (sameNew nt)⟩
  rintro _ H1 ⟨kp0, rfl, nkp0, hkp1, s1⟩
  -- emptied
  have g1 := s1 _ _ h1
  refine ⟨fun σ' H' => ∃ en0, σ' = [some (.ref sa), some (.int j),
    some (.ref en), some (.ref kp0), none, none, none] ∧ H en0 = none ∧
    kp0 ≠ en0 ∧ H' kp0 = some (.lst []) ∧ StAt H' sa it en0 ls [] ∧
    But sa H H', ?_, ?_⟩
  · refine ⟨sz (by simp), fun en0 nen0 => ?_⟩
    have s2 : Same H1 (upd H1 en0 (.lst [])) := sameNew nen0
    have k2 : (upd H1 en0 (.lst [])) en0 = some (.lst []) := upd_same
    generalize upd H1 en0 (.lst []) = H2 at s2 k2 ⊢
    have g2 := s2 _ _ g1
    have i2 := s2 _ _ (s1 _ _ h2)
    refine ⟨_, rfl, sa, _, rfl, dgI g2, it, _, rfl, .inl (SqL.of i2),
      fun o2 no2 => ?_⟩
    have s3 : Same H2 (upd H2 o2 (.lst (ls.map vS))) := sameNew no2
    have k3 : (upd H2 o2 (.lst (ls.map vS))) o2 = some (.lst (ls.map vS)) :=
      upd_same
    generalize upd H2 o2 (.lst (ls.map vS)) = H3 at s3 k3 ⊢
    refine ⟨sz (by simp), fun t nt => ?_⟩
    have s4 : Same H3 (upd H3 t (.tup [.ref en0, .ref o2])) := sameNew nt
    have k4 : (upd H3 t (.tup [.ref en0, .ref o2])) t =
      some (.tup [.ref en0, .ref o2]) := upd_same
    generalize upd H3 t (.tup [.ref en0, .ref o2]) = H4 at s4 k4 ⊢
    have g4 := s4 _ _ (s3 _ _ g2)
    refine ⟨t, _, rfl, .inl (.inl k4), rfl, _, _, rfl, _, rfl, sa, _, rfl,
      DPut.k (k := kE) g4 (by show 3 < sizeLine; decide), ?_⟩
    rw [put_E]
    refine ⟨_, _, rfl, _, rfl, sa, _, rfl, DPut.k (k := kO) upd_same
      (by show 3 < sizeLine; decide), rfl, ?_⟩
    rw [put_O]
    have bb : But sa H4 (upd (upd H4 sa (.dK (st3 it od en0))) sa
      (.dK (st3 it o2 en0))) := ((But.refl H4).at).at
    have s24 := (s2.trans s3).trans s4
    have kk := s24 _ _ hkp1
    have ie := s4 _ _ (s3 _ _ i2)
    have ke := s4 _ _ (s3 _ _ k2)
    have ko := s4 _ _ k3
    refine ⟨en0, rfl, s1.free nen0, ne_of_none hkp1 nen0,
      bb _ _ kk (ne_of kk g4 nofun), ⟨o2, [], upd_same,
      bb _ _ ie (ne_of ie g4 nofun), bb _ _ ko (ne_of ko g4 nofun),
      bb _ _ ke (ne_of ke g4 nofun), .nil⟩, fun y o e m =>
      bb _ _ (s24 _ _ (s1 _ _ e)) m⟩
  rintro _ H2 ⟨en0, rfl, nen0, nke0, hkp2, st2, b2⟩
  have keep : ∀ {H' : Hp}, But sa H H' → H' en = some (.lst (rs.map V.ref)) ∧
      EnsAt H' rs rows := fun b =>
    ⟨b _ _ h4 (ne_of h4 h1 nofun),
      h5.keep fun a xs e => b _ _ e (ne_of e h1 nofun)⟩
  -- the others again
  refine ⟨fun σ' H' => ∃ en2 kp y4 y5 y6, σ' = [some (.ref sa), some (.int j),
    some (.ref en), some (.ref kp), y4, y5, y6] ∧ H en2 = none ∧
    StAt H' sa it en2 ls (replN ls rows j rows.length).1 ∧
    Rw ls (replN ls rows j rows.length).1 ∧
    H' kp = some (.lst (vIs (replN ls rows j rows.length).2)) ∧
    But sa H H', ?_, ?_⟩
  · refine ⟨_, rfl, en, _, rfl, SqL.of (keep b2).1, ?_⟩
    refine for_it (walk_enum (K := K) (a := en) (xs := rs.map V.ref))
      (fun i σ H' => ∃ en2 kp y4 y5 y6, σ = [some (.ref sa), some (.int j),
        some (.ref en), some (.ref kp), y4, y5, y6] ∧ H en2 = none ∧
        StAt H' sa it en2 ls (replN ls rows j i).1 ∧
        Rw ls (replN ls rows j i).1 ∧
        H' kp = some (.lst (vIs (replN ls rows j i).2)) ∧
        (replN ls rows j i).2.length = (replN ls rows j i).1.length ∧
        But sa H H')
      ⟨en0, kp0, none, none, none, rfl, nen0, st2,
        ⟨x.good, trivial, nofun⟩, hkp2, rfl, b2⟩
      (fun i σ H' _ z => by
        obtain ⟨_, _, _, _, _, _, _, _, _, _, _, z⟩ := z
        exact SqL.of (keep z).1) ?_ ?_
    · rintro i v σ H4 H5 hi ⟨en2, kp, y4, y5, y6, rfl, nen, st4,
        r4, p4, l4, b4⟩ ⟨T', x1', x2', rfl, nT, rfl, c1, c2⟩
      have c2 : (rs.map V.ref)[i]? = some x2' := c2
      rw [List.getElem?_map] at c2
      rw [List.length_map] at hi
      have hi' : i < rows.length := by omega
      have gi : rows[i]? = some rows[i] := List.getElem?_eq_getElem hi'
      obtain ⟨e, er, ht⟩ := (keep b4).2.get gi
      rw [er] at c2
      cases Option.some.inj c2
      cases Option.some.inj c1
      have s5 : Same H4 (upd H4 T' (.tup [.int (i : Nat), .ref e])) :=
        sameNew nT
      have hT : (upd H4 T' (.tup [.int (i : Nat), .ref e])) T' =
        some (.tup [.int (i : Nat), .ref e]) := upd_same
      generalize (upd H4 T' (.tup [.int (i : Nat), .ref e])) = H5 at s5 hT ⊢
      have st5 := st4.same s5
      have p5 := s5 _ _ p4
      have b5 := b4.trans (But.of s5)
      have ht5 : H5 e = some (.tup [.int (rows[i].1 : Int), vS rows[i].2]) :=
        s5 _ _ ht
      have gd : rows.getD i (0, []) = rows[i] := by
        rw [List.getD_eq_getElem?_getD, gi]; rfl
      have ix : rows[i].1 + 1 < ls.length := x.wd.ixs _
        (List.mem_map_of_mem (List.getElem_mem hi'))
      have le := replN_le ls rows j i
      refine ⟨T', _, rfl, .inl (.inl hT), rfl, _, _, rfl, _, _, rfl, rfl, ?_⟩
      refine ⟨_, rfl, _, rfl, rfl, _, rfl, ?_⟩
      by_cases c : i = j
      · subst c
        refine iteNS rfl ?_
        have er : replN ls rows i (i + 1) = replN ls rows i i := if_pos rfl
        rw [er]
        exact ⟨en2, kp, _, _, _, rfl, nen, st5, r4, p5, l4, b5⟩
      · have nv : ¬ (V.int (i : Int) = V.int (j : Int)) := fun z => c (by
          have := V.int.inj z
          omega)
        rw [decide_eq_false nv]
        refine iteT ?_
        have er : replN ls rows j (i + 1) =
            rep1 ls (replN ls rows j i) i rows[i] := by
          rw [← gd]
          exact if_neg c
        rw [er]
        generalize replN ls rows j i = R at st5 p5 r4 l4 le ⊢
        obtain ⟨R1, R2⟩ := R
        simp only at st5 p5 r4 l4 le
        obtain ⟨od5, rs5, w1, w2, w3, w4, w5⟩ := st5.ob
        have rsn := x.rn _ (List.getElem_mem hi')
        -- the swap
        refine ⟨fun σ' H' => ∃ en3, σ' = [some (.ref sa), some (.int j),
          some (.ref en), some (.ref kp), some (.int (i : Nat)),
          some (.ref e), some (ansS ls R1 rows[i].1)] ∧ H en3 = none ∧
          StAt H' sa it en3 ls (rowsS ls R1 rows[i].1 rows[i].2) ∧
          But sa H5 H', ?_, ?_⟩
        · refine ⟨_, rfl, _, rfl, e, _, 0, _, rfl, rfl, .inl (.inl ht5),
            atI_nat (j := 0) rfl, _, rfl, e, _, 1, _, rfl, rfl,
            .inl (.inl ht5), atI_nat (j := 1) rfl, sa, it, en2, ls, R1,
            rows[i].1, rows[i].2, rfl, r4, st5, ix, rsn,
            fun en3 H6 nen3 st6 b6 => ⟨en3, rfl, b5.free (fun z => ?_) nen3,
              st6, b6⟩⟩
          rw [z, w1] at nen3
          cases nen3
        rintro _ H6 ⟨en3, rfl, nen3, st6, b6⟩
        have nkf : kp ≠ sa := ne_of p5 w1 nofun
        have p6 := b6 _ _ p5 nkf
        have b06 := b5.trans b6
        have lenn := lenR (r := rows[i].2) (a := i) r4 ix l4
        have r6 := (r4.step ix rsn).1
        have m6 := r6.many
        have m4 := r4.many
        cases ob : outB ls (run ls (ixs R1)) rows[i].1 with
        | true =>
          have ea : ansS ls R1 rows[i].1 = .non := by
            unfold ansS
            rw [ob, if_pos rfl]
          have eb : rep1 ls (R1, R2) i rows[i] =
              (rowsS ls R1 rows[i].1 rows[i].2, R2 ++ [i]) := by
            unfold rep1
            simp only
            rw [ob, if_pos rfl]
          rw [ob, if_pos rfl] at lenn
          rw [ea, eb]
          refine ⟨_, rfl, rfl, _, rfl, iteT ?_⟩
          refine ⟨_, rfl, _, rfl, sz (by simp), fun u nu => ?_⟩
          have s7 : Same H6 (upd H6 u (.lst [.int (i : Nat)])) := sameNew nu
          have k7 : (upd H6 u (.lst [.int (i : Nat)])) u =
            some (.lst [.int (i : Nat)]) := upd_same
          generalize upd H6 u (.lst [.int (i : Nat)]) = H7 at s7 k7 ⊢
          refine ⟨kp, u, _, _, rfl, rfl, s7 _ _ p6, k7, ?_, fun p3 n5 => ?_⟩
          · rw [List.length_map]
            exact sz (by simp; omega)
          have s8 := s7.trans (sameNew (o := .lst (vIs R2 ++
            [.int (i : Nat)])) n5)
          refine ⟨en3, p3, _, _, _, rfl, nen3, st6.same s8, r6, ?_, lenn,
            b06.trans (But.of s8)⟩
          rw [upd_same]
          unfold vIs
          rw [List.map_append]
          rfl
        | false =>
          have ea : ansS ls R1 rows[i].1 =
              .int ((canJ ls (ixs R1) rows[i].1 : Nat) : Int) := by
            unfold ansS
            rw [ob, if_neg nofun]
          have eb : rep1 ls (R1, R2) i rows[i] =
              (rowsS ls R1 rows[i].1 rows[i].2,
                R2.eraseIdx (canJ ls (ixs R1) rows[i].1)) := by
            unfold rep1
            simp only
            rw [ob, if_neg nofun]
          have cl := r4.canLt ix ob
          rw [ob, if_neg nofun] at lenn
          rw [ea, eb]
          generalize canJ ls (ixs R1) rows[i].1 = c at cl lenn ⊢
          refine ⟨_, rfl, rfl, _, rfl, iteF ?_⟩
          have hS := SqL.of (K := K) p6
          refine ⟨_, rfl, _, rfl, c, rfl, kp, _, rfl, hS, fun p1 n3 => ?_⟩
          rw [cut_to _ (by rw [List.length_map]; omega)]
          have s8 : Same H6 (upd H6 p1 (.lst ((vIs R2).take c))) :=
            sameNew n3
          have h8 : (upd H6 p1 (.lst ((vIs R2).take c))) p1 =
            some (.lst ((vIs R2).take c)) := upd_same
          generalize upd H6 p1 (.lst ((vIs R2).take c)) = H8 at s8 h8 ⊢
          refine ⟨_, rfl, _, rfl, _, _, rfl, rfl, _, rfl, kp, _, rfl,
            s8.seq hS, fun p2 n4 => ?_⟩
          rw [show (c : Int) + 1 = ((c + 1 : Nat) : Int) by omega,
            cut_from _ (by rw [List.length_map]; omega)]
          have s9 : Same H8 (upd H8 p2 (.lst ((vIs R2).drop (c + 1)))) :=
            sameNew n4
          have h9 : (upd H8 p2 (.lst ((vIs R2).drop (c + 1)))) p2 =
            some (.lst ((vIs R2).drop (c + 1))) := upd_same
          generalize upd H8 p2 (.lst ((vIs R2).drop (c + 1))) = H9 at s9 h9 ⊢
          refine ⟨p1, p2, _, _, rfl, rfl, s9 _ _ h8, h9, ?_, fun p3 n5 => ?_⟩
          · rw [List.length_take, List.length_drop, List.length_map]
            exact sz (by omega)
          have s89 := s8.trans s9
          have s99 := s89.trans (sameNew (o := .lst ((vIs R2).take c ++
            (vIs R2).drop (c + 1))) n5)
          refine ⟨en3, p3, _, _, _, rfl, nen3, st6.same s99, r6, ?_, lenn,
            b06.trans (But.of s99)⟩
          rw [upd_same]
          congr 2
          rw [← List.eraseIdx_eq_take_drop_succ]
          exact map_erase _ _ _
    · rintro σ H4 ⟨en2, kp, y4, y5, y6, rfl, nen, st4, r4, p4, l4, b4⟩
      rw [List.length_map, lrs] at st4 r4 p4
      exact ⟨en2, kp, _, _, _, rfl, nen, st4, r4, p4, b4⟩
  rintro _ H4 ⟨en2, kp, y4, y5, y6, rfl, nen, st4, r4, p4, b4⟩
  have le := replN_le ls rows j rows.length
  refine ⟨_, rfl, en, _, rfl, .inl (SqL.of (keep b4).1), _, rfl, ?_,
    ?_, fun D nD => ?_⟩
  · omega
  · rw [List.length_map]
    omega
  generalize hn : (Int.toNat _) = n
  have hn' : n = rows.length := by
    rw [← hn, List.length_map, lrs]
    omega
  subst hn'
  clear hn
  refine lc_range (lo := 0) (n := rows.length) (fun i H' =>
    H' D = some (.lst (vIs ((List.range i).filter fun a =>
      decide (a ∉ (replN ls rows j rows.length).2)))) ∧ Same H4 H')
    ⟨upd_same, sameNew nD⟩ ?_ ?_
  · rintro i H9 hi ⟨hD, s9⟩
    refine ⟨rfl, _, rfl, _, rfl, kp, _, rfl, .inl (SqL.of (s9 _ _ p4)), rfl,
      flat_I _, _, rfl, ?_⟩
    rw [Int.zero_add, inV_I]
    have hl : ((List.range i).filter fun a =>
        decide (a ∉ (replN ls rows j rows.length).2)).length ≤ i := by
      refine Nat.le_trans (List.length_filter_le _ _) ?_
      rw [List.length_range]
      exact Nat.le_refl _
    by_cases hm : i ∈ (replN ls rows j rows.length).2
    · rw [decide_eq_true hm]
      refine iteF ⟨?_, s9⟩
      rw [hD, List.range_succ, List.filter_append,
        List.filter_cons_of_neg (by simp [hm]), List.filter_nil,
        List.append_nil]
    · rw [decide_eq_false hm]
      refine iteT ⟨_, rfl, _, hD, ?_, ?_, OM.Same.put s9 nD⟩
      · rw [List.length_map]
        exact sz' (by omega)
      · rw [upd_same, List.range_succ, List.filter_append,
          List.filter_cons_of_pos (by simp [hm]), List.filter_nil]
        unfold vIs
        rw [List.map_append]
        rfl
  · rintro H9 ⟨hD, s9⟩
    exact q en2 D H9 nen (st4.same s9) r4 hD (b4.trans (But.of s9))
end
end OM
namespace OM
open PySem PySem.Spec PyProof.Rows L2
/-- an order, entries and their number, as data -/
def dTh (os : List (List Nat)) (rows : List En) : PyData :=
  .list [.list (dN os), .list (dEs rows), .int (rows.length : Int)]
theorem dTh_ok {os : List (List Nat)} {rows : List En} (g1 : Good os)
    (sm : SmE rows) (hn : rows.length ≤ 1600) :
    (dTh os rows).showable = true ∧ (dTh os rows).depth ≤ 60 ∧
      (dTh os rows).shown.length ≤ sizeLine := by
  obtain ⟨i1, i2⟩ := int1601 ⟨rows.length, by omega⟩
  have i1' : (PyData.int (rows.length : Int)).showable = true := i1
  have i2' : (PyData.int (rows.length : Int)).shown.length ≤ 5 := i2
  have a1 := showable_L os
  have a3 := showable_E sm
  refine ⟨?_, ?_, ?_⟩
  · unfold dTh
    rw [show (PyData.list [.list (dN os), .list (dEs rows),
      .int (rows.length : Int)]).showable =
      ((PyData.list (dN os)).showable && ((PyData.list (dEs rows)).showable &&
      ((PyData.int (rows.length : Int)).showable && true))) by
        simp only [PyData.showable, PyData.showableAll], a1, a3, i1']
    rfl
  · have d1 := depth_L os
    have d3 := depth_E rows
    unfold dTh
    rw [show (PyData.list [.list (dN os), .list (dEs rows),
      .int (rows.length : Int)]).depth =
      max (PyData.list (dN os)).depth (max (PyData.list (dEs rows)).depth
      (max (PyData.int (rows.length : Int)).depth 0)) + 1 by
        simp only [PyData.depth, PyData.depthAll]]
    have d4 : (PyData.int (rows.length : Int)).depth ≤ 1 := by
      simp only [PyData.depth]
      omega
    omega
  · have b1 := shownN_le g1
    have b3 := shownE_le sm hn
    have e : (dTh os rows).shown = listText [(PyData.list (dN os)).shown,
        (PyData.list (dEs rows)).shown,
        (PyData.int (rows.length : Int)).shown] := by
      unfold dTh
      simp only [PyData.shown, PyData.shownAll]
    rw [e]
    have q := listText_len_le [(PyData.list (dN os)).shown,
        (PyData.list (dEs rows)).shown, (PyData.int (rows.length : Int)).shown]
    simp only [List.map_cons, List.map_nil, List.sum_cons, List.sum_nil,
      List.length_cons, List.length_nil] at q
    exact Nat.le_trans (show _ ≤ 410000 by omega) (by decide)
def spStands (C L : Addr) : Sp := fun vs H Q _ =>
  ∃ (g ro b s it en : Addr) (ls : List (List Nat)) (rows : List En),
  vs = [.ref g, .ref s] ∧ Bth C L H g ro b s it en ls rows ∧
  ∀ H', Same H H' → Q (.bl true) H'
section
variable {P : Program} {w : World} {K : PySem.W.Frag}
  {mg : Str → Option Value} {base : Heap} {C L : Addr}
theorem ok_stands {f fl : Addr} {fd fdl : FuncData} {k n : Nat}
    (F : Fun K "_law_stands" "_law_stands" s_Lstands f fd) (B : Bl mg)
    (Sl : Spec1 K L "__len__" fl fdl ["self"])
    (Gl : FnOk P w K mg base CX0 n fl fdl ["self"] (spLLen C L))
    (hn : n + 1 ≤ k)
    (Mo : CalM P w K mg base L k "order" ["self"] (spLOrd C L))
    (Me : CalM P w K mg base L k "entries" ["self"] (spLEnt C L))
    (Ci : Cal P w K mg base k "_law_inverted" ["_law_items", "_law_order"]
      spLInv) :
    FnG P w K mg base CX0 (k + 1) f fd ["_law_log", "_law_model"]
      (spStands C L) := by
  refine okG F sc_Lstands (fun vs H Q E h => ?_)
    (fun cv A outer s H vs Q E hr gd h => ?_)
  · obtain ⟨g, ro, b, sa, it, en, ls, rows, rfl, _⟩ := h
    rfl
  obtain ⟨g, ro, b, sa, it, en, ls, rows, rfl, x, q⟩ := h
  have nd := sc_Lstands.nd
  have hu := hu_of hr
  have hrn := hr.mono hn
  refine ⟨_, C8.pss_cut (ps_set (i := 2) nd rfl (.inl rfl) (pe_lst (pa_cons
      (pe_calM0 Mo hr (pv 0)) (pa_cons (pe_calM0 Me hr (pv 0)) (pa_cons
      (pe_callB (call_lenOwn Sl Gl hrn) (by rfl) B.len PySem.boot_len
        (pa_cons (pv 0) pa_nil)) pa_nil)))))
    (C8.pss_cut (ps_if (pt_cmpR op_ne
      (pe_callB (call_reprD hr gd) (by rfl) B.repr bt_repr
        (pa_cons (pv 2) pa_nil))
      (pe_callB (call_reprD hr gd) (by rfl) B.repr bt_repr (pa_cons
        (pe_lst (pa_cons (pe_dget hu (pv 1) pe_str (fun _ _ => rfl)) (pa_cons
          (pe_dget hu (pv 1) pe_str (fun _ _ => rfl)) (pa_cons
          (pe_callB call_len_seq (by rfl) B.len PySem.boot_len (pa_cons
            (pe_dget hu (pv 1) pe_str (fun _ _ => rfl)) pa_nil)) pa_nil))))
        pa_nil)) (nomark _)) (pss_one ps_never) pss_nil)
    (C8.pss_cut (ps_expr (pe_bm0 PySem.F.plainAttrs_list
        PySem.F.slot_list_reverse PySem.F.type_list_reverse mt_reverse
        (pe_ix ix_list (pv 2) pe_int (fun _ _ => rfl))))
    (C8.pss_cut (ps_expr (pe_bm PySem.F.plainAttrs_list
        PySem.F.slot_list_append PySem.F.type_list_append mt_append
        (pe_ix ix_list (pv 2) pe_int (fun _ _ => rfl))
        (pa_cons (pe_tup (pa_cons pe_int (pa_cons pe_str pa_nil))) pa_nil)))
    (C8.pss_cut (ps_if (pt_cmpR op_ne
        (pe_callB call_len_seq (by rfl) B.len PySem.boot_len (pa_cons
          (pe_cal Ci hr (pa_cons (pe_dget hu (pv 1) pe_str (fun _ _ => rfl))
            (pa_cons (pe_dget hu (pv 1) pe_str (fun _ _ => rfl)) pa_nil)))
          pa_nil))
        (pe_callB call_len_seq (by rfl) B.len PySem.boot_len (pa_cons
          (pe_dget hu (pv 1) pe_str (fun _ _ => rfl)) pa_nil)) (nomark _))
        (pss_one ps_never) pss_nil)
    (pss_one (ps_ret (pe_and
      (pe_cmpR (op_eqD hr.units) (pe_calM0 Mo hr (pv 0))
        (pe_dget hu (pv 1) pe_str (fun _ _ => rfl)) (nomark _))
      (pe_one (pe_cmpR (op_eqD hr.units) (pe_calM0 Me hr (pv 0))
        (pe_dget hu (pv 1) pe_str (fun _ _ => rfl)) (nomark _)))))))))), ?_⟩
  obtain ⟨od, rs, h1, h2, h3, h4, h5⟩ := x.st.ob
  obtain ⟨dx, cu, rs', w1, w2, w3, w4⟩ := x.lg.ob
  have many := x.lg.many
  have rwx := x.lg.rw
  have go := x.lg.good.perm x.lg.perm
  have sme := rwx.sme
  have lno : ∀ {b cu ro : Addr} {m : Str}, ¬ m = "ground" → ¬ m = "current" →
    ¬ m = "rows" → (lf b cu ro).lookup m = none := fun a b c => lf_no _ _ _ a b c
  obtain ⟨v1, v2, v3⟩ := dTh_ok go sme many
  -- what is told
  refine ⟨fun σ' H' => ∃ t o e rs2, σ' = [some (.ref g), some (.ref sa),
    some (.ref t)] ∧ H t = none ∧ H o = none ∧ H e = none ∧ o ≠ e ∧ t ≠ o ∧
    t ≠ e ∧ H' t = some (.lst [.ref o, .ref e, .int (rows.length : Nat)]) ∧
    H' o = some (.lst ((run ls (ixs rows)).map vS)) ∧
    H' e = some (.lst (rs2.map V.ref)) ∧ EnsAt H' rs2 rows ∧
    rs2.length = rows.length ∧ Same H H', ?_, ?_⟩
  · refine ⟨_, rfl, g, dx, _, rfl, w1, lno (by decide +kernel)
      (by decide +kernel) (by decide +kernel), g, ro, b, ls, rows, rfl, x.lg,
      fun o H1 no ho s1 => ?_⟩
    refine ⟨_, rfl, g, dx, _, rfl, s1 _ _ w1, lno (by decide +kernel)
      (by decide +kernel) (by decide +kernel), g, ro, b, ls, rows, rfl,
      x.lg.same s1, fun e rs2 H2 ne he hes s2 => ?_⟩
    have s12 := s1.trans s2
    refine ⟨_, rfl, g, dx, _, rfl, s12 _ _ w1, g, ro, b, ls, rows, rfl,
      x.lg.same s12, rows.length, rfl, by omega, sz (by simp),
      fun t nt => ⟨t, o, e, rs2, rfl, s12.free nt, no, s1.free ne,
        ne_of_none ho ne, (ne_of_none (s2 _ _ ho) nt).symm,
        (ne_of_none he nt).symm, upd_same, sameNew nt _ _ (s2 _ _ ho),
        sameNew nt _ _ he, hes.same (sameNew nt), hes.len,
        s12.trans (sameNew nt)⟩⟩
  rintro _ H1 ⟨t, o, e, rs2, rfl, nt, no, ne, noe, nto, nte, ht, ho, he, hes,
    l2, s1⟩
  have g1 := s1 _ _ h1
  -- it is what the law has
  refine ⟨fun σ' H' => σ' = [some (.ref g), some (.ref sa), some (.ref t)] ∧
    Same H1 H', ?_, ?_⟩
  · refine ⟨_, rfl, _, dTh (run ls (ixs rows)) rows, rfl,
      .lst (SqL.of ht) (.cons (dp_N (SqL.of ho)) (.cons (dp_Es (SqL.of he) hes)
        (.cons (.int _) .nil))), v1, v2, v3, ?_⟩
    refine ⟨_, rfl, sa, _, rfl, dgO g1, _, rfl, sa, _, rfl, dgE g1, _, rfl, sa,
      _, rfl, dgE g1, en, _, rfl, .inl (SqL.of (s1 _ _ h4)), sz (by simp),
      fun t2 n2 => ?_⟩
    rw [List.length_map, h5.len]
    have s2 := s1.trans (sameNew (o := .lst [.ref od, .ref en,
      .int (rows.length : Nat)]) n2)
    refine ⟨_, dTh (run ls (ixs rows)) rows, rfl, .lst (SqL.of upd_same)
      (.cons (dp_N (SqL.of (s2 _ _ h3))) (.cons (dp_Es (SqL.of (s2 _ _ h4))
        (h5.same s2)) (.cons (.int _) .nil))), v1, v2, v3, rfl, _, rfl,
      iteNS rfl ⟨rfl, sameNew n2⟩⟩
  rintro _ H2 ⟨rfl, s2⟩
  have s02 := s1.trans s2
  -- the told lists change
  refine ⟨fun σ' H' => ∃ v, σ' = [some (.ref g), some (.ref sa),
    some (.ref t)] ∧
    H' t = some (.lst [.ref o, .ref e, .int (rows.length : Nat)]) ∧
    H' o = v ∧ H' e = some (.lst (rs2.map V.ref)) ∧ Same H H', ?_, ?_⟩
  · refine ⟨_, rfl, t, _, 0, _, rfl, rfl, SqL.of (s2 _ _ ht),
      atI_nat (j := 0) rfl, .inl ⟨rfl, _, SqL.of (s2 _ _ ho)⟩, o, _, rfl, rfl,
      s2 _ _ ho, _, rfl, ?_, rfl, ?_, OM.Same.put s02 no⟩
    · rw [upd_ne nto]
      exact s2 _ _ ht
    · rw [upd_ne noe.symm]
      exact s2 _ _ he
  rintro _ H3 ⟨v, rfl, ht3, _, he3, s3⟩
  refine ⟨fun σ' H' => σ' = [some (.ref g), some (.ref sa),
    some (.ref t)] ∧ Same H H', ?_, ?_⟩
  · refine ⟨_, rfl, t, _, 1, _, rfl, rfl, SqL.of ht3, atI_nat (j := 1) rfl,
      .inl ⟨rfl, _, SqL.of he3⟩, sz (by simp), fun u nu => ?_⟩
    refine ⟨e, _, _, rfl, rfl, sameNew nu _ _ he3, ?_, rfl, ?_⟩
    · rw [List.length_map, l2]
      exact sz' (by omega)
    · exact OM.Same.put (s3.trans (sameNew nu)) ne
  rintro _ H4 ⟨rfl, s4⟩
  have g4 := s4 _ _ h1
  -- as many as are inverted
  refine ⟨fun σ' H' => σ' = [some (.ref g), some (.ref sa), some (.ref t)] ∧
    Same H H', ?_, ?_⟩
  · refine ⟨_, rfl, sa, _, rfl, dgI g4, _, rfl, sa, _, rfl, dgO g4, it, od, ls,
      _, rfl, s4 _ _ h2, s4 _ _ h3, x.lg.good, x.lg.perm,
      fun p rs3 H5 np hp pr s5 => ?_⟩
    have lp := pr.len
    have cnt := x.lg.count
    refine ⟨p, _, rfl, .inl (SqL.of hp), _, rfl, sa, _, rfl, dgE (s5 _ _ g4),
      en, _, rfl, .inl (SqL.of (s5 _ _ (s4 _ _ h4))), rfl, _, rfl, ?_⟩
    rw [List.length_map, List.length_map, h5.len, lp, ← cnt]
    exact iteNS rfl ⟨rfl, s4.trans s5⟩
  rintro _ H5 ⟨rfl, s5⟩
  have g5 := s5 _ _ h1
  refine ⟨_, rfl, g, dx, _, rfl, s5 _ _ w1, lno (by decide +kernel)
      (by decide +kernel) (by decide +kernel), g, ro, b, ls, rows, rfl,
      x.lg.same s5, fun o2 H6 no2 ho2 s6 => ?_⟩
  have s06 := s5.trans s6
  refine ⟨_, rfl, sa, _, rfl, dgO (s6 _ _ g5), _, _, dp_N (SqL.of ho2),
    dp_N (SqL.of (s06 _ _ h3)), shaped_L go.uni, shaped_L go.uni, _, rfl, ?_⟩
  rw [eqv_L, decide_eq_true rfl]
  refine iteT ⟨_, rfl, g, dx, _, rfl, s06 _ _ w1, lno (by decide +kernel)
      (by decide +kernel) (by decide +kernel), g, ro, b, ls, rows, rfl,
      x.lg.same s06, fun e2 rs4 H7 ne2 he2 hes2 s7 => ?_⟩
  have s07 := s06.trans s7
  refine ⟨_, rfl, sa, _, rfl, dgE (s07 _ _ h1), _, _, dp_Es (SqL.of he2) hes2,
    dp_Es (SqL.of (s07 _ _ h4)) (h5.same s07), shaped_E sme, shaped_E sme, ?_⟩
  rw [eqv_E, decide_eq_true rfl]
  exact q H7 s07
end
end OM
namespace OM
open PySem PySem.Spec PyProof.Rows L2
def spPaft : Sp := fun vs H Q _ =>
  ∃ (s it en : Addr) (ls : List (List Nat)) (rows : List En) (n : Nat),
  vs = [.ref s, .int n] ∧ StAt H s it en ls rows ∧ Rw ls rows ∧
  n ≤ rows.length ∧ ∀ t pr nw rs H', H t = none → H pr = none → H nw = none →
    H' t = some (.tup [.ref pr, .ref nw]) → H' pr = some (.lst (rs.map V.ref)) →
    PrsAt H' rs (prsOf ls (ixs (rows.take n))) →
    H' nw = some (.lst ((run ls (ixs (rows.take n))).map vS)) → Same H H' →
    Q (.ref t) H'
section
variable {P : Program} {w : World} {K : PySem.W.Frag}
  {mg : Str → Option Value} {base : Heap}
theorem ok_paft {f : Addr} {fd : FuncData} {k : Nat}
    (F : Fun K "_law_pairs_after" "_law_pairs_after" s_Lpairs_after f fd)
    (B : Bl mg) :
    FnOk P w K mg base CX0 (k + 1) f fd ["_law_model", "_law_count"]
      spPaft := by
  refine F.ok sc_Lpairs_after (fun vs H Q E h => ?_)
    (fun cv A outer s H vs Q E hr h => ?_)
  · obtain ⟨s, it, en, ls, rows, n, rfl, _⟩ := h
    rfl
  obtain ⟨sa, it, en, ls, rows, n, rfl, st, x, hn, q⟩ := h
  have nd := sc_Lpairs_after.nd
  have hu := hu_of hr
  refine ⟨_, C8.pss_cut (ps_par (i := 2) (j := 3) (by rfl) nd rfl rfl
      (by decide) rfl rfl
      (pa_cons (pe_callTy call_list_of (by rfl) B.list bt_list (pa_cons
          (pe_dget hu (pv 0) pe_str (fun _ _ => rfl)) pa_nil))
        (pa_cons (pe_lst pa_nil) pa_nil)) (by rfl))
    (C8.pss_cut (ps_for PassesOwn.never rfl
      (pi_list (pe_slice sl_list (pe_dget hu (pv 0) pe_str (fun _ _ => rfl))
        po_none (po_some (pv 1))))
      (pg_tup rfl (pgs_cons (pg_name (i := 4) nd rfl (.inl rfl))
        (pgs_cons (pg_name (i := 5) nd rfl (.inl rfl)) pgs_nil)))
      (pss_cons (ps_expr (pe_bm PySem.F.plainAttrs_list
          PySem.F.slot_list_append PySem.F.type_list_append mt_append (pv 3)
          (pa_cons (pe_tup (pa_cons
            (pe_ix ix_list (pv 2) (pv 4) (fun _ _ => rfl)) (pa_cons
            (pe_ix ix_list (pv 2) (pe_op op_add (pv 4) pe_int)
              (fun _ _ => rfl)) pa_nil))) pa_nil)))
      (pss_one (ps_asg (pe_tup (pa_cons
          (pe_ix ix_list (pv 2) (pe_op op_add (pv 4) pe_int) (fun _ _ => rfl))
          (pa_cons (pe_ix ix_list (pv 2) (pv 4) (fun _ _ => rfl)) pa_nil)))
        (pg_tup rfl (pgs_cons (pg_sub (pv 2) (pv 4) set_list)
          (pgs_cons (pg_sub (pv 2) (pe_op op_add (pv 4) pe_int) set_list)
            pgs_nil)))))))
    (pss_one (ps_ret (pe_tup (pa_cons (pv 3) (pa_cons (pv 2) pa_nil)))))), ?_⟩
  obtain ⟨od, rs, h1, h2, h3, h4, h5⟩ := st.ob
  have lrs := h5.len
  have good := x.good
  have h40 := good.hi
  have many := x.many
  refine ⟨fun σ' H' => ∃ nw pr, σ' = [some (.ref sa), some (.int n),
    some (.ref nw), some (.ref pr), none, none] ∧ H nw = none ∧ H pr = none ∧
    H' nw = some (.lst (ls.map vS)) ∧ H' pr = some (.lst []) ∧ Same H H',
    ?_, ?_⟩
  · refine ⟨_, rfl, sa, _, rfl, dgI h1, it, _, rfl, .inl (SqL.of h2),
      fun nw nnw => ?_⟩
    have s1 : Same H (upd H nw (.lst (ls.map vS))) := sameNew nnw
    have k1 : (upd H nw (.lst (ls.map vS))) nw = some (.lst (ls.map vS)) :=
      upd_same
    generalize upd H nw (.lst (ls.map vS)) = H1 at s1 k1 ⊢
    refine ⟨sz (by simp), fun pr npr => ⟨_, _, rfl, nw, pr, rfl, nnw,
      s1.free npr, sameNew npr _ _ k1, upd_same, s1.trans (sameNew npr)⟩⟩
  rintro _ H1 ⟨nw, pr, rfl, nnw, npr, hw1, hp1, s1⟩
  refine ⟨fun σ' H' => ∃ y4 y5 rs', σ' = [some (.ref sa), some (.int n),
    some (.ref nw), some (.ref pr), y4, y5] ∧
    H' nw = some (.lst ((run ls (ixs (rows.take n))).map vS)) ∧
    H' pr = some (.lst (rs'.map V.ref)) ∧
    PrsAt H' rs' (prsOf ls (ixs (rows.take n))) ∧ Same H H', ?_, ?_⟩
  · refine ⟨_, rfl, sa, _, rfl, dgE (s1 _ _ h1), _, rfl, n, rfl, en, _, rfl,
      SqL.of (s1 _ _ h4), fun c nc => ?_⟩
    rw [cut_to _ (by rw [List.length_map]; omega), ← List.map_take]
    have s2 : Same H1 (upd H1 c (.lst ((rs.take n).map V.ref))) := sameNew nc
    have k2 : (upd H1 c (.lst ((rs.take n).map V.ref))) c =
      some (.lst ((rs.take n).map V.ref)) := upd_same
    generalize upd H1 c (.lst ((rs.take n).map V.ref)) = H2 at s2 k2 ⊢
    have ncp : c ≠ pr := (ne_of_none hp1 nc).symm
    have ncw : c ≠ nw := (ne_of_none hw1 nc).symm
    refine ⟨c, rfl, ⟨_, SqL.of k2⟩, ?_⟩
    refine for_list (K := K) (a := c) (xs := (rs.take n).map V.ref)
      (fun i σ H' => ∃ y4 y5 rs', σ = [some (.ref sa), some (.int n),
        some (.ref nw), some (.ref pr), y4, y5] ∧
        H' nw = some (.lst ((run ls (ixs (rows.take i))).map vS)) ∧
        H' pr = some (.lst (rs'.map V.ref)) ∧
        PrsAt H' rs' (prsOf ls (ixs (rows.take i))) ∧
        H' c = some (.lst ((rs.take n).map V.ref)) ∧ Same H H')
      ⟨none, none, [], rfl, s2 _ _ hw1, s2 _ _ hp1, .nil, k2, s1.trans s2⟩
      (fun i σ H' _ z => by
        obtain ⟨_, _, _, _, _, _, _, z, _⟩ := z
        exact SqL.of z) ?_ ?_
    · rintro i v σ H4 hv ⟨y4, y5, rs', rfl, w4, p4, r4, c4, s4⟩
      rw [List.getElem?_map] at hv
      obtain ⟨r, hr', rfl⟩ := Option.map_eq_some_iff.mp hv
      have hin : i < n := by
        have := (List.getElem?_eq_some_iff.mp hr').1
        rw [List.length_take] at this
        omega
      rw [List.getElem?_take_of_lt hin] at hr'
      have hi' : i < rows.length := by omega
      have gi : rows[i]? = some rows[i] := List.getElem?_eq_getElem hi'
      obtain ⟨r2, er, ht⟩ := (h5.same s4).get gi
      rw [er] at hr'
      cases Option.some.inj hr'
      have hx := x.wd.ixs _ (List.mem_map_of_mem (f := (·.1))
        (List.getElem_mem hi'))
      have tk : ixs (rows.take (i + 1)) = ixs (rows.take i) ++ [rows[i].1] := by
        rw [List.take_add_one, gi]
        exact List.map_append
      have ols : (run ls (ixs (rows.take i))).length = ls.length := run_len _ _
      have gos : Good (run ls (ixs (rows.take i))) := good.perm
        (Of.run (ixs (rows.take i)) ⟨good.nd, List.Perm.refl _⟩).pm
      have r1 : run ls (ixs (rows.take (i + 1))) =
          exch (run ls (ixs (rows.take i))) rows[i].1 := by
        rw [tk, run_snoc]
      have pp : prsOf ls (ixs (rows.take (i + 1))) =
          prsOf ls (ixs (rows.take i)) ++
            [nbr (run ls (ixs (rows.take i))) rows[i].1] := by
        rw [tk, prsOf_snoc]
      have lr := r4.len
      rw [prsOf_len, List.length_map, List.length_take] at lr
      rw [r1, pp]
      have ht : H4 r = some (.tup [.int (rows[i].1 : Int), vS rows[i].2]) := ht
      generalize hp : rows[i].1 = a at hx ht ⊢
      generalize run ls (ixs (rows.take i)) = os at w4 ols gos ⊢
      refine ⟨r, _, rfl, .inl (.inl ht), rfl, _, _, rfl, _, _, rfl, rfl, ?_⟩
      have nopr : nw ≠ pr := ne_nr w4 gos.ne p4
      have hS := SqL.of (K := K) w4
      refine ⟨_, rfl, .inl ⟨rfl, _, SqL.of p4⟩, _, rfl, _, rfl, nw, _, _, _,
        rfl, rfl, hS, atI_nat (j := a) (getD_map vS [] (by omega)), _, rfl, _,
        rfl, _, _, rfl, rfl, nw, _, _, _, rfl, rfl, hS,
        atI_nat (j := a + 1) (getD_map vS [] (by omega)), sz (by simp),
        fun t nt => ?_⟩
      have s8 : Same H4 (upd H4 t (.tup [vS (os.getD a []),
        vS (os.getD (a + 1) [])])) := sameNew nt
      have t8 : (upd H4 t (.tup [vS (os.getD a []),
        vS (os.getD (a + 1) [])])) t = some (.tup [vS (os.getD a []),
        vS (os.getD (a + 1) [])]) := upd_same
      generalize (upd H4 t (.tup [vS (os.getD a []),
        vS (os.getD (a + 1) [])])) = H8 at s8 t8 ⊢
      have p8 := s8 _ _ p4
      have o8 := s8 _ _ w4
      have c8 := s8 _ _ c4
      refine ⟨pr, _, _, rfl, rfl, p8, ?_, ?_⟩
      · rw [List.length_map]
        exact sz' (by omega)
      have b9 : But pr H8 (upd H8 pr (.lst (rs'.map V.ref ++ [.ref t]))) :=
        (But.refl H8).at
      have p9 : (upd H8 pr (.lst (rs'.map V.ref ++ [.ref t]))) pr =
        some (.lst (rs'.map V.ref ++ [.ref t])) := upd_same
      have s9 : Same H (upd H8 pr (.lst (rs'.map V.ref ++ [.ref t]))) :=
        OM.Same.put (s4.trans s8) npr
      have q9 : PrsAt (upd H8 pr (.lst (rs'.map V.ref ++ [.ref t]))) (rs' ++ [t])
          (prsOf ls (ixs (rows.take i)) ++ [nbr os a]) :=
        ((r4.same s8).snoc (p := nbr os a) t8).put p8
      generalize (upd H8 pr (.lst (rs'.map V.ref ++ [.ref t]))) = H9
        at b9 p9 s9 q9 ⊢
      have o9 := b9 _ _ o8 nopr
      have c9 := b9 _ _ c8 ncp
      have hS9 := SqL.of (K := K) o9
      have ha1 : a + 1 < (os.map vS).length := by rw [List.length_map]; omega
      refine ⟨_, rfl, _, rfl, _, _, rfl, rfl, nw, _, _, (os.map vS)[a + 1],
        rfl, rfl, hS9, atI_nat (j := a + 1) (List.getElem?_eq_getElem ha1), _,
        rfl, _, rfl, nw, _, _, (os.map vS)[a], rfl, rfl, hS9,
        atI_nat (j := a) (List.getElem?_eq_getElem (by omega)), sz (by simp),
        fun t3 n3 => ?_⟩
      have ntr : nw ≠ t3 := ne_of_none o9 n3
      have h10 : (upd H9 t3 (.tup [(os.map vS)[a + 1], (os.map vS)[a]])) nw =
          some (.lst (os.map vS)) := by
        rw [upd_ne ntr]; exact o9
      refine ⟨t3, _, rfl, .inl (.inl upd_same), rfl, _, _, rfl, _, rfl, _,
        rfl, nw, _, a, a, rfl, rfl, h10, ?_, _, _, rfl, _, rfl, _, rfl, _,
        _, rfl, rfl, nw, _, a + 1, a + 1, rfl, rfl, upd_same, ?_, rfl, ?_⟩
      · unfold ixN
        rw [if_pos (by omega), if_pos (by omega), Int.toNat_natCast]
      · unfold ixN
        rw [List.length_set, if_pos (by omega), if_pos (by omega)]
        rfl
      have sT : Same H9 (upd H9 t3 (.tup [(os.map vS)[a + 1], (os.map vS)[a]])) :=
        sameNew n3
      refine ⟨_, _, rs' ++ [t], rfl, ?_, ?_, ?_, ?_, ?_⟩
      · rw [upd_same, set_exch _ _ ha1, exch_map]
      · rw [upd_ne nopr.symm, upd_ne nopr.symm, List.map_append]
        exact sT _ _ p9
      · exact ((q9.same sT).put h10).put upd_same
      · rw [upd_ne ncw, upd_ne ncw]
        exact sT _ _ c9
      · exact OM.Same.put (OM.Same.put (s9.trans sT) nnw) nnw
    · rintro σ H4 ⟨y4, y5, rs', rfl, w4, p4, r4, c4, s4⟩
      rw [List.length_map, List.length_take, lrs, Nat.min_eq_left hn] at w4 r4
      exact ⟨_, _, rs', rfl, w4, p4, r4, s4⟩
  rintro _ H2 ⟨y4, y5, rs', rfl, w2, p2, r2, s2⟩
  refine ⟨_, rfl, _, rfl, sz (by simp), fun t nt => ?_⟩
  have s3 := sameNew (o := .tup [.ref pr, .ref nw]) nt
  exact q t pr nw rs' _ (s2.free nt) npr nnw upd_same (s3 _ _ p2) (r2.same s3)
    (s3 _ _ w2) (s2.trans s3)
end
end OM
namespace OM
open PySem PySem.Spec PyProof.Rows L2
theorem stF_le {ls : List (List Nat)} {r : List Nat} : ∀ (ws : List Nat)
    (z : List En × Nat), (ws.foldl (stS ls r) z).2 ≤ z.2 + ws.length
  | [], z => Nat.le_refl _
  | i :: ws, z => by
    have := stF_le (ls := ls) (r := r) ws (stS ls r z i)
    have h : (stS ls r z i).2 ≤ z.2 + 1 := by
      unfold stS
      simp only
      split <;> omega
    rw [List.foldl_cons, List.length_cons]
    omega
/-- two small numbers, as data -/
def dEa (n c : Nat) : PyData :=
  .tuple [.int ((n : Int) - (c : Int)), .int (c : Int)]
theorem dp_ea {K : PySem.W.Frag} {H : Hp} {t : Addr} {n c : Nat}
    (h : H t = some (eaT n c)) : Dp K H (.ref t) (dEa n c) :=
  .tup (.inl (.inl h)) (.cons (.int _) (.cons (.int _) .nil))
theorem ea_ok {n c : Nat} (hc : c ≤ n) (hn : n ≤ 1600) :
    (dEa n c).showable = true ∧ (dEa n c).depth ≤ 60 ∧
      (dEa n c).shown.length ≤ sizeLine := by
  obtain ⟨a1, a2⟩ := int1601 ⟨c, by omega⟩
  obtain ⟨b1, b2⟩ := int1601 ⟨n - c, by omega⟩
  have a1' : (PyData.int (c : Int)).showable = true := a1
  have a2' : (PyData.int (c : Int)).shown.length ≤ 5 := a2
  have b1' : (PyData.int ((n - c : Nat) : Int)).showable = true := b1
  have b2' : (PyData.int ((n - c : Nat) : Int)).shown.length ≤ 5 := b2
  unfold dEa
  rw [show (n : Int) - (c : Int) = ((n - c : Nat) : Int) by omega]
  refine ⟨?_, ?_, ?_⟩
  · rw [show (PyData.tuple [.int ((n - c : Nat) : Int), .int (c : Int)]).showable
      = ((PyData.int ((n - c : Nat) : Int)).showable &&
      ((PyData.int (c : Int)).showable && true)) by
        simp only [PyData.showable, PyData.showableAll], a1', b1']
    rfl
  · simp only [PyData.depth, PyData.depthAll]
    omega
  · have e : (PyData.tuple [.int ((n - c : Nat) : Int), .int (c : Int)]).shown =
        tupleText [(PyData.int ((n - c : Nat) : Int)).shown,
          (PyData.int (c : Int)).shown] := by
      simp only [PyData.shown, PyData.shownAll]
    rw [e]
    have t := fmt_text [(PyData.int ((n - c : Nat) : Int)).shown,
      (PyData.int (c : Int)).shown]
    rw [piled_cons, piled_cons, piled_nil] at t
    exact Nat.le_trans (show _ ≤ 400 by omega) (by decide)
theorem StAt.butG {L dx b cu ro : Addr} {H H' : Hp} {g s it en : Addr}
    {ls : List (List Nat)} {rows : List En} (x : StAt H s it en ls rows)
    (h : H g = some (.ins L dx (lf b cu ro))) (z : But g H H') :
    StAt H' s it en ls rows := by
  obtain ⟨od, rs, h1, h2, h3, h4, h5⟩ := x.ob
  exact ⟨od, rs, z _ _ h1 (ne_of h1 h nofun), z _ _ h2 (ne_of h2 h nofun),
    z _ _ h3 (ne_of h3 h nofun), z _ _ h4 (ne_of h4 h nofun),
    h5.keep fun a xs e => z _ _ e (ne_of e h nofun)⟩
theorem Rng.butG {L dx b cu ro : Addr} {H H' : Hp} {g p : Addr}
    (r : Rng H p) (h : H g = some (.ins L dx (lf b cu ro)))
    (z : But g H H') : Rng H' p := by
  obtain ⟨i, j, e, w⟩ := r
  exact ⟨i, j, z _ _ e (ne_of e h nofun), w⟩
theorem mv_eq (h i : Nat) : rgV (h : Int) (i : Int) ++
    ((List.range (h - i)).map fun (k : Nat) => V.int ((h : Int) - 1 - (k : Int)))
    = (mvP h i).map vI := by
  by_cases c : h < i
  · rw [rgV_up c, show h - i = 0 by omega, List.range_zero, List.map_nil,
      List.append_nil]
  · have e : rgV (h : Int) (i : Int) = [] := by
      unfold rgV
      rw [show ((i : Int) - (h : Int)).toNat = 0 by omega]
      rfl
    rw [e, List.nil_append]
    unfold mvP
    rw [if_neg c, List.map_map]
    refine List.map_congr_left fun k hk => ?_
    have := List.mem_range.mp hk
    show V.int ((h : Int) - 1 - (k : Int)) = V.int (((h - 1 - k : Nat) : Nat) : Int)
    congr 1
    omega
def unV : V → List Nat
  | .str x => x.cps.toList
  | _ => []
theorem perm_back2 {ys : List V} {ls : List (List Nat)}
    (h : ys.Perm (ls.map vS)) :
    ∃ os : List (List Nat), ys = os.map vS ∧ os.Perm ls := by
  refine ⟨ys.map unV, ?_, ?_⟩
  · rw [List.map_map]
    refine (List.map_id ys).symm.trans (List.map_congr_left fun y hy => ?_)
    obtain ⟨l, _, rfl⟩ := List.mem_map.mp (h.mem_iff.mp hy)
    rfl
  · have := h.map unV
    rw [List.map_map] at this
    have e : ls.map (unV ∘ vS) = ls := by
      refine (List.map_congr_left fun l _ => ?_).trans (List.map_id ls)
      rfl
    rw [e] at this
    exact this
/-- a log and the law's state of it, and what was there before them -/
structure BthF (C L : Addr) (H0 : Hp) (p : Addr) (H : Hp)
    (g ro b s it en : Addr) (ls : List (List Nat)) (rows : List En) :
    Prop extends Bth C L H g ro b s it en ls rows where
  fr : But p H0 H
  ng : H0 g = none
  nro : H0 ro = none
  ns : H0 s = none
theorem BthF.same {C L g ro b s it en p : Addr} {H0 H H' : Hp}
    {ls : List (List Nat)} {rows : List En}
    (x : BthF C L H0 p H g ro b s it en ls rows) (z : Same H H') :
    BthF C L H0 p H' g ro b s it en ls rows :=
  ⟨x.toBth.same z, x.fr.trans (But.of z), x.ng, x.nro, x.ns⟩
theorem BthF.but {C L g ro b s it en p : Addr} {H0 H H' : Hp}
    {ls : List (List Nat)} {rows : List En}
    (x : BthF C L H0 p H g ro b s it en ls rows) (r : Rng H p)
    (z : But p H H') : BthF C L H0 p H' g ro b s it en ls rows :=
  ⟨x.toBth.but r z, x.fr.trans z, x.ng, x.nro, x.ns⟩
def spCall (C L : Addr) : Sp := fun vs H Q _ =>
  ∃ (p g ro b s it en : Addr) (H0 : Hp) (ls : List (List Nat))
    (rows : List En), vs = [.ref p, .ref g, .ref s] ∧ Rng H p ∧ BthF C L H0 p H g ro b s it en ls rows ∧
  ∀ ro' en' rows' H', BthF C L H0 p H' g ro' b s it en' ls rows' → Rng H' p →
    Q (.bl true) H'
section
variable {P : Program} {w : World} {K : PySem.W.Frag}
  {mg : Str → Option Value} {base : Heap} {C L : Addr}
theorem ok_call {f : Addr} {fd : FuncData} {k : Nat}
    (F : Fun K "_law_call" "_law_call" s_Lcall f fd) (B : Bl mg)
    (Cd : CalDraw P w K mg base k)
    (Cn : Cal P w K mg base k "_law_name" ["_law_rng_here", "_law_used"]
      (spName K))
    (Cw : Cal P w K mg base k "_law_swap" ["_law_model", "_law_index",
      "_law_label"] spDone)
    (Cws : Cal P w K mg base k "_law_swaps" ["_law_model", "_law_path",
      "_law_label"] spLSws)
    (Cne : Cal P w K mg base k "_law_near_order" ["_law_rng_here",
      "_law_order", "_law_many"] (spNear K))
    (Csh : Cal P w K mg base k "_law_shuffled" ["_law_rng_here",
      "_law_values"] (spShuf K))
    (Cpt : Cal P w K mg base k "_law_path_to" ["_law_order", "_law_other"]
      spPath)
    (Crm : Cal P w K mg base k "_law_removed" ["_law_model",
      "_law_position"] spLRem)
    (Md : CalMD P w K mg base L k "swap" ["self", "index", "reason"] [vS []]
      (spSwapC C L))
    (Ms : CalMK P w K mg base L k "swap" "reason" 2
      ["self", "index", "reason"] (spSwapC C L))
    (Mm : CalMK P w K mg base L k "move" "reason" 3
      ["self", "item", "index", "reason"] (spMove C L))
    (Ma : CalMK P w K mg base L k "adopt" "reason" 2
      ["self", "order", "reason"] (spAdopt C L))
    (Mr : CalM P w K mg base L k "remove_entry" ["self", "position"]
      (spRemove C L))
    (Mc : CalM P w K mg base L k "clear_entries" ["self"] (spClear C L)) :
    FnG P w K mg base CX0 (k + 1) f fd ["_law_rng_here", "_law_log",
      "_law_model"] (spCall C L) := by
  refine okG F sc_Lcall (fun vs H Q E h => ?_)
    (fun cv A outer s H vs Q E hr gd h => ?_)
  · obtain ⟨p, g, ro, b, sa, it, en, H0, ls, rows, rfl, _⟩ := h
    rfl
  obtain ⟨p, g, ro, b, sa, it, en, H0, ls, rows, rfl, rg, x, q⟩ := h
  have nd := sc_Lcall.nd
  have hu := hu_of hr
  refine ⟨_, C8.pss_cut (ps_par (i := 3) (j := 4) (by rfl) nd rfl rfl
      (by decide) rfl rfl
      (pa_cons (pe_dget hu (pv 2) pe_str (fun _ _ => rfl))
        (pa_cons (pe_cal Cd hr (pa_cons (pv 0) (pa_cons pe_int pa_nil)))
          pa_nil)) (by rfl))
    (C8.pss_cut (ps_set (i := 5) nd rfl (.inl rfl)
      (pe_ix ix_list (pe_lst (pa_cons pe_str (pa_cons pe_str (pa_cons
        (pe_cal Cn hr (pa_cons (pv 0) (pa_cons (pe_lst pa_nil) pa_nil)))
        pa_nil)))) (pe_cal Cd hr (pa_cons (pv 0) (pa_cons pe_int pa_nil)))
        (fun _ _ => rfl)))
    (C8.pss_cut (ps_if (PW.pt (pw_and (pt_cmpR op_lt (pv 4) pe_int (nomark _))
        (pw_and1 (pt_cmpR op_gt (pe_callB call_len_seq (by rfl) B.len
          PySem.boot_len (pa_cons (pv 3) pa_nil)) pe_int (nomark _)))))
      (C8.pss_cut (ps_set (i := 6) nd rfl (.inl rfl) (pe_cal Cd hr
        (pa_cons (pv 0) (pa_cons (pe_op op_sub (pe_callB call_len_seq (by rfl)
          B.len PySem.boot_len (pa_cons (pv 3) pa_nil)) pe_int) pa_nil))))
      (C8.pss_cut (ps_set (i := 7) nd rfl (.inl rfl)
        (pe_ifExp (pt_cmpR op_eq (pv 5) pe_str (nomark _))
          (pe_calMD Md hr (pv 1) (pa_cons (pv 6) pa_nil))
          (pe_calMK Ms hr (pv 1) (pa_cons (pv 6) pa_nil)
            (pk_cons (pv 5) pk_nil))))
      (pss_one (ps_ret (pe_cmpR op_eq
        (pe_callB (call_reprD hr gd) (by rfl) B.repr bt_repr
          (pa_cons (pv 7) pa_nil))
        (pe_callB (call_reprD hr gd) (by rfl) B.repr bt_repr (pa_cons
          (pe_cal Cw hr (pa_cons (pv 2) (pa_cons (pv 6) (pa_cons (pv 5)
            pa_nil)))) pa_nil)) (nomark _)))))) pss_nil)
    (C8.pss_cut (ps_if (pt_cmpR op_lt (pv 4) pe_int (nomark _))
      (C8.pss_cut (ps_par (i := 8) (j := 6) (by rfl) nd rfl rfl
        (by decide) rfl rfl
        (pa_cons (pe_ix ix_list (pv 3) (pe_cal Cd hr (pa_cons (pv 0) (pa_cons
            (pe_callB call_len_seq (by rfl) B.len PySem.boot_len
              (pa_cons (pv 3) pa_nil)) pa_nil))) (fun _ _ => rfl))
          (pa_cons (pe_cal Cd hr (pa_cons (pv 0) (pa_cons
            (pe_callB call_len_seq (by rfl) B.len PySem.boot_len
              (pa_cons (pv 3) pa_nil)) pa_nil))) pa_nil)) (by rfl))
      (C8.pss_cut (ps_set (i := 9) nd rfl (.inr rfl)
        (pe_bm PySem.F.plainAttrs_list PySem.F.slot_list_index
          PySem.F.type_list_index mt_index
          (pe_dget hu (pv 2) pe_str (fun _ _ => rfl)) (pa_cons (pv 8) pa_nil)))
      (C8.pss_cut (ps_set (i := 10) nd rfl (.inl rfl)
        (pe_op op_cat (pe_listRg (by rfl) (by rfl) B.list (prg_2 (by rfl)
            B.range (pv 9) (pv 6)))
          (pe_lc (own := [("_law_k", 11)]) (g := gName 11) (tt := tYes) rfl nd
            (pi_range1 (by rfl) B.range (pa_cons
              (pe_callB (call_max2 rfl) (by rfl) B.max bt_max (pa_cons pe_int
                (pa_cons (pe_op op_sub (pv 9) (pv 6)) pa_nil))) pa_nil))
            (blkOk_by (N := N_Lcall) (sc := defScope s_Lcall)
              (by decide +kernel))
            (fun _ _ _ _ _ => pg_name (i := 11) nd rfl (Or.inl rfl))
            (fun _ _ _ _ _ => pts_nil)
            (fun _ _ _ _ _ => pe_op op_sub (pe_op op_sub (pv 9) pe_int)
              (pv 11)))))
      (pss_one (ps_ret (pe_cmpR op_eq
        (pe_callB (call_reprD hr gd) (by rfl) B.repr bt_repr (pa_cons
          (pe_calMK Mm hr (pv 1) (pa_cons (pv 8) (pa_cons (pv 6) pa_nil))
            (pk_cons (pv 5) pk_nil)) pa_nil))
        (pe_callB (call_reprD hr gd) (by rfl) B.repr bt_repr (pa_cons
          (pe_cal Cws hr (pa_cons (pv 2) (pa_cons (pv 10) (pa_cons (pv 5)
            pa_nil)))) pa_nil)) (nomark _))))))) pss_nil)
    (C8.pss_cut (ps_if (pt_cmpR op_eq (pv 4) pe_int (nomark _))
      (C8.pss_cut (ps_set (i := 12) nd rfl (.inl rfl) (pe_cal Cne hr
        (pa_cons (pv 0) (pa_cons (pe_dget hu (pv 2) pe_str (fun _ _ => rfl))
          (pa_cons pe_int pa_nil)))))
      (C8.pss_cut (ps_if (PW.pt (pw_and (pt_cmpR op_lt (pe_callB call_len_seq
            (by rfl) B.len PySem.boot_len (pa_cons (pv 3) pa_nil)) pe_int
            (nomark _))
          (pw_and1 (pt_cmpR op_eq (pe_cal Cd hr (pa_cons (pv 0)
            (pa_cons pe_int pa_nil))) pe_int (nomark _)))))
        (pss_one (ps_set (i := 12) nd rfl (.inl rfl) (pe_cal Csh hr
          (pa_cons (pv 0) (pa_cons (pv 3) pa_nil))))) pss_nil)
      (C8.pss_cut (ps_set (i := 10) nd rfl (.inl rfl) (pe_cal Cpt hr
        (pa_cons (pe_dget hu (pv 2) pe_str (fun _ _ => rfl))
          (pa_cons (pv 12) pa_nil))))
      (pss_one (ps_ret (pe_cmpR op_eq
        (pe_callB (call_reprD hr gd) (by rfl) B.repr bt_repr (pa_cons
          (pe_calMK Ma hr (pv 1) (pa_cons (pe_callTy call_list_of (by rfl)
            B.list bt_list (pa_cons (pv 12) pa_nil)) pa_nil)
            (pk_cons (pv 5) pk_nil)) pa_nil))
        (pe_callB (call_reprD hr gd) (by rfl) B.repr bt_repr (pa_cons
          (pe_cal Cws hr (pa_cons (pv 2) (pa_cons (pv 10) (pa_cons (pv 5)
            pa_nil)))) pa_nil)) (nomark _))))))) pss_nil)
    (C8.pss_cut (ps_if (PW.pt (pw_and (pt_cmpR op_eq (pv 4) pe_int (nomark _))
        (pw_and1 (pt_cmpR (op_neD hr.units)
          (pe_dget hu (pv 2) pe_str (fun _ _ => rfl)) (pe_lst pa_nil)
          (nomark _)))))
      (C8.pss_cut (ps_set (i := 13) nd rfl (.inl rfl) (pe_cal Cd hr
        (pa_cons (pv 0) (pa_cons (pe_callB call_len_seq (by rfl) B.len
          PySem.boot_len (pa_cons (pe_dget hu (pv 2) pe_str (fun _ _ => rfl))
          pa_nil)) pa_nil))))
      (pss_one (ps_ret (pe_cmpR op_eq
        (pe_callB (call_reprD hr gd) (by rfl) B.repr bt_repr (pa_cons
          (pe_calM Mr hr (pv 1) (pa_cons (pv 13) pa_nil)) pa_nil))
        (pe_callB (call_reprD hr gd) (by rfl) B.repr bt_repr (pa_cons
          (pe_cal Crm hr (pa_cons (pv 2) (pa_cons (pv 13) pa_nil))) pa_nil))
        (nomark _))))) pss_nil)
    (C8.pss_cut (ps_if (pt_cmpR op_gt (pe_cal Cd hr (pa_cons (pv 0)
        (pa_cons pe_int pa_nil))) pe_int (nomark _))
      (pss_one (ps_ret pe_bl)) pss_nil)
    (C8.pss_cut (ps_asg (pe_tup (pa_cons (pe_lst pa_nil) (pa_cons
        (pe_callTy call_list_of (by rfl) B.list bt_list (pa_cons (pv 3)
          pa_nil)) pa_nil)))
      (pg_tup rfl (pgs_cons (pg_sub (pv 2) pe_str (set_dict hu))
        (pgs_cons (pg_sub (pv 2) pe_str (set_dict hu)) pgs_nil))))
    (pss_one (ps_ret (pe_cmpR op_isN (pe_calM0 Mc hr (pv 1)) pe_non
      (nomark _))))))))))), ?_⟩
  have h40 := x.lg.good.hi
  have lo := x.lg.good.lo
  -- what, and why
  refine ⟨fun σ' H' => ∃ d : Int, σ' = [some (.ref p), some (.ref g),
    some (.ref sa), some (.ref it), some (.int d), none, none, none, none, none,
    none, none, none, none] ∧ Rng H' p ∧ BthF C L H0 p H' g ro b sa it en ls rows,
    ?_, ?_⟩
  · obtain ⟨od, rs, h1, h2, h3, h4, h5⟩ := x.st.ob
    exact ⟨_, rfl, sa, _, rfl, dgI h1, _, rfl, p, 12, rfl, rg, by decide,
      by decide, fun d H1 d0 d1 rg1 b1 => ⟨_, _, rfl, d, rfl, rg1,
        x.but rg b1⟩⟩
  rintro _ H1 ⟨d, rfl, rg1, x1⟩
  clear rg x
  refine ⟨fun σ' H' => ∃ r, σ' = [some (.ref p), some (.ref g),
    some (.ref sa), some (.ref it), some (.int d), some (vS r), none, none,
    none, none, none, none, none, none] ∧ Rsn r ∧ Rng H' p ∧
    BthF C L H0 p H' g ro b sa it en ls rows, ?_, ?_⟩
  · refine ⟨_, rfl, sz (by simp), fun u nu => ?_⟩
    have nup : u ≠ p := (rg1.ne nu).symm
    have x2 := x1.same (sameNew (o := .lst []) nu)
    refine ⟨p, u, [], rfl, rg1.same (sameNew nu), SqL.of upd_same, nup, by simp,
      fun l H2 nl _ rg2 b2 => ⟨sz (by simp), fun t nt => ?_⟩⟩
    have x3 := x2.but (rg1.same (sameNew nu)) b2
    have ntp : t ≠ p := (rg2.ne nt).symm
    have rg3 := rg2.same (sameNew (o := .lst [.str (Str.ofString ""),
      .str (Str.ofString ""), vS l]) nt)
    have x4 := x3.same (sameNew (o := .lst [.str (Str.ofString ""),
      .str (Str.ofString ""), vS l]) nt)
    refine ⟨_, rfl, p, 3, rfl, rg3, by decide, by decide,
      fun e H3 e0 e1 rg4 b3 => ?_⟩
    have x5 := x4.but rg3 b3
    have h3 : H3 t = some (.lst [.str (Str.ofString ""),
      .str (Str.ofString ""), vS l]) := b3 _ _ upd_same ntp
    have e' : e = 0 ∨ e = 1 ∨ e = 2 := by omega
    rcases e' with rfl | rfl | rfl
    · exact ⟨t, _, _, _, rfl, rfl, SqL.of h3, atI_nat (j := 0) rfl, [], rfl,
        .inl rfl, rg4, x5⟩
    · exact ⟨t, _, _, _, rfl, rfl, SqL.of h3, atI_nat (j := 1) rfl, [], rfl,
        .inl rfl, rg4, x5⟩
    · exact ⟨t, _, _, _, rfl, rfl, SqL.of h3, atI_nat (j := 2) rfl, l, rfl,
        .inr nl, rg4, x5⟩
  rintro _ H2 ⟨r, rfl, hrs, rg2, x2⟩
  clear rg1 x1
  have hit : H2 it = some (.lst (ls.map vS)) := by
    obtain ⟨_, _, _, h, _⟩ := x2.st.ob
    exact h
  -- a swap
  refine ⟨fun σ' H' => σ' = [some (.ref p), some (.ref g),
    some (.ref sa), some (.ref it), some (.int d), some (vS r), none, none,
    none, none, none, none, none, none] ∧ H2 = H', ?_, ?_⟩
  · refine ⟨_, rfl, _, _, rfl, rfl, _, rfl, ite2 (fun _ => ?_)
      (fun _ => ⟨rfl, rfl⟩)⟩
    refine ⟨_, rfl, it, _, rfl, .inl (SqL.of hit), _, _, rfl, rfl, _, rfl,
      ite2 (fun c => ?_) (fun _ => ⟨rfl, rfl⟩)⟩
    have l2 : 2 ≤ ls.length := by
      have : (1 : Int) < (((ls.map vS).length : Nat) : Int) :=
        of_decide_eq_true c
      rw [List.length_map] at this
      omega
    refine ⟨fun σ' H' => ∃ i : Nat, σ' = [some (.ref p), some (.ref g),
      some (.ref sa), some (.ref it), some (.int d), some (vS r),
      some (.int i), none, none, none, none, none, none, none] ∧
      i + 1 < ls.length ∧ Rng H' p ∧ BthF C L H0 p H' g ro b sa it en ls rows, ?_, ?_⟩
    · refine ⟨_, rfl, _, rfl, it, _, rfl, .inl (SqL.of hit), _, _, rfl, rfl, p,
        (ls.length : Int) - 1, ?_, rg2, by omega, by omega,
        fun i H3 i0 i1 rg3 b3 => ⟨i.toNat, ?_, by omega, rg3, x2.but rg2 b3⟩⟩
      · rw [List.length_map]
        rfl
      · rw [Int.toNat_of_nonneg i0]
        rfl
    rintro _ H3 ⟨i, rfl, hi, rg3, x3⟩
    refine ⟨fun σ' H' => σ' = [some (.ref p), some (.ref g),
      some (.ref sa), some (.ref it), some (.int d), some (vS r),
      some (.int i), some (ansS ls rows i), none, none, none, none, none,
      none] ∧ LogAt C L H' g ro b ls (rowsS ls rows i r) ∧
      StAt H' sa it en ls rows ∧ Rng H' p ∧ But p H0 H', ?_, ?_⟩
    · have key : ∀ {H4 : Hp}, LogAt C L H4 g ro b ls (rowsS ls rows i r) →
          But2 g ro H3 H4 → LogAt C L H4 g ro b ls (rowsS ls rows i r) ∧
          StAt H4 sa it en ls rows ∧ Rng H4 p ∧ But p H0 H4 := fun x4 u4 =>
        ⟨x4, x3.st.but2 x3.lg x3.lg.good.ne x3.ne u4,
          rg3.but2 (x3.lg.rng rg3) u4, fun y o e m => u4 _ _ (x3.fr _ _ e m)
            (ne_of_none e x3.ng) (ne_of_none e x3.nro)⟩
      obtain ⟨dx, cu, rs3, w1, w2, w3, w4⟩ := x3.lg.ob
      refine ⟨_, rfl, rfl, _, rfl, ?_⟩
      by_cases c : V.str (SX.S r) = V.str (Str.ofString "")
      · have er : r = [] := SX.S_inj (V.str.inj c)
        rw [decide_eq_true c]
        subst er
        exact iteT ⟨_, rfl, g, dx, _, rfl, w1, lf_no _ _ _ (by decide +kernel)
          (by decide +kernel) (by decide +kernel), _, rfl, g, ro, b, ls,
          rows, i, [], rfl, x3.lg, hi, .inl rfl, fun H4 x4 u4 =>
            ⟨rfl, key x4 u4⟩⟩
      · rw [decide_eq_false c]
        exact iteF ⟨_, rfl, g, dx, _, rfl, w1, lf_no _ _ _ (by decide +kernel)
          (by decide +kernel) (by decide +kernel), _, rfl, _, rfl, g, ro, b, ls,
          rows, i, r, rfl, x3.lg, hi, hrs, fun H4 x4 u4 => ⟨rfl, key x4 u4⟩⟩
    rintro _ H4 ⟨rfl, x4, st4, rg4, fr4⟩
    have rwx := x3.lg.rw
    obtain ⟨a1, a2, a3⟩ := ans_ok rwx hi
    refine ⟨_, rfl, _, _, rfl, dp_ans, a1, a2, a3, _, rfl, _, rfl, _, rfl, sa,
      it, en, ls, rows, i, r, rfl, rwx, st4, hi, hrs,
      fun en' H5 nen st5 b5 => ⟨_, _, rfl, dp_ans, a1, a2, a3, rfl, ?_⟩⟩
    obtain ⟨od4, rs4, k1, _⟩ := st4.ob
    obtain ⟨_, _, _, _, _, k3, _⟩ := x4.ob
    rw [decide_eq_true rfl]
    exact q ro en' _ H5 ⟨⟨x4.butS k1 b5, st5, (ne_of_none k3 nen).symm⟩,
      fun y o e m => b5 _ _ (fr4 _ _ e m) (ne_of_none e x3.ns), x3.ng, x3.nro,
      x3.ns⟩ (rg4.butS k1 b5)
  rintro _ _ ⟨rfl, rfl⟩
  -- both do the same swaps
  have fin : ∀ {ws : List Nat} {z t : Addr} {H3 H4 : Hp},
      BthF C L H0 p H3 g ro b sa it en ls rows → Rng H3 p →
      H3 z = some (.lst (ws.map vI)) → z ≠ ro → Ixs ls.length ws →
      ws.length ≤ 1600 → LogAt C L H4 g ro b ls (stF ls r rows ws).1 →
      H4 t = some (eaT ws.length (stF ls r rows ws).2) → But2 g ro H3 H4 →
      (dEa ws.length (stF ls r rows ws).2).showable = true ∧
      (dEa ws.length (stF ls r rows ws).2).depth ≤ 60 ∧
      (dEa ws.length (stF ls r rows ws).2).shown.length ≤ sizeLine ∧
      Dp K H4 (.ref t) (dEa ws.length (stF ls r rows ws).2) ∧
      spLSws [.ref sa, .ref z, vS r] H4 (fun v H5 => ∃ t', v = .ref t' ∧
        Dp K H5 (.ref t') (dEa ws.length (stF ls r rows ws).2) ∧
        Q (.bl true) H5) E := by
    intro ws z t H3 H4 x3 rg3 hz nz ix len x4 ht u4
    have sl := stF_le (ls := ls) (r := r) ws (rows, 0)
    obtain ⟨v1, v2, v3⟩ := ea_ok (n := ws.length) (c := (stF ls r rows ws).2)
      (by unfold stF; omega) len
    have st4 := x3.st.but2 x3.lg x3.lg.good.ne x3.ne u4
    have rg4 := rg3.but2 (x3.lg.rng rg3) u4
    obtain ⟨dx, cu, rs3, w1, w2, w3, w4⟩ := x3.lg.ob
    have hz4 := u4 _ _ hz (ne_of hz w1 nofun) nz
    refine ⟨v1, v2, v3, dp_ea ht, sa, it, en, z, ls, rows, ws, r, rfl,
      x3.lg.rw, st4, hz4, ix, len, hrs, fun en' t' H5 ee st5 ht5 b5 =>
        ⟨t', rfl, dp_ea ht5, ?_⟩⟩
    obtain ⟨od4, rs4, k1, _⟩ := st4.ob
    obtain ⟨_, _, _, _, _, k3, _⟩ := x4.ob
    refine q ro en' _ H5 ⟨⟨x4.butS k1 b5, st5, ?_⟩, fun y o e m =>
      b5 _ _ (u4 _ _ (x3.fr _ _ e m) (ne_of_none e x3.ng)
        (ne_of_none e x3.nro)) (ne_of_none e x3.ns), x3.ng, x3.nro, x3.ns⟩
      (rg4.butS k1 b5)
    rcases ee with rfl | nen
    · exact x3.ne
    · exact (ne_of_none k3 nen).symm
  -- a move
  refine ⟨fun σ' H' => σ' = [some (.ref p), some (.ref g),
    some (.ref sa), some (.ref it), some (.int d), some (vS r), none, none,
    none, none, none, none, none, none] ∧ H2 = H', ?_, ?_⟩
  · refine ⟨_, rfl, _, _, rfl, rfl, _, rfl, ite2 (fun _ => ?_)
      (fun _ => ⟨rfl, rfl⟩)⟩
    refine ⟨fun σ' H' => ∃ (l : List Nat) (i : Nat), σ' = [some (.ref p),
      some (.ref g), some (.ref sa), some (.ref it), some (.int d),
      some (vS r), some (.int i), none, some (vS l), none, none, none, none,
      none] ∧ l ∈ ls ∧ i < ls.length ∧ Rng H' p ∧
      BthF C L H0 p H' g ro b sa it en ls rows, ?_, ?_⟩
    · refine ⟨_, rfl, _, rfl, _, rfl, it, _, rfl, .inl (SqL.of hit), p, _, rfl,
        rg2, by rw [List.length_map]; omega, by rw [List.length_map]; omega,
        fun e H3 e0 e1 rg3 b3 => ?_⟩
      have x3 := x2.but rg2 b3
      have hit3 : H3 it = some (.lst (ls.map vS)) := by
        obtain ⟨_, _, _, h, _⟩ := x3.st.ob
        exact h
      rw [List.length_map] at e1
      have el : e.toNat < ls.length := by omega
      have g0 := getD_map vS [] el
      have ee : e = ((e.toNat : Nat) : Int) := by omega
      refine ⟨it, _, e, _, rfl, rfl, SqL.of hit3, (by
          rw [ee]; exact atI_nat (j := e.toNat) g0), _, rfl, _, rfl, it, _, rfl,
        .inl (SqL.of hit3), p, _, rfl, rg3, by rw [List.length_map]; omega,
        by rw [List.length_map]; omega, fun i H4 i0 i1 rg4 b4 =>
        ⟨_, _, rfl, ls.getD e.toNat [], i.toNat, ?_, getD_mem [] el, ?_, rg4,
          x3.but rg3 b4⟩⟩
      · rw [Int.toNat_of_nonneg i0]
        rfl
      · rw [List.length_map] at i1
        omega
    rintro _ H3 ⟨l, i, rfl, hl, hi, rg3, x3⟩
    obtain ⟨od, rs, h1, h2, h3, h4, h5⟩ := x3.st.ob
    obtain ⟨dx, cu, rs3, w1, w2, w3, w4⟩ := x3.lg.ob
    have hS := SqL.of (K := K) h3
    have mo : l ∈ run ls (ixs rows) := x3.lg.perm.mem_iff.mpr hl
    have hh : (run ls (ixs rows)).idxOf l < ls.length := by
      have := List.idxOf_lt_length_of_mem mo
      rw [run_len] at this
      exact this
    have mvx := mvP_ixs hh hi
    have mvl := mvP_len hh hi
    refine ⟨fun σ' H' => σ' = [some (.ref p),
      some (.ref g), some (.ref sa), some (.ref it), some (.int d),
      some (vS r), some (.int i), none, some (vS l),
      some (.int ((run ls (ixs rows)).idxOf l : Nat)), none, none, none,
      none] ∧ H3 = H', ?_, ?_⟩
    · exact ⟨_, rfl, sa, _, rfl, dgO h1, .inl ⟨rfl, _, hS⟩, _, rfl, od, _, _,
        (run ls (ixs rows)).idxOf l, vS l, rfl, rfl, hS, rfl, flat_S _,
        idx_get mo, eqV_self l, idx_first, rfl, rfl⟩
    rintro _ _ ⟨rfl, rfl⟩
    have fin' := @fin (mvP ((run ls (ixs rows)).idxOf l) i)
    have mve := mv_eq ((run ls (ixs rows)).idxOf l) i
    refine ⟨fun σ' H' => ∃ z, σ' = [some (.ref p),
      some (.ref g), some (.ref sa), some (.ref it), some (.int d),
      some (vS r), some (.int i), none, some (vS l),
      some (.int ((run ls (ixs rows)).idxOf l : Nat)), some (.ref z), none,
      none, none] ∧ H' z = some (.lst ((mvP ((run ls (ixs rows)).idxOf l)
        i).map vI)) ∧ z ≠ ro ∧ Same H3 H', ?_, ?_⟩
    · generalize (run ls (ixs rows)).idxOf l = h at hh mve mvl ⊢
      refine ⟨_, rfl, _, rfl, _, _, rfl, rfl, RgOk.of_le (by omega) (by omega)
        (by omega) (by omega), fun y ny => ?_⟩
      have s4 : Same H3 (upd H3 y (.lst (rgV (h : Int) (i : Int)))) :=
        sameNew ny
      have k4 : (upd H3 y (.lst (rgV (h : Int) (i : Int)))) y =
        some (.lst (rgV (h : Int) (i : Int))) := upd_same
      generalize upd H3 y (.lst (rgV (h : Int) (i : Int))) = H4 at s4 k4 ⊢
      have mx : (if (h : Int) - (i : Int) > 0 then (h : Int) - (i : Int) else 0)
          = ((h - i : Nat) : Int) := by
        split <;> omega
      refine ⟨_, rfl, _, rfl, _, _, rfl, rfl, _, _, rfl, _, rfl, ?_, ?_,
        fun D nD => ?_⟩
      · rw [mx]; omega
      · rw [mx]; omega
      rw [mx, Int.toNat_natCast]
      have nyD : y ≠ D := ne_of_none k4 nD
      refine lc_range (lo := 0) (n := h - i) (fun j H' =>
        H' D = some (.lst ((List.range j).map fun (k : Nat) =>
          V.int ((h : Int) - 1 - (k : Int)))) ∧ Same H4 H')
        ⟨upd_same, sameNew nD⟩ ?_ ?_
      · rintro j H5 hj ⟨hD, s5⟩
        refine ⟨rfl, yes ⟨_, rfl, _, _, rfl, rfl, _, rfl, _, _, rfl, rfl, _, hD,
          ?_, ?_, OM.Same.put s5 nD⟩⟩
        · rw [List.length_map, List.length_range]
          exact sz' (by omega)
        · rw [upd_same, List.range_succ, List.map_append, Int.zero_add]
          rfl
      · rintro H5 ⟨hD, s5⟩
        refine ⟨y, D, _, _, rfl, rfl, s5 _ _ k4, hD, ?_, fun z nz => ?_⟩
        · rw [← List.length_append, mve, List.length_map]
          exact sz (by omega)
        rw [mve]
        refine ⟨z, rfl, upd_same, ?_, (s4.trans s5).trans (sameNew nz)⟩
        exact (ne_of_none ((s4.trans s5) _ _ w3) nz).symm
    rintro _ H4 ⟨z, rfl, hz, nz, s4⟩
    have x4 := x3.same s4
    refine ⟨_, rfl, g, dx, _, rfl, s4 _ _ w1, lf_no _ _ _ (by decide +kernel)
      (by decide +kernel) (by decide +kernel), _, rfl, _, rfl, _, rfl, g, ro, b,
      ls, rows, l, i, r, rfl, x4.lg, hl, hi, hrs, fun t H5 x5 ht u5 => ?_⟩
    obtain ⟨v1, v2, v3, dd, sw⟩ := fin' x4 (rg3.same s4) hz nz mvx
      (by omega) x5 ht u5
    obtain ⟨s', it', en', z', ls', rows', ws', r', e', a1, a2, a3, a4, a5, a6,
      a7⟩ := sw
    refine ⟨_, _, rfl, dd, v1, v2, v3, _, rfl, _, rfl, _, rfl, s', it', en', z',
      ls', rows', ws', r', e', a1, a2, a3, a4, a5, a6, fun en6 t' H6 ee st6 ht6
      b6 => ?_⟩
    obtain ⟨t7, et, d7, q7⟩ := a7 en6 t' H6 ee st6 ht6 b6
    refine ⟨_, _, rfl, et ▸ d7, v1, v2, v3, rfl, ?_⟩
    rw [decide_eq_true rfl]
    exact q7
  rintro _ _ ⟨rfl, rfl⟩
  -- an order adopted
  refine ⟨fun σ' H' => σ' = [some (.ref p), some (.ref g),
    some (.ref sa), some (.ref it), some (.int d), some (vS r), none, none,
    none, none, none, none, none, none] ∧ H2 = H', ?_, ?_⟩
  · refine ⟨_, rfl, rfl, _, rfl, ite2 (fun _ => ?_)
      (fun _ => ⟨rfl, rfl⟩)⟩
    refine ⟨fun σ' H' => ∃ (o : Addr) (ot : List (List Nat)), σ' =
      [some (.ref p), some (.ref g), some (.ref sa), some (.ref it),
      some (.int d), some (vS r), none, none, none, none, none, none,
      some (.ref o), none] ∧ ot.Perm ls ∧ H' o = some (.lst (ot.map vS)) ∧
      Rng H' p ∧ BthF C L H0 p H' g ro b sa it en ls rows, ?_, ?_⟩
    · obtain ⟨od, rs, h1, h2, h3, h4, h5⟩ := x2.st.ob
      refine ⟨_, rfl, _, rfl, sa, _, rfl, dgO h1, p, od, 9, _, rfl, rg2,
        SqL.of h3, neRng rg2 h3, ?_, by decide,
        fun o ys H3 no pm ho rg3 b3 => ?_⟩
      · rw [List.length_map, run_len]
        omega
      obtain ⟨ot, rfl, pt⟩ := perm_back2 pm
      exact ⟨o, ot, rfl, pt.trans x2.lg.perm, ho, rg3, x2.but rg2 b3⟩
    rintro _ H3 ⟨o3, ot3, rfl, pm3, ho3, rg3, x3⟩
    refine ⟨fun σ' H' => ∃ (o : Addr) (ot : List (List Nat)), σ' =
      [some (.ref p), some (.ref g), some (.ref sa), some (.ref it),
      some (.int d), some (vS r), none, none, none, none, none, none,
      some (.ref o), none] ∧ ot.Perm ls ∧ H' o = some (.lst (ot.map vS)) ∧
      Rng H' p ∧ BthF C L H0 p H' g ro b sa it en ls rows, ?_, ?_⟩
    · have hit3 : H3 it = some (.lst (ls.map vS)) := by
        obtain ⟨_, _, _, h, _⟩ := x3.st.ob
        exact h
      refine ⟨_, rfl, it, _, rfl, .inl (SqL.of hit3), _, _, rfl, rfl, _, rfl,
        ite2 (fun _ => ?_) (fun _ => ⟨o3, ot3, rfl, pm3, ho3, rg3, x3⟩)⟩
      refine ⟨_, rfl, p, 2, rfl, rg3, by decide, by decide,
        fun e H4 e0 e1 rg4 b4 => ⟨rfl, _, rfl, ite2 (fun _ => ?_) (fun _ =>
          ⟨o3, ot3, rfl, pm3, b4 _ _ ho3 (neRng rg3 ho3), rg4,
            x3.but rg3 b4⟩)⟩⟩
      have x4 := x3.but rg3 b4
      have hit4 : H4 it = some (.lst (ls.map vS)) := by
        obtain ⟨_, _, _, h, _⟩ := x4.st.ob
        exact h
      refine ⟨_, rfl, _, rfl, p, it, _, rfl, rg4, SqL.of hit4, neRng rg4 hit4,
        ?_, fun o ys H5 no pm ho rg5 b5 => ?_⟩
      · rw [List.length_map]
        omega
      obtain ⟨ot, rfl, pt⟩ := perm_back2 pm
      exact ⟨o, ot, rfl, pt, ho, rg5, x4.but rg4 b5⟩
    rintro _ H4 ⟨o, ot, rfl, pm, ho, rg4, x4⟩
    obtain ⟨od, rs, h1, h2, h3, h4, h5⟩ := x4.st.ob
    obtain ⟨dx, cu, rs3, w1, w2, w3, w4⟩ := x4.lg.ob
    have gt := x4.lg.good.perm pm
    have of0 : Of ot (run ls (ixs rows)) := ⟨gt.nd, x4.lg.perm.trans pm.symm⟩
    refine ⟨fun σ' H' => ∃ z ws, σ' =
      [some (.ref p), some (.ref g), some (.ref sa), some (.ref it),
      some (.int d), some (vS r), none, none, none, none, some (.ref z), none,
      some (.ref o), none] ∧ H' z = some (.lst (ws.map vI)) ∧ z ≠ ro ∧
      Pth ot (run ls (ixs rows)) ws ∧ Same H4 H', ?_, ?_⟩
    · exact ⟨_, rfl, sa, _, rfl, dgO h1, _, rfl, od, o, ot, _, rfl, h3, ho, of0,
        gt, fun z ws H5 nz hz pt s5 => ⟨z, ws, rfl, hz,
          (ne_of_none w3 nz).symm, pt, s5⟩⟩
    rintro _ H5 ⟨z, ws, rfl, hz, nz, pt, s5⟩
    have px := pt.ixs
    rw [run_len] at px
    have pl := Nat.le_trans (pt.len of0) (gt.many _ (Nat.le_refl _))
    have x5 := x4.same s5
    refine ⟨_, rfl, g, dx, _, rfl, s5 _ _ w1, lf_no _ _ _ (by decide +kernel)
      (by decide +kernel) (by decide +kernel), _, rfl, o, _, rfl,
      .inl (SqL.of (s5 _ _ ho)), fun a na => ?_⟩
    have s6 : Same H5 (upd H5 a (.lst (ot.map vS))) := sameNew na
    have k6 : (upd H5 a (.lst (ot.map vS))) a = some (.lst (ot.map vS)) :=
      upd_same
    generalize upd H5 a (.lst (ot.map vS)) = H6 at s6 k6 ⊢
    have x6 := x5.same s6
    refine ⟨_, rfl, g, ro, b, a, ls, rows, ot, r, rfl, x6.lg, k6, pm, hrs,
      fun t ws' H7 pt' x7 ht u7 => ?_⟩
    cases pt.uniq pt'
    obtain ⟨v1, v2, v3, dd, sw⟩ := fin x6 ((rg4.same s5).same s6)
      (s6 _ _ hz) nz px pl x7 ht u7
    obtain ⟨s', it', en', z', ls', rows', ws', r', e', a1, a2, a3, a4, a5, a6,
      a7⟩ := sw
    refine ⟨_, _, rfl, dd, v1, v2, v3, _, rfl, _, rfl, _, rfl, s', it', en', z',
      ls', rows', ws', r', e', a1, a2, a3, a4, a5, a6, fun en6 t' H8 ee st6 ht6
      b6 => ?_⟩
    obtain ⟨t7, et, d7, q7⟩ := a7 en6 t' H8 ee st6 ht6 b6
    refine ⟨_, _, rfl, et ▸ d7, v1, v2, v3, rfl, ?_⟩
    rw [decide_eq_true rfl]
    exact q7
  rintro _ _ ⟨rfl, rfl⟩
  -- an entry removed
  refine ⟨fun σ' H' => σ' = [some (.ref p), some (.ref g),
    some (.ref sa), some (.ref it), some (.int d), some (vS r), none, none,
    none, none, none, none, none, none] ∧ Rng H' p ∧
    BthF C L H0 p H' g ro b sa it en ls rows, ?_, ?_⟩
  · refine ⟨_, rfl, rfl, _, rfl, ite2 (fun _ => ?_)
      (fun _ => ⟨rfl, rg2, x2⟩)⟩
    obtain ⟨od, rs, h1, h2, h3, h4, h5⟩ := x2.st.ob
    have rwx := x2.lg.rw
    have many := rwx.many
    refine ⟨_, rfl, sa, _, rfl, dgE h1, sz (by simp), fun u nu => ?_⟩
    have s3 : Same H2 (upd H2 u (.lst [])) := sameNew nu
    have k3 : (upd H2 u (.lst [])) u = some (.lst []) := upd_same
    generalize upd H2 u (.lst []) = H3 at s3 k3 ⊢
    have x3 := x2.same s3
    have rg3 := rg2.same s3
    refine ⟨_, _, dp_Es (SqL.of (s3 _ _ h4)) (h5.same s3),
      dp_Es (rs := []) (SqL.of k3) .nil, shaped_E rwx.sme,
      shaped_E (ps := []) nofun, _, rfl, ?_⟩
    rw [eqv_E]
    by_cases c : rows = []
    · rw [decide_eq_true c]
      exact iteF ⟨rfl, rg3, x3⟩
    rw [decide_eq_false c]
    have lp : 0 < rows.length := List.length_pos_iff.mpr c
    refine iteT ?_
    refine ⟨fun σ' H' => ∃ j : Nat, σ' = [some (.ref p), some (.ref g),
      some (.ref sa), some (.ref it), some (.int d), some (vS r), none, none,
      none, none, none, none, none, some (.int j)] ∧ j < rows.length ∧
      Rng H' p ∧ BthF C L H0 p H' g ro b sa it en ls rows, ?_, ?_⟩
    · refine ⟨_, rfl, _, rfl, sa, _, rfl, dgE (s3 _ _ h1), en, _, rfl,
        .inl (SqL.of (s3 _ _ h4)), p, _, rfl, rg3, ?_, ?_,
        fun j H4 j0 j1 rg4 b4 => ⟨j.toNat, ?_, ?_, rg4, x3.but rg3 b4⟩⟩
      · rw [List.length_map, h5.len]; omega
      · rw [List.length_map, h5.len]; omega
      · rw [Int.toNat_of_nonneg j0]
        rfl
      · rw [List.length_map, h5.len] at j1
        omega
    rintro _ H4 ⟨j, rfl, hj, rg4, x4⟩
    obtain ⟨dx, cu, rs3, w1, w2, w3, w4⟩ := x4.lg.ob
    have gl : ∀ i ∈ gone ls rows j, i < 1601 := fun i hi => by
      have := List.mem_range.mp (List.mem_filter.mp hi).1
      omega
    have gn : (gone ls rows j).length ≤ 1600 := by
      refine Nat.le_trans (List.length_filter_le _ _) ?_
      rw [List.length_range]
      exact many
    obtain ⟨v1, v2, v3⟩ := ints_ok gl gn
    refine ⟨_, rfl, g, dx, _, rfl, w1, lf_no _ _ _ (by decide +kernel)
      (by decide +kernel) (by decide +kernel), _, rfl, g, ro, b, ls, rows, j,
      rfl, x4.lg, hj, fun qa ro' H5 nq nro nqr x5 hq b5 => ?_⟩
    have st5 := x4.st.butG w1 b5
    have rg5 := rg4.butG w1 b5
    refine ⟨_, _, rfl, dp_I (SqL.of hq), v1, v2, v3, _, rfl, _, rfl, sa, it, en,
      ls, rows, j, rfl, st5, rwx, fun en' q2 H6 nen st6 rw6 hq2 b6 => ?_⟩
    refine ⟨_, _, rfl, dp_I (SqL.of hq2), v1, v2, v3, rfl, ?_⟩
    obtain ⟨od5, rs5, k1, _⟩ := st5.ob
    obtain ⟨_, _, _, _, _, k3, _⟩ := x5.ob
    rw [decide_eq_true rfl]
    exact q ro' en' _ H6 ⟨⟨x5.butS k1 b6, st6, (ne_of_none k3 nen).symm⟩,
      fun y o e m => b6 _ _ (b5 _ _ (x4.fr _ _ e m) (ne_of_none e x4.ng))
        (ne_of_none e x4.ns), x4.ng, x4.fr.free (rg4.ne nro).symm nro, x4.ns⟩
      (rg5.butS k1 b6)
  rintro _ H3 ⟨rfl, rg3, x3⟩
  -- nothing
  refine ⟨fun σ' H' => σ' = [some (.ref p), some (.ref g),
    some (.ref sa), some (.ref it), some (.int d), some (vS r), none, none,
    none, none, none, none, none, none] ∧ Rng H' p ∧
    BthF C L H0 p H' g ro b sa it en ls rows, ?_, ?_⟩
  · exact ⟨_, rfl, p, 4, rfl, rg3, by decide, by decide,
      fun e H4 e0 e1 rg4 b4 => ⟨_, _, rfl, rfl, _, rfl, ite2
        (fun _ => q _ _ _ H4 (x3.but rg3 b4) rg4)
        (fun _ => ⟨rfl, rg4, x3.but rg3 b4⟩)⟩⟩
  rintro _ H4 ⟨rfl, rg4, x4⟩
  -- all cleared
  obtain ⟨od, rs, h1, h2, h3, h4, h5⟩ := x4.st.ob
  have ne := x4.lg.good.ne
  refine ⟨fun σ' H' => ∃ en', σ' = [some (.ref p), some (.ref g),
    some (.ref sa), some (.ref it), some (.int d), some (vS r), none, none,
    none, none, none, none, none, none] ∧ Rng H' p ∧
    LogAt C L H' g ro b ls rows ∧ StAt H' sa it en' ls [] ∧ But p H0 H',
    ?_, ?_⟩
  · refine ⟨sz (by simp), fun en0 nen0 => ?_⟩
    have s2 : Same H4 (upd H4 en0 (.lst [])) := sameNew nen0
    have k2 : (upd H4 en0 (.lst [])) en0 = some (.lst []) := upd_same
    generalize upd H4 en0 (.lst []) = H5 at s2 k2 ⊢
    refine ⟨_, rfl, it, _, rfl, .inl (SqL.of (s2 _ _ h2)), fun o2 no2 => ?_⟩
    have s3 : Same H5 (upd H5 o2 (.lst (ls.map vS))) := sameNew no2
    have k3 : (upd H5 o2 (.lst (ls.map vS))) o2 = some (.lst (ls.map vS)) :=
      upd_same
    generalize upd H5 o2 (.lst (ls.map vS)) = H6 at s3 k3 ⊢
    refine ⟨sz (by simp), fun t nt => ?_⟩
    have s4 : Same H6 (upd H6 t (.tup [.ref en0, .ref o2])) := sameNew nt
    have k4 : (upd H6 t (.tup [.ref en0, .ref o2])) t =
      some (.tup [.ref en0, .ref o2]) := upd_same
    generalize upd H6 t (.tup [.ref en0, .ref o2]) = H7 at s4 k4 ⊢
    have s24 := (s2.trans s3).trans s4
    have g4 := s24 _ _ h1
    refine ⟨t, _, rfl, .inl (.inl k4), rfl, _, _, rfl, _, rfl, sa, _, rfl,
      DPut.k (k := kE) g4 (by show 3 < sizeLine; decide), ?_⟩
    rw [put_E]
    refine ⟨_, _, rfl, _, rfl, sa, _, rfl, DPut.k (k := kO) upd_same
      (by show 3 < sizeLine; decide), rfl, ?_⟩
    rw [put_O]
    have bb : But sa H7 (upd (upd H7 sa (.dK (st3 it od en0))) sa
      (.dK (st3 it o2 en0))) := ((But.refl H7).at).at
    have ie := s24 _ _ h2
    have ke := s4 _ _ (s3 _ _ k2)
    have ko := s4 _ _ k3
    exact ⟨en0, rfl, (rg4.same s24).butS g4 bb, (x4.lg.same s24).butS g4 bb,
      ⟨o2, [], upd_same, bb _ _ ie (ne_of ie g4 nofun),
        bb _ _ ko (ne_of ko g4 nofun), bb _ _ ke (ne_of ke g4 nofun), .nil⟩,
      fun y o e m => bb _ _ (s24 _ _ (x4.fr _ _ e m)) (ne_of_none e x4.ns)⟩
  rintro _ H5 ⟨en', rfl, rg5, lg5, st5, fr5⟩
  obtain ⟨dx, cu, rs5, w1, w2, w3, w4⟩ := lg5.ob
  obtain ⟨od5, rs6, k1, k2, k3, k4, k5⟩ := st5.ob
  refine ⟨_, rfl, g, dx, _, rfl, w1, lf_no _ _ _ (by decide +kernel)
    (by decide +kernel) (by decide +kernel), g, ro, b, ls, rows, rfl, lg5,
    fun ro' H6 nro lg6 b6 => ⟨rfl, ?_⟩⟩
  rw [decide_eq_true rfl]
  exact q ro' en' [] H6 ⟨⟨lg6, st5.butG w1 b6, ne_of_none k4 nro⟩,
    fun y o e m => b6 _ _ (fr5 _ _ e m) (ne_of_none e x4.ng), x4.ng,
    fr5.free (rg5.ne nro).symm nro, x4.ns⟩ (rg5.butG w1 b6)
end
end OM
namespace OM
open PySem PySem.Spec PyProof.Rows L2
def spAsked (C L : Addr) : Sp := fun vs H Q _ =>
  ∃ (p g ro b s it en : Addr) (ls : List (List Nat)) (rows : List En),
  vs = [.ref p, .ref g, .ref s] ∧ Rng H p ∧ Bth C L H g ro b s it en ls rows ∧
  ∀ H', Rng H' p → But p H H' → Q (.bl true) H'
section
variable {P : Program} {w : World} {K : PySem.W.Frag}
  {mg : Str → Option Value} {base : Heap} {C L : Addr}
theorem ok_right23 {f fe : Addr} {fd fde : FuncData} {k n : Nat}
    (F : Fun K "_law_right" "_law_right" s_Lright f fd)
    (B : Bl mg)
    (Se : Spec1 K C "__eq__" fe fde ["self", "other"])
    (Ge : FnOk P w K mg base CX0 n fe fde ["self", "other"] (spEqB C))
    (hn : n + 1 ≤ k)
    (Cd : CalDraw P w K mg base k)
    (Cn : Cal P w K mg base k "_law_names"
      ["_law_rng_here", "_law_many", "_law_used"] spNames)
    (Cb : CalC P w K mg base C k "Base" ["self", "items"] (spInitOk C))
    (Cl : CalC P w K mg base L k "SwapLog" ["self", "base"] (spLInit C L))
    (Cc : CalG P w K mg base k "_law_call" ["_law_rng_here", "_law_log",
      "_law_model"] (spCall C L))
    (Cs : CalG P w K mg base k "_law_stands" ["_law_log", "_law_model"]
      (spStands C L))
    (Ca : CalG P w K mg base k "_law_asked_right" ["_law_rng_here",
      "_law_log", "_law_model"] (spAsked C L))
    (Mb : CalM P w K mg base L k "base" ["self"] (spLBase C L)) :
    FnG P w K mg base CX0 (k + 2) f fd ["_law_rng_here"] spRight := by
  refine okG F sc_Lright (fun vs H Q E h => ?_)
    (fun cv A outer s H vs Q E hr1 gd h => ?_)
  · obtain ⟨p, rfl, _⟩ := h
    rfl
  obtain ⟨p, rfl, rg, q⟩ := h
  have nd := sc_Lright.nd
  have hr := hr1.mono (Nat.le_succ k)
  have hrn := hr.mono hn
  refine ⟨_, C8.pss_cut (ps_set (i := 1) nd rfl (.inl rfl)
      (pe_ix ix_list (pe_lst (pa_cons pe_int (pa_cons pe_int (pa_cons pe_int
        (pa_cons pe_int (pa_cons (pe_op op_add pe_int (pe_cal Cd hr (pa_cons
          (pv 0) (pa_cons pe_int pa_nil)))) (pa_cons pe_int pa_nil)))))))
        (pe_cal Cd hr (pa_cons (pv 0) (pa_cons pe_int pa_nil)))
        (fun _ _ => rfl)))
    (C8.pss_cut (ps_set (i := 2) nd rfl (.inl rfl)
      (pe_cal Cn hr (pa_cons (pv 0) (pa_cons (pv 1)
        (pa_cons (pe_lst pa_nil) pa_nil)))))
    (C8.pss_cut (ps_par (i := 3) (j := 4) (by rfl) nd rfl rfl
      (by decide) rfl rfl
      (pa_cons (pe_calC Cl hr1 (pa_cons (pe_calC Cb hr1 (pa_cons
          (pe_callTy call_list_of (by rfl) B.list bt_list (pa_cons (pv 2)
            pa_nil)) pa_nil)) pa_nil))
        (pa_cons (pe_disp (pps_cons pe_str (pv 2) (pps_cons pe_str
          (pe_callTy call_list_of (by rfl) B.list bt_list (pa_cons (pv 2)
            pa_nil))
          (pps_cons pe_str (pe_lst pa_nil) pps_nil))) (by rfl) (by rfl)
          (fun z => by cases z) (by decide)) pa_nil)) (by rfl))
    (C8.pss_cut (ps_for PassesOwn.never rfl
      (pi_range1 (by rfl) B.range (pa_cons (pe_cal Cd hr (pa_cons (pv 0)
        (pa_cons pe_int pa_nil))) pa_nil))
      (pg_name (i := 5) nd rfl (.inl rfl))
      (C8.pss_cut (ps_if (PW.pt (pw_or (pt_not (pt_val (pe_calG Cc hr gd
          (pa_cons (pv 0) (pa_cons (pv 3) (pa_cons (pv 4) pa_nil))))))
          (pw_or1 (pt_not (pt_val (pe_calG Cs hr gd (pa_cons (pv 3)
            (pa_cons (pv 4) pa_nil))))))))
        (pss_one ps_never) pss_nil)
      (pss_one (ps_if (pt_not (pt_val (pe_calG Ca hr gd
          (pa_cons (pv 0) (pa_cons (pv 3) (pa_cons (pv 4) pa_nil))))))
        (pss_one ps_never) pss_nil))))
    (pss_one (ps_ret (pe_cmpR (op_eqOwn Se Ge (hrn.mono (Nat.le_succ n)))
      (pe_calM0 Mb hr (pv 3)) (pe_calC Cb hr1 (pa_cons (pv 2) pa_nil))
      (nomark _))))))), ?_⟩
  -- how many
  refine ⟨fun σ' H' => ∃ m : Nat, σ' = [some (.ref p), some (.int m), none,
    none, none, none] ∧ 1 ≤ m ∧ m ≤ 40 ∧ Rng H' p ∧ But p H H', ?_, ?_⟩
  · refine ⟨_, rfl, p, 8, rfl, rg, by decide, by decide,
      fun d H1 d0 d1 rg1 b1 => ⟨_, _, rfl, rfl, sz (by simp), fun t nt => ?_⟩⟩
    have ntp : t ≠ p := (rg1.ne nt).symm
    refine ⟨_, rfl, p, 6, rfl, rg1.same (sameNew nt), by decide, by decide,
      fun e H2 e0 e1 rg2 b2 => ?_⟩
    have h2 := b2 _ _ upd_same ntp
    have bb : But p H H2 := (b1.put nt ntp).trans b2
    have e' : e = 0 ∨ e = 1 ∨ e = 2 ∨ e = 3 ∨ e = 4 ∨ e = 5 := by omega
    rcases e' with rfl | rfl | rfl | rfl | rfl | rfl
    · exact ⟨t, _, _, _, rfl, rfl, SqL.of h2, atI_nat (j := 0) rfl, 2, rfl,
        by decide, by decide, rg2, bb⟩
    · exact ⟨t, _, _, _, rfl, rfl, SqL.of h2, atI_nat (j := 1) rfl, 3, rfl,
        by decide, by decide, rg2, bb⟩
    · exact ⟨t, _, _, _, rfl, rfl, SqL.of h2, atI_nat (j := 2) rfl, 4, rfl,
        by decide, by decide, rg2, bb⟩
    · exact ⟨t, _, _, _, rfl, rfl, SqL.of h2, atI_nat (j := 3) rfl, 5, rfl,
        by decide, by decide, rg2, bb⟩
    · refine ⟨t, _, _, _, rfl, rfl, SqL.of h2, atI_nat (j := 4) rfl,
        (1 + d).toNat, ?_, by omega, by omega, rg2, bb⟩
      rw [Int.toNat_of_nonneg (by omega)]
      rfl
    · exact ⟨t, _, _, _, rfl, rfl, SqL.of h2, atI_nat (j := 5) rfl, 40, rfl,
        by decide, by decide, rg2, bb⟩
  rintro _ H1 ⟨m, rfl, m1, m40, rg1, b1⟩
  -- the items
  refine ⟨fun σ' H' => ∃ it ls, σ' = [some (.ref p), some (.int m),
    some (.ref it), none, none, none] ∧ Good ls ∧
    H' it = some (.lst (ls.map vS)) ∧ Rng H' p ∧ But p H H', ?_, ?_⟩
  · refine ⟨_, rfl, _, rfl, sz (by simp), fun u nu => ?_⟩
    have nup : u ≠ p := (rg1.ne nu).symm
    refine ⟨p, u, m, [], rfl, rg1.same (sameNew nu), upd_same, nup,
      by omega, by simp, fun it ls H2 nit hl nm ndl no hit rg2 b2 => ?_⟩
    exact ⟨it, ls, rfl, ⟨nm, ndl, by omega, by omega⟩, hit, rg2,
      (b1.put nu nup).trans b2⟩
  clear rg1 b1
  rintro _ H2 ⟨it, ls, rfl, good, hi2, rg2, b2⟩
  have l40 := good.hi
  have l1 := good.lo
  have back : ∀ {a : Addr}, H2 a = none → H a = none := fun h =>
    b2.free (rg2.ne h).symm h
  -- the log and the state
  refine ⟨fun σ' H' => ∃ g ro b sa en, σ' = [some (.ref p), some (.int m),
    some (.ref it), some (.ref g), some (.ref sa), none] ∧
    BthF C L H p H' g ro b sa it en ls [] ∧ Rng H' p,
    ?_, ?_⟩
  · refine ⟨_, rfl, it, _, rfl, .inl (SqL.of hi2), fun c nc => ?_⟩
    have sc : Same H2 (upd H2 c (.lst (ls.map vS))) := sameNew nc
    have kc : (upd H2 c (.lst (ls.map vS))) c = some (.lst (ls.map vS)) :=
      upd_same
    generalize upd H2 c (.lst (ls.map vS)) = H2' at sc kc ⊢
    refine fun b dx nb nx ne => ?_
    refine ⟨b, c, dx, ls, rfl, upd_same, ?_, good, fun H3 hB b3 => ⟨rfl, ?_⟩⟩
    · rw [upd_ne (ne_of_none kc nb), upd_ne (ne_of_none kc nx)]
      exact kc
    have s3 : Same H2 H3 := by
      intro y o e
      have e := sc _ _ e
      have ny := ne_of_none e nb
      refine b3 y o ?_ ny
      rw [upd_ne ny, upd_ne (ne_of_none e nx)]
      exact e
    refine fun g dg ng ngx ne2 => ?_
    have s0 : Same H3 (upd (upd H3 dg (.own g)) g (.ins L dg [])) :=
      OM.Same.put (sameNew ngx) ng
    refine ⟨g, b, dg, ls, rfl, upd_same, hB.same s0, good,
      fun ro H4 nro x4 b4 => ⟨rfl, ?_⟩⟩
    have s4 : Same H3 H4 := fun y o e => b4 y o (s0 y o e) (ne_of_none e ng)
    have s24 := s3.trans s4
    have hi4 := s24 _ _ hi2
    refine fun sa nsa => ?_
    have t1 : Same H4 (upd H4 sa (.dK [])) := sameNew nsa
    have h1 : (upd H4 sa (.dK [])) sa = some (.dK []) := upd_same
    generalize upd H4 sa (.dK []) = H5 at t1 h1 ⊢
    refine ⟨_, rfl, _, rfl, it, _, rfl, .inl (SqL.of (t1 _ _ hi4)),
      fun od nod => ?_⟩
    have t2 : Same H5 (upd H5 od (.lst (ls.map vS))) := sameNew nod
    have h2 : (upd H5 od (.lst (ls.map vS))) od = some (.lst (ls.map vS)) :=
      upd_same
    generalize upd H5 od (.lst (ls.map vS)) = H6 at t2 h2 ⊢
    refine ⟨sz (by simp), fun en nen => ?_⟩
    have t3 : Same H6 (upd H6 en (.lst [])) := sameNew nen
    have h3 : (upd H6 en (.lst [])) en = some (.lst []) := upd_same
    generalize upd H6 en (.lst []) = H7 at t3 h3 ⊢
    have hp3 := t3 _ _ (t2 _ _ h1)
    refine ⟨hp3, [(kI, .ref it), (kO, .ref od), (kE, .ref en)], rfl,
      by show 3 ≤ 15; decide, ?_⟩
    rw [merge3]
    have t13 := (t1.trans t2).trans t3
    have bp : But sa H7 (upd H7 sa (.dK (st3 it od en))) := (But.refl H7).at
    have st : Same H4 (upd H7 sa (.dK (st3 it od en))) := OM.Same.put t13 nsa
    obtain ⟨_, _, _, _, _, k3, _⟩ := x4.ob
    refine ⟨_, _, rfl, g, ro, b, sa, en, rfl, ⟨⟨x4.same st, ⟨od, [], upd_same,
      ?_, ?_, ?_, .nil⟩, (ne_of_none ((t1.trans t2) _ _ k3) nen).symm⟩,
      b2.trans (But.of (s24.trans st)), back (s3.free ng),
      back (s3.free (s0.free nro)), back (s24.free nsa)⟩, rg2.same
      (s24.trans st)⟩
    · have z := t13 _ _ hi4
      exact bp _ _ z (ne_of z hp3 nofun)
    · exact bp _ _ (t3 _ _ h2) (ne_of (t3 _ _ h2) hp3 nofun)
    · exact bp _ _ h3 (ne_of h3 hp3 nofun)
  rintro _ H3 ⟨g, ro, b, sa, en, rfl, x3, rg3⟩
  -- the turns
  refine ⟨fun σ' H' => ∃ ro en rows y5, σ' = [some (.ref p), some (.int m),
    some (.ref it), some (.ref g), some (.ref sa), y5] ∧
    BthF C L H p H' g ro b sa it en ls rows ∧ Rng H' p, ?_, ?_⟩
  · refine ⟨_, rfl, p, 41, rfl, rg3, by decide, by decide,
      fun d H4 d0 d1 rg4 b4 => ⟨_, rfl, by omega, by omega, ?_⟩⟩
    refine for_range (lo := 0) (n := d.toNat) (fun j σ H' =>
        ∃ ro en rows y5, σ = [some (.ref p), some (.int m),
        some (.ref it), some (.ref g), some (.ref sa), y5] ∧
        BthF C L H p H' g ro b sa it en ls rows ∧ Rng H' p)
      ⟨ro, en, [], none, rfl, x3.but rg3 b4, rg4⟩ ?_ ?_
    · rintro j σ H5 hj ⟨ro5, en5, rows5, y5, rfl, x5, rg5⟩
      refine ⟨fun σ' H' => ∃ ro en rows, σ' = [some (.ref p), some (.int m),
        some (.ref it), some (.ref g), some (.ref sa),
        some (.int (0 + (j : Int)))] ∧
        BthF C L H p H' g ro b sa it en ls rows ∧ Rng H' p, ?_, ?_⟩
      · refine ⟨_, rfl, _, rfl, _, rfl, p, g, ro5, b, sa, it, en5, H, ls, rows5,
          rfl, rg5, x5, fun ro6 en6 rows6 H6 x6 rg6 => ⟨_, rfl, iteF ?_⟩⟩
        refine ⟨_, rfl, _, rfl, g, ro6, b, sa, it, en6, ls, rows6, rfl,
          x6.toBth, fun H7 s7 => ⟨_, rfl, iteF ⟨ro6, en6, rows6, rfl,
            x6.same s7, rg6.same s7⟩⟩⟩
      rintro _ H6 ⟨ro6, en6, rows6, rfl, x6, rg6⟩
      exact ⟨_, rfl, _, rfl, _, rfl, p, g, ro6, b, sa, it, en6, ls, rows6, rfl,
        rg6, x6.toBth, fun H7 rg7 b7 => ⟨_, rfl, iteF ⟨ro6, en6, rows6, _, rfl,
          x6.but rg6 b7, rg7⟩⟩⟩
    · rintro σ H5 ⟨ro5, en5, rows5, y5, rfl, x5, rg5⟩
      exact ⟨ro5, en5, rows5, _, rfl, x5, rg5⟩
  clear x3 rg3
  rintro _ H3 ⟨ro3, en3, rows, y5, rfl, x3, rg3⟩
  obtain ⟨dx, cu, rs, w1, w2, w3, w4⟩ := x3.lg.ob
  obtain ⟨od, rs', h1, h2, h3, h4, h5⟩ := x3.st.ob
  refine ⟨_, rfl, g, dx, _, rfl, w1, lf_no _ _ _ (by decide +kernel)
    (by decide +kernel) (by decide +kernel), g, ro3, b, ls, rows, rfl, x3.lg,
    _, rfl, fun b2 dx2 nb nx ne => ?_⟩
  refine ⟨b2, it, dx2, ls, rfl, upd_same, ?_, good, fun H4 hB b4 => ⟨rfl, ?_⟩⟩
  · rw [upd_ne (ne_of_none h2 nb), upd_ne (ne_of_none h2 nx)]
    exact h2
  have s4 : Same H3 H4 := by
    intro y o e
    have ny := ne_of_none e nb
    refine b4 y o ?_ ny
    rw [upd_ne ny, upd_ne (ne_of_none e nx)]
    exact e
  have ba := x3.lg.ba.same s4
  obtain ⟨dy, lo, d, z1, z2, z3⟩ := ba.ob
  obtain ⟨dy2, lo2, d2, z4, z5, z6⟩ := hB.ob
  refine ⟨b, b2, dy, dy2, _, _, rfl, rfl, z1, z4, b, b2, ls, ls, rfl, ba, hB,
    good.uni, good.uni, ?_⟩
  rw [decide_eq_true rfl]
  exact ⟨_, rfl, q H4 (rg3.same s4) (x3.fr.trans (But.of s4))⟩
end
end OM
namespace OM
open PySem PySem.Spec PyProof.Rows L2
theorem shaped_22 {l m : List Nat} (h1 : ∀ c ∈ l, c < 1114112)
    (h2 : ∀ c ∈ m, c < 1114112) :
    SeqAt.shaped (.tuple [dT (l, m), dT (m, l)]) = true := by
  unfold SeqAt.shaped
  rw [show PyData.canLay0 (.tuple [dT (l, m), dT (m, l)]) =
    (PyData.canLay0 (dT (l, m)) && (PyData.canLay0 (dT (m, l)) && true)) by
      simp only [PyData.canLay0, PyData.canLayAll0],
    lay_T (p := (l, m)) h1 h2, lay_T (p := (m, l)) h2 h1]
  have d : (PyData.tuple [dT (l, m), dT (m, l)]).depth =
      max (dT (l, m)).depth (max (dT (m, l)).depth 0) + 1 := by
    simp only [PyData.depth, PyData.depthAll]
  have a := depth_T (l, m)
  have b := depth_T (m, l)
  exact decide_eq_true (by omega)
theorem ent_take {ls : List (List Nat)} {rows : List En} {l m : List Nat} :
    (vIs (entL ls rows l m) ++ [V.non]).take 1 = [entV ls rows l m] := by
  unfold entL entV
  split <;> rfl
theorem ent1_ok {ls : List (List Nat)} {rows : List En} (x : Rw ls rows)
    {l m : List Nat} : (PyData.list [entD ls rows l m]).showable = true ∧
    (PyData.list [entD ls rows l m]).depth ≤ 60 ∧
    (PyData.list [entD ls rows l m]).shown.length ≤ sizeLine := by
  unfold entD
  by_cases c : pairOf ls l m ∈ prsOf ls (ixs rows)
  · rw [if_pos c]
    have cl := List.idxOf_lt_length_of_mem c
    rw [prsOf_len, List.length_map] at cl
    have mm := x.many
    exact ints_ok (ks := [(prsOf ls (ixs rows)).idxOf (pairOf ls l m)])
      (fun i hi => by rw [List.mem_singleton.mp hi]; omega) (by simp)
  · rw [if_neg c]
    decide +kernel
theorem PrsAt.butR {H H' : Hp} {p : Addr} (r : Rng H p) (b : But p H H') :
    ∀ {rs : List Addr} {ps : List Pr}, PrsAt H rs ps → PrsAt H' rs ps
  | _, _, .nil => .nil
  | _, _, .cons h t => .cons (by
      obtain ⟨x, y, e, _⟩ := r
      exact b _ _ h (ne_of h e nofun)) (PrsAt.butR r b t)
section
variable {P : Program} {w : World} {K : PySem.W.Frag}
  {mg : Str → Option Value} {base : Heap} {C L : Addr}
theorem ok_asked {f : Addr} {fd : FuncData} {k : Nat}
    (F : Fun K "_law_asked_right" "_law_asked_right" s_Lasked_right f fd)
    (B : Bl mg) (Cd : CalDraw P w K mg base k)
    (Cp : Cal P w K mg base k "_law_pairs_after" ["_law_model", "_law_count"]
      spPaft)
    (Mo : CalM P w K mg base L k "order" ["self"] (spLOrd C L))
    (Ma : CalM P w K mg base L k "order_after" ["self", "count"]
      (spLAfter C L))
    (Mp : CalM P w K mg base L k "pair_at" ["self", "position"]
      (spLPair C L))
    (Mf : CalM P w K mg base L k "entry_for" ["self", "first", "second"]
      (spLFor C L)) :
    FnG P w K mg base CX0 (k + 1) f fd ["_law_rng_here", "_law_log",
      "_law_model"] (spAsked C L) := by
  refine okG F sc_Lasked_right (fun vs H Q E h => ?_)
    (fun cv A outer s H vs Q E hr gd h => ?_)
  · obtain ⟨p, g, ro, b, sa, it, en, ls, rows, rfl, _⟩ := h
    rfl
  obtain ⟨p, g, ro, b, sa, it, en, ls, rows, rfl, rg, x, q⟩ := h
  have nd := sc_Lasked_right.nd
  have hu := hu_of hr
  have hu65 : ∀ {Y : Around}, Room k Y → Y.units + 65 < cLine := fun r => by
    have := r.un; omega
  refine ⟨_, C8.pss_cut (ps_par (i := 3) (j := 4) (by rfl) nd rfl rfl
      (by decide) rfl rfl
      (pa_cons (pe_dget hu (pv 2) pe_str (fun _ _ => rfl))
        (pa_cons (pe_cal Cd hr (pa_cons (pv 0) (pa_cons (pe_op op_add
          (pe_callB call_len_seq (by rfl) B.len PySem.boot_len (pa_cons
            (pe_dget hu (pv 2) pe_str (fun _ _ => rfl)) pa_nil)) pe_int)
          pa_nil))) pa_nil)) (by rfl))
    (C8.pss_cut (ps_set (i := 5) nd rfl (.inl rfl)
      (pe_calM Ma hr (pv 1) (pa_cons (pv 4) pa_nil)))
    (C8.pss_cut (ps_if (pt_cmpR (op_neD hr.units) (pv 5)
        (pe_ix ix_tup (pe_cal Cp hr (pa_cons (pv 2) (pa_cons (pv 4) pa_nil)))
          pe_int (fun _ _ => rfl)) (nomark _)) (pss_one ps_never) pss_nil)
    (C8.pss_cut (ps_expr (pe_bm0 PySem.F.plainAttrs_list
        PySem.F.slot_list_reverse PySem.F.type_list_reverse mt_reverse (pv 5)))
    (C8.pss_cut (ps_if (PW.pt (pw_or (pt_cmpR (op_neD hr.units)
          (pe_calM0 Mo hr (pv 1)) (pe_dget hu (pv 2) pe_str (fun _ _ => rfl))
          (nomark _))
        (pw_or1 (pt_cmpR (op_neD hr.units)
          (pe_calM Ma hr (pv 1) (pa_cons (pv 4) pa_nil))
          (pe_revL (pv 5)) (nomark _))))) (pss_one ps_never) pss_nil)
    (C8.pss_cut (ps_set (i := 6) nd rfl (.inl rfl)
      (pe_ix ix_tup (pe_cal Cp hr (pa_cons (pv 2) (pa_cons
        (pe_callB call_len_seq (by rfl) B.len PySem.boot_len (pa_cons
          (pe_dget hu (pv 2) pe_str (fun _ _ => rfl)) pa_nil)) pa_nil)))
        pe_int (fun _ _ => rfl)))
    (C8.pss_cut (ps_set (i := 7) nd rfl (.inr rfl) (pe_tup (pa_cons
      (pe_ix ix_list (pv 3) (pe_cal Cd hr (pa_cons (pv 0) (pa_cons
        (pe_callB call_len_seq (by rfl) B.len PySem.boot_len
          (pa_cons (pv 3) pa_nil)) pa_nil))) (fun _ _ => rfl)) (pa_cons
      (pe_ix ix_list (pv 3) (pe_cal Cd hr (pa_cons (pv 0) (pa_cons
        (pe_callB call_len_seq (by rfl) B.len PySem.boot_len
          (pa_cons (pv 3) pa_nil)) pa_nil))) (fun _ _ => rfl)) pa_nil))))
    (C8.pss_cut (ps_if (PW.pt (pw_and (pt_cmpR (op_neD hr.units) (pv 6)
          (pe_lst pa_nil) (nomark _))
        (pw_and1 (pt_cmpR op_eq (pe_cal Cd hr (pa_cons (pv 0)
          (pa_cons pe_int pa_nil))) pe_int (nomark _)))))
      (C8.pss_cut (ps_set (i := 8) nd rfl (.inl rfl) (pe_cal Cd hr
        (pa_cons (pv 0) (pa_cons (pe_callB call_len_seq (by rfl) B.len
          PySem.boot_len (pa_cons (pv 6) pa_nil)) pa_nil))))
      (C8.pss_cut (ps_set (i := 7) nd rfl (.inr rfl)
        (pe_ix ix_list (pv 6) (pv 8) (fun _ _ => rfl)))
      (pss_one (ps_if (pt_cmpR (op_neD hr.units)
        (pe_calM Mp hr (pv 1) (pa_cons (pv 8) pa_nil)) (pv 7) (nomark _))
        (pss_one ps_never) pss_nil)))) pss_nil)
    (C8.pss_cut (ps_setLc (i := 9) (own := [("_law_k", 10), ("_law_own", 11)])
      (g := gTup K 2 (gCons (gName 10) (gCons (gName 11) gNil)))
      (tt := tTest (tOp (rInDT K) (tVar 11) (tTup (tCons (tVar 7)
        (tCons (tRevT K (tVar 7)) tNil)))))
      (by rfl) nd rfl rfl (sw_true rfl rfl rfl (by decide +kernel))
      (pi_enum (by rfl) B.enum (pa_cons (pv 6) pa_nil))
      (blkOk_by (N := N_Lasked_right) (sc := defScope s_Lasked_right)
        (by decide +kernel))
      (fun _ _ _ _ _ => pg_tup rfl (pgs_cons (pg_name (i := 10) nd rfl
        (Or.inl rfl)) (pgs_cons (pg_name (i := 11) nd rfl (Or.inl rfl))
        pgs_nil)))
      (fun _ _ _ _ _ => pts_one (pt_cmpR (op_inDT (hu65 hr)) (pv 11)
        (pe_tup (pa_cons (pv 7) (pa_cons (pe_revT (pv 7)) pa_nil)))
        (by rfl)))
      (fun _ _ _ _ _ => pv 10))
    (pss_one (ps_ret (pe_cmpR op_eq
      (pe_callB (call_reprD hr gd) (by rfl) B.repr bt_repr (pa_cons
        (pe_lst (pa_cons (pe_calM Mf hr (pv 1) (pa_cons
          (pe_ix ix_tup (pv 7) pe_int (fun _ _ => rfl)) (pa_cons
          (pe_ix ix_tup (pv 7) pe_int (fun _ _ => rfl)) pa_nil))) pa_nil))
        pa_nil))
      (pe_callB (call_reprD hr gd) (by rfl) B.repr bt_repr (pa_cons
        (pe_slice sl_list (pe_op op_cat (pv 9) (pe_lst (pa_cons pe_non
          pa_nil))) po_none (po_some pe_int)) pa_nil))
      (nomark _)))))))))))), ?_⟩
  have lno : ∀ {b cu ro : Addr} {m : Str}, ¬ m = "ground" → ¬ m = "current" →
    ¬ m = "rows" → (lf b cu ro).lookup m = none := fun a b c => lf_no _ _ _ a b c
  have rwx := x.lg.rw
  have many := rwx.many
  have good := x.lg.good
  have h40 := good.hi
  have l1 := good.lo
  have up := UniP_prs good x.lg.wd
  have go := good.perm x.lg.perm
  -- the items and a number
  refine ⟨fun σ' H' => ∃ n : Nat, σ' = [some (.ref p), some (.ref g),
    some (.ref sa), some (.ref it), some (.int n), none, none, none, none, none,
    none, none] ∧ n ≤ rows.length ∧ Rng H' p ∧
    Bth C L H' g ro b sa it en ls rows ∧ But p H H', ?_, ?_⟩
  · obtain ⟨od, rs, h1, h2, h3, h4, h5⟩ := x.st.ob
    refine ⟨_, rfl, sa, _, rfl, dgI h1, _, rfl, _, rfl, sa, _, rfl, dgE h1, en,
      _, rfl, .inl (SqL.of h4), _, _, rfl, rfl, p, _, rfl, rg, ?_, ?_,
      fun n H1 n0 n1 rg1 b1 => ⟨_, _, rfl, n.toNat, ?_, ?_, rg1, x.but rg b1,
        b1⟩⟩
    · rw [List.length_map, h5.len]; omega
    · rw [List.length_map, h5.len]; omega
    · rw [Int.toNat_of_nonneg n0]
      rfl
    · rw [List.length_map, h5.len] at n1
      omega
  rintro _ H1 ⟨n, rfl, hn, rg1, x1, b1⟩
  have os : ∃ os, run ls ((ixs rows).take n) = os ∧
      run ls (ixs (rows.take n)) = os ∧ Good os := by
    refine ⟨_, rfl, ?_, good.perm (Of.run _ ⟨good.nd, List.Perm.refl _⟩).pm⟩
    unfold ixs
    rw [List.map_take]
  obtain ⟨os, eo1, eo2, gos⟩ := os
  -- told
  refine ⟨fun σ' H' => ∃ td, σ' = [some (.ref p), some (.ref g),
    some (.ref sa), some (.ref it), some (.int n), some (.ref td), none, none,
    none, none, none, none] ∧ H1 td = none ∧ H' td = some (.lst (os.map vS)) ∧
    Same H1 H', ?_, ?_⟩
  · obtain ⟨dx, cu, rsl, w1, w2, w3, w4⟩ := x1.lg.ob
    refine ⟨_, rfl, g, dx, _, rfl, w1, lno (by decide +kernel)
      (by decide +kernel) (by decide +kernel), _, rfl, g, ro, b, ls, rows, n,
      rfl, x1.lg, hn, fun td H2 ntd htd s2 => ⟨td, rfl, ntd, ?_, s2⟩⟩
    rw [eo1] at htd
    exact htd
  rintro _ H2 ⟨td, rfl, ntd, htd, s2⟩
  refine ⟨fun σ' H' => σ' = [some (.ref p), some (.ref g),
    some (.ref sa), some (.ref it), some (.int n), some (.ref td), none, none,
    none, none, none, none] ∧ H' td = some (.lst (os.map vS)) ∧
    Same H1 H', ?_, ?_⟩
  · refine ⟨_, rfl, _, rfl, _, rfl, sa, it, en, ls, rows, n, rfl,
      (x1.same s2).st, rwx, hn, fun t pr nw rs' H3 nt npr nnw ht hpr hprs hnw
      s3 => ⟨t, _, 1, _, rfl, rfl, .inl (.inl ht), atI_nat (j := 1) rfl, ?_⟩⟩
    rw [eo2] at hnw
    refine ⟨_, _, dp_N (SqL.of (s3 _ _ htd)), dp_N (SqL.of hnw),
      shaped_L gos.uni, shaped_L gos.uni, _, rfl, ?_⟩
    rw [eqv_L, decide_eq_true rfl]
    exact iteF ⟨rfl, s3 _ _ htd, s2.trans s3⟩
  clear htd s2
  rintro _ H2 ⟨rfl, htd, s2⟩
  refine ⟨fun σ' H' => σ' = [some (.ref p), some (.ref g),
    some (.ref sa), some (.ref it), some (.int n), some (.ref td), none, none,
    none, none, none, none] ∧ H' td = some (.lst (os.map vS).reverse) ∧
    Same H1 H', ?_, ?_⟩
  · exact ⟨_, rfl, .inl ⟨rfl, _, SqL.of htd⟩, td, _, rfl, rfl, htd, rfl,
      upd_same, OM.Same.put s2 ntd⟩
  clear htd s2
  rintro _ H2 ⟨rfl, htd, s2⟩
  -- it changed nothing
  refine ⟨fun σ' H' => σ' = [some (.ref p), some (.ref g),
    some (.ref sa), some (.ref it), some (.int n), some (.ref td), none, none,
    none, none, none, none] ∧ Same H1 H', ?_, ?_⟩
  · have x2 := x1.same s2
    obtain ⟨dx, cu, rsl, w1, w2, w3, w4⟩ := x2.lg.ob
    obtain ⟨od, rs, h1, h2, h3, h4, h5⟩ := x2.st.ob
    refine ⟨_, rfl, g, dx, _, rfl, w1, lno (by decide +kernel)
      (by decide +kernel) (by decide +kernel), g, ro, b, ls, rows, rfl, x2.lg,
      fun o H3 no ho s3 => ?_⟩
    refine ⟨_, rfl, sa, _, rfl, dgO (s3 _ _ h1), _, _, dp_N (SqL.of ho),
      dp_N (SqL.of (s3 _ _ h3)), shaped_L go.uni, shaped_L go.uni, _, rfl, ?_⟩
    rw [eqv_L, decide_eq_true rfl]
    refine iteF ⟨_, rfl, g, dx, _, rfl, s3 _ _ w1, lno (by decide +kernel)
      (by decide +kernel) (by decide +kernel), _, rfl, g, ro, b, ls, rows, n,
      rfl, x2.lg.same s3, hn, fun t2 H4 nt2 ht2 s4 => ?_⟩
    rw [eo1] at ht2
    refine ⟨_, rfl, td, _, rfl, SqL.of (s4 _ _ (s3 _ _ htd)),
      fun z nz => ?_⟩
    rw [List.reverse_reverse]
    have s5 := (s3.trans s4).trans (sameNew (o := .lst (os.map vS)) nz)
    refine ⟨_, _, dp_N (SqL.of (sameNew nz _ _ ht2)), dp_N (SqL.of upd_same),
      shaped_L gos.uni, shaped_L gos.uni, _, rfl, ?_⟩
    rw [eqv_L, decide_eq_true rfl]
    exact iteF ⟨rfl, s2.trans s5⟩
  clear htd s2
  rintro _ H2 ⟨rfl, s2⟩
  -- the pairs
  refine ⟨fun σ' H' => ∃ pr rs', σ' = [some (.ref p), some (.ref g),
    some (.ref sa), some (.ref it), some (.int n), some (.ref td),
    some (.ref pr), none, none, none, none, none] ∧
    H' pr = some (.lst (rs'.map V.ref)) ∧
    PrsAt H' rs' (prsOf ls (ixs rows)) ∧ Same H1 H', ?_, ?_⟩
  · have x2 := x1.same s2
    obtain ⟨od, rs, h1, h2, h3, h4, h5⟩ := x2.st.ob
    refine ⟨_, rfl, _, rfl, sa, _, rfl, dgE h1, en, _, rfl,
      .inl (SqL.of h4), sa, it, en, ls, rows, rows.length, ?_, x2.st, rwx,
      Nat.le_refl _, fun t pr nw rs' H3 nt npr nnw ht hpr hprs hnw s3 =>
        ⟨t, _, 0, _, rfl, rfl, .inl (.inl ht), atI_nat (j := 0) rfl, pr, rs',
          rfl, hpr, ?_, s2.trans s3⟩⟩
    · rw [List.length_map, h5.len]
      rfl
    · rw [List.take_length] at hprs
      exact hprs
  rintro _ H3 ⟨pr, rs', rfl, hpr, hprs, s3⟩
  have x3 := x1.same s3
  have rg3 := rg1.same s3
  have b3 := b1.trans (But.of s3)
  clear s2 s3 x1 rg1 b1
  -- two items
  refine ⟨fun σ' H' => ∃ (t : Addr) (l m : List Nat), σ' = [some (.ref p),
    some (.ref g), some (.ref sa), some (.ref it), some (.int n),
    some (.ref td), some (.ref pr), some (.ref t), none, none, none, none] ∧
    l ∈ ls ∧ m ∈ ls ∧ H' t = some (.tup (vT (l, m))) ∧
    H' pr = some (.lst (rs'.map V.ref)) ∧
    PrsAt H' rs' (prsOf ls (ixs rows)) ∧ Rng H' p ∧
    Bth C L H' g ro b sa it en ls rows ∧ But p H H', ?_, ?_⟩
  · obtain ⟨od, rs, h1, h2, h3, h4, h5⟩ := x3.st.ob
    refine ⟨_, rfl, _, rfl, _, rfl, it, _, rfl, .inl (SqL.of h2), p, _, rfl,
      rg3, by rw [List.length_map]; omega, by rw [List.length_map]; omega,
      fun e H4 e0 e1 rg4 b4 => ?_⟩
    have hi4 := b4 _ _ h2 (neRng rg3 h2)
    rw [List.length_map] at e1
    have el : e.toNat < ls.length := by omega
    have ee : e = ((e.toNat : Nat) : Int) := by omega
    refine ⟨it, _, e, _, rfl, rfl, SqL.of hi4, (by
        rw [ee]; exact atI_nat (j := e.toNat) (getD_map vS [] el)), _, rfl, _,
      rfl, _, rfl, it, _, rfl, .inl (SqL.of hi4), p, _, rfl, rg4,
      by rw [List.length_map]; omega, by rw [List.length_map]; omega,
      fun f H5 f0 f1 rg5 b5 => ?_⟩
    have hi5 := b5 _ _ hi4 (neRng rg4 hi4)
    rw [List.length_map] at f1
    have fl : f.toNat < ls.length := by omega
    have ff : f = ((f.toNat : Nat) : Int) := by omega
    refine ⟨it, _, f, _, rfl, rfl, SqL.of hi5, (by
        rw [ff]; exact atI_nat (j := f.toNat) (getD_map vS [] fl)),
      sz (by simp), fun t nt => ?_⟩
    have s6 := sameNew (o := .tup (vT (ls.getD e.toNat [],
      ls.getD f.toNat []))) nt
    have p4 := b4 _ _ hpr (neRngR' rg3 hpr)
    refine ⟨t, _, _, rfl, getD_mem [] el, getD_mem [] fl, upd_same,
      s6 _ _ (b5 _ _ p4 (neRngR' rg4 p4)),
      (PrsAt.butR rg4 b5 (PrsAt.butR rg3 b4 hprs)).same s6, rg5.same s6,
      ((x3.but rg3 b4).but rg4 b5).same s6,
      ((b3.trans b4).trans b5).trans (But.of s6)⟩
  clear hpr hprs x3 rg3 b3
  rintro _ H3 ⟨t, l, m, rfl, hl, hm, ht, hpr, hprs, rg3, x3, b3⟩
  have lps : rs'.length = rows.length := by
    have := hprs.len
    rw [prsOf_len, List.length_map] at this
    exact this
  -- or those of an entry
  refine ⟨fun σ' H' => ∃ (t : Addr) (l m : List Nat) (y : Option V), σ' =
    [some (.ref p), some (.ref g), some (.ref sa), some (.ref it),
    some (.int n), some (.ref td), some (.ref pr), some (.ref t), y, none,
    none, none] ∧
    l ∈ ls ∧ m ∈ ls ∧ H' t = some (.tup (vT (l, m))) ∧
    H' pr = some (.lst (rs'.map V.ref)) ∧
    PrsAt H' rs' (prsOf ls (ixs rows)) ∧ Rng H' p ∧
    Bth C L H' g ro b sa it en ls rows ∧ But p H H', ?_, ?_⟩
  · refine ⟨_, rfl, sz (by simp), fun u nu => ?_⟩
    have s4 : Same H3 (upd H3 u (.lst [])) := sameNew nu
    have k4 : (upd H3 u (.lst [])) u = some (.lst []) := upd_same
    generalize upd H3 u (.lst []) = H4 at s4 k4 ⊢
    have hpr4 := s4 _ _ hpr
    have rg4 := rg3.same s4
    have x4 := x3.same s4
    have b4 := b3.trans (But.of s4)
    refine ⟨_, _, dp_P (SqL.of hpr4) (hprs.same s4),
      dp_P (rs := []) (SqL.of k4) .nil, shaped_P up,
      shaped_P (ps := []) nofun, _, rfl, ?_⟩
    rw [eqv_P]
    by_cases c : prsOf ls (ixs rows) = []
    · rw [decide_eq_true c]
      exact iteF ⟨t, l, m, _, rfl, hl, hm, s4 _ _ ht, hpr4, hprs.same s4, rg4,
        x4, b4⟩
    rw [decide_eq_false c]
    have lp : 0 < rows.length := by
      have := List.length_pos_iff.mpr c
      rw [prsOf_len, List.length_map] at this
      exact this
    refine iteT ⟨_, rfl, p, 2, rfl, rg4, by decide, by decide,
      fun e H5 e0 e1 rg5 b5 => ⟨rfl, _, rfl, ?_⟩⟩
    have hpr5 := b5 _ _ hpr4 (neRngR' rg4 hpr4)
    have pr5 := PrsAt.butR rg4 b5 (hprs.same s4)
    have x5 := x4.but rg4 b5
    have b5' := b4.trans b5
    have ht5 : H5 t = some (.tup (vT (l, m))) := by
      obtain ⟨_, _, e, _⟩ := rg4
      exact b5 _ _ (s4 _ _ ht) (ne_of (s4 _ _ ht) e nofun)
    refine ite2 (fun _ => ?_) (fun _ => ⟨t, l, m, _, rfl, hl, hm, ht5, hpr5,
      pr5, rg5, x5, b5'⟩)
    refine ⟨fun σ' H' => ∃ j : Nat, σ' =
      [some (.ref p), some (.ref g), some (.ref sa), some (.ref it),
      some (.int n), some (.ref td), some (.ref pr), some (.ref t),
      some (.int j), none, none, none] ∧ j < rows.length ∧
      H' pr = some (.lst (rs'.map V.ref)) ∧
      PrsAt H' rs' (prsOf ls (ixs rows)) ∧ Rng H' p ∧
      Bth C L H' g ro b sa it en ls rows ∧ But p H H', ?_, ?_⟩
    · refine ⟨_, rfl, _, rfl, pr, _, rfl, .inl (SqL.of hpr5), p, _, rfl, rg5,
        by rw [List.length_map, lps]; omega,
        by rw [List.length_map, lps]; omega, fun j H6 j0 j1 rg6 b6 =>
        ⟨j.toNat, ?_, ?_, b6 _ _ hpr5 (neRngR' rg5 hpr5),
          PrsAt.butR rg5 b6 pr5, rg6, x5.but rg5 b6, b5'.trans b6⟩⟩
      · rw [Int.toNat_of_nonneg j0]
        rfl
      · rw [List.length_map, lps] at j1
        omega
    rintro _ H6 ⟨j, rfl, hj, hpr6, pr6, rg6, x6, b6⟩
    have hj' : j < (prsOf ls (ixs rows)).length := by
      rw [prsOf_len, List.length_map]; exact hj
    have gj := List.getElem?_eq_getElem hj'
    have gd : (prsOf ls (ixs rows)).getD j ([], []) =
        (prsOf ls (ixs rows))[j] := by
      rw [List.getD_eq_getElem?_getD, gj]; rfl
    obtain ⟨r, er, hr6⟩ := pr6.get gj
    have hmem := (rwx.rep.mem _).mp (List.getElem_mem hj')
    have hup := up _ (List.getElem_mem hj')
    generalize (prsOf ls (ixs rows))[j] = pp at gd hr6 hmem hup
    obtain ⟨l2, m2⟩ := pp
    refine ⟨fun σ' H' => σ' =
      [some (.ref p), some (.ref g), some (.ref sa), some (.ref it),
      some (.int n), some (.ref td), some (.ref pr), some (.ref r),
      some (.int j), none, none, none] ∧ H6 = H', ?_, ?_⟩
    · exact ⟨_, rfl, _, rfl, pr, _, _, .ref r, rfl, rfl, SqL.of hpr6,
        atI_nat (show (rs'.map V.ref)[j]? = some (.ref r) by
          rw [List.getElem?_map, er]; rfl), rfl, rfl⟩
    rintro _ _ ⟨rfl, rfl⟩
    obtain ⟨dx, cu, rsl, w1, w2, w3, w4⟩ := x6.lg.ob
    refine ⟨_, rfl, g, dx, _, rfl, w1, lno (by decide +kernel)
      (by decide +kernel) (by decide +kernel), _, rfl, g, ro, b, ls, rows, j,
      rfl, x6.lg, hj, fun t2 H7 ht2 s7 => ?_⟩
    rw [gd] at ht2
    refine ⟨_, rfl, _, _, dp_T ht2, dp_T (s7 _ _ hr6),
      shaped_T hup.1.2 hup.2.2, shaped_T hup.1.2 hup.2.2, _, rfl, ?_⟩
    rw [eqv_T, decide_eq_true rfl]
    exact iteF ⟨r, l2, m2, _, rfl, hmem.1, hmem.2.1, s7 _ _ hr6, s7 _ _ hpr6,
      pr6.same s7, rg6.same s7, x6.same s7, b6.trans (But.of s7)⟩
  clear ht hl hm hpr hprs x3 rg3 b3 t l m
  rintro _ H3 ⟨t, l, m, y8, rfl, hl, hm, ht, hpr, hprs, rg3, x3, b3⟩
  have ul := (good.nm l hl).uni
  have um := (good.nm m hm).uni
  -- where the entries of the two are
  refine ⟨fun σ' H' => ∃ D, σ' =
    [some (.ref p), some (.ref g), some (.ref sa), some (.ref it),
    some (.int n), some (.ref td), some (.ref pr), some (.ref t), y8,
    some (.ref D), none, none] ∧ H' D = some (.lst (vIs (entL ls rows l m))) ∧
    Same H3 H', ?_, ?_⟩
  · refine ⟨_, rfl, pr, _, rfl, SqL.of hpr, fun D nD => ?_⟩
    refine walkW (walk_enum (K := K) (a := pr) (xs := rs'.map V.ref))
      (fun j H' => H' D = some (.lst (vIs (dueL (prsOf ls (ixs rows)) l m j))) ∧
        Same H3 H')
      ⟨upd_same, sameNew nD⟩ (fun j H' _ z => SqL.of (z.2 _ _ hpr)) ?_ ?_
    · rintro j v H4 H5 hj ⟨hD, s4⟩ ⟨T', x1', x2', rfl, nT, rfl, c1, c2⟩
      have c2 : (rs'.map V.ref)[j]? = some x2' := c2
      rw [List.getElem?_map] at c2
      rw [List.length_map] at hj
      have hj' : j < (prsOf ls (ixs rows)).length := by
        rw [prsOf_len, List.length_map]; omega
      have gp := List.getElem?_eq_getElem hj'
      obtain ⟨r, er, hr4⟩ := (hprs.same s4).get gp
      rw [er] at c2
      cases Option.some.inj c2
      cases Option.some.inj c1
      have s5 : Same H4 (upd H4 T' (.tup [.int (j : Nat), .ref r])) :=
        sameNew nT
      have hT : (upd H4 T' (.tup [.int (j : Nat), .ref r])) T' =
        some (.tup [.int (j : Nat), .ref r]) := upd_same
      generalize (upd H4 T' (.tup [.int (j : Nat), .ref r])) = H5 at s5 hT ⊢
      have pu := up _ (List.getElem_mem hj')
      have gdp : (prsOf ls (ixs rows)).getD j ([], []) =
          (prsOf ls (ixs rows))[j] := by
        rw [List.getD_eq_getElem?_getD, gp]; rfl
      have db : ([dT (l, m), dT (m, l)].any fun z => PyData.eqv z
          (dT (prsOf ls (ixs rows))[j])) =
          dueB (prsOf ls (ixs rows)) l m j := by
        rw [List.any_cons, List.any_cons, List.any_nil, eqv_T, eqv_T]
        unfold dueB
        rw [gdp]
      have ds : dueL (prsOf ls (ixs rows)) l m (j + 1) =
          dueL (prsOf ls (ixs rows)) l m j ++
            (if dueB (prsOf ls (ixs rows)) l m j = true then [j] else []) := by
        unfold dueL
        rw [List.range_succ, List.filter_append]
        congr 1
        by_cases c : dueB (prsOf ls (ixs rows)) l m j = true
        · rw [if_pos c, List.filter_cons_of_pos c]
          rfl
        · rw [if_neg c, List.filter_cons_of_neg c]
          rfl
      have dl : (dueL (prsOf ls (ixs rows)) l m j).length ≤ j := by
        refine Nat.le_trans (List.length_filter_le _ _) ?_
        rw [List.length_range]
        exact Nat.le_refl _
      have t5 := s5 _ _ (s4 _ _ ht)
      refine ⟨T', _, rfl, .inl (.inl hT), rfl, _, _, rfl, _, _, rfl, rfl, rfl,
        _, rfl, _, rfl, _, rfl, t, _, _, rfl, SqT.of t5, fun t2 n2 => ?_⟩
      have s7 : Same H5 (upd H5 t2 (.tup (vT (m, l)))) := sameNew n2
      have h7 : (upd H5 t2 (.tup (vT (m, l)))) t2 =
        some (.tup (vT (m, l))) := upd_same
      generalize (upd H5 t2 (.tup (vT (m, l)))) = H6 at s7 h7 ⊢
      refine ⟨sz (by simp), fun t3 n3 => ?_⟩
      have s8 : Same H6 (upd H6 t3 (.tup [.ref t, .ref t2])) := sameNew n3
      have h8 : (upd H6 t3 (.tup [.ref t, .ref t2])) t3 =
        some (.tup [.ref t, .ref t2]) := upd_same
      generalize (upd H6 t3 (.tup [.ref t, .ref t2])) = H8 at s8 h8 ⊢
      have s58 := (s5.trans s7).trans s8
      refine ⟨_, _, dp_T (s58 _ _ hr4), .tup (SqT.of h8)
        (.cons (dp_T (s8 _ _ (s7 _ _ t5))) (.cons (dp_T (s8 _ _ h7)) .nil)),
        shaped_T pu.1.2 pu.2.2, shaped_22 ul um, _, rfl, ?_⟩
      rw [db]
      have hD8 := s58 _ _ hD
      by_cases c : dueB (prsOf ls (ixs rows)) l m j = true
      · rw [c]
        rw [c, if_pos rfl] at ds
        refine iteT ⟨_, rfl, _, hD8, ?_, ?_, OM.Same.put (s4.trans s58) nD⟩
        · rw [List.length_map]
          exact sz' (by omega)
        · rw [upd_same, ds]
          unfold vIs
          rw [List.map_append]
          rfl
      · rw [if_neg c, List.append_nil] at ds
        have c' : dueB (prsOf ls (ixs rows)) l m j = false := by
          cases z : dueB (prsOf ls (ixs rows)) l m j with
          | false => rfl
          | true => exact absurd z c
        rw [c']
        refine iteF ⟨?_, s4.trans s58⟩
        rw [ds]
        exact hD8
    · rintro H5 ⟨hD, s5⟩
      rw [List.length_map] at hD
      have e := due_eq rwx (l := l) (m := m)
      rw [prsOf_len, List.length_map, ← lps] at e
      rw [e] at hD
      exact ⟨D, rfl, hD, s5⟩
  rintro _ H4 ⟨D, rfl, hD, s4⟩
  obtain ⟨dx, cu, rsl, w1, w2, w3, w4⟩ := x3.lg.ob
  have t4 := s4 _ _ ht
  obtain ⟨v1, v2, v3⟩ := ent1_ok rwx (l := l) (m := m)
  have el : (entL ls rows l m).length ≤ 1 := by
    unfold entL
    split <;> simp
  refine ⟨_, rfl, g, dx, _, rfl, s4 _ _ w1, lno (by decide +kernel)
    (by decide +kernel) (by decide +kernel), _, rfl, t, _, 0, _, rfl, rfl,
    .inl (.inl t4), atI_nat (j := 0) rfl, _, rfl, t, _, 1, _, rfl, rfl,
    .inl (.inl t4), atI_nat (j := 1) rfl, g, ro, b, ls, rows, l, m, rfl,
    x3.lg.same s4, hl, hm, fun H5 s5 => ⟨sz (by simp), fun u nu => ?_⟩⟩
  have s6 : Same H5 (upd H5 u (.lst [entV ls rows l m])) := sameNew nu
  have k6 : (upd H5 u (.lst [entV ls rows l m])) u =
    some (.lst [entV ls rows l m]) := upd_same
  generalize (upd H5 u (.lst [entV ls rows l m])) = H6 at s6 k6 ⊢
  refine ⟨_, .list [entD ls rows l m], rfl, .lst (SqL.of k6)
    (.cons dp_ent .nil), v1, v2, v3, _, rfl, sz (by simp), fun c nc => ?_⟩
  have hD6 := s6 _ _ (s5 _ _ hD)
  have s7 : Same H6 (upd H6 c (.lst [.non])) := sameNew nc
  have k7 : (upd H6 c (.lst [.non])) c = some (.lst [.non]) := upd_same
  generalize (upd H6 c (.lst [.non])) = H7 at s7 k7 ⊢
  refine ⟨D, c, _, _, rfl, rfl, s7 _ _ hD6, k7, ?_, fun e ne => ?_⟩
  · rw [List.length_map]
    exact sz (by simp; omega)
  have s8 : Same H7 (upd H7 e (.lst (vIs (entL ls rows l m) ++ [.non]))) :=
    sameNew ne
  have k8 : (upd H7 e (.lst (vIs (entL ls rows l m) ++ [.non]))) e =
    some (.lst (vIs (entL ls rows l m) ++ [.non])) := upd_same
  generalize (upd H7 e (.lst (vIs (entL ls rows l m) ++ [.non]))) = H8
    at s8 k8 ⊢
  refine ⟨1, rfl, e, _, rfl, SqL.of k8, fun z nz => ?_⟩
  rw [show (1 : Int) = ((1 : Nat) : Int) from rfl, cut_to _ (by simp), ent_take]
  refine ⟨_, .list [entD ls rows l m], rfl, .lst (SqL.of upd_same)
    (.cons dp_ent .nil), v1, v2, v3, rfl, ?_⟩
  rw [decide_eq_true rfl]
  have s9 := ((((s4.trans s5).trans s6).trans s7).trans s8).trans (sameNew
    (o := .lst [entV ls rows l m]) nz)
  exact q _ (rg3.same s9) (b3.trans (But.of s9))
end
end OM
namespace OM
open PySem PySem.Spec PyProof.Rows L2
section
variable {P : Program} {w : World} {K : PySem.W.Frag}
  {mg : Str → Option Value} {base : Heap} {C L : Addr}
/-- the law, by what the top has left -/
theorem all23
    {f1 f2 f3 f4 f5 f6 f7 f8 f9 f10 f11 f12 f13 f14 f15 f16 f17 f18 f19 f20 f21 f22 f23 f24 f25 f26 f27 f28 f29 f30 f31 f32 f33 f34 f35 f36 f37 : Addr}
    {d1 d2 d3 d4 d5 d6 d7 d8 d9 d10 d11 d12 d13 d14 d15 d16 d17 d18 d19 d20 d21 d22 d23 d24 d25 d26 d27 d28 d29 d30 d31 d32 d33 d34 d35 d36 d37 : FuncData}
    {m1 m2 m3 m4 m5 m6 m7 m8 m9 m10 m11 m12 m13 m14 m15 m16 m17 m18 m19 m20 m21 m22 m23 m24 : Addr}
    {e1 e2 e3 e4 e5 e6 e7 e8 e9 e10 e11 e12 e13 e14 e15 e16 e17 e18 e19 e20 e21 e22 e23 e24 : FuncData}
    {t40 t8 tN : Tok}
    (B : Bl mg)
    (BI : BlI mg)
    (B2 : Bl2 mg)
    (TC : BC K mg C) (mkC : PySem.W.makesIn K C = true)
    (TL : LC K mg L) (mkL : PySem.W.makesIn K L = true)
    (c40 : mg "MAX_ITEMS" = some (.int 40 t40))
    (c8 : mg "MAX_NAME_LENGTH" = some (.int 8 t8))
    (cN : mg "NO_REASON" = some (.str (Str.ofString "") tN))
    (D1 : DefAt K mg "is_name" s_is_name ["value"] f1 d1)
    (D2 : DefAt K mg "check_items" s_check_items ["items"] f2 d2)
    (D3 : DefAt K mg "pair_of" s_pair_of ["base", "first", "second"] f3 d3)
    (D4 : DefAt K mg "is_integer_from" s_is_integer_from ["value", "low", "high"] f4 d4)
    (D5 : DefAt K mg "is_swap_index" s_is_swap_index ["base", "value"] f5 d5)
    (D6 : DefAt K mg "check_swap_index" s_check_swap_index ["base", "index"] f6 d6)
    (D7 : DefAt K mg "exchanged" s_exchanged ["order", "index"] f7 d7)
    (D8 : DefAt K mg "goes_outward" s_goes_outward ["base", "order", "index"] f8 d8)
    (D9 : DefAt K mg "pairs_of_swaps" s_pairs_of_swaps ["base", "indexes"] f9 d9)
    (D10 : DefAt K mg "order_after_swaps" s_order_after_swaps ["base", "indexes"] f10 d10)
    (D11 : DefAt K mg "is_reason" s_is_reason ["value"] f11 d11)
    (D12 : DefAt K mg "check_reason" s_check_reason ["reason"] f12 d12)
    (D13 : DefAt K mg "_law_rng" s_Lrng ["_law_script", "_law_k"] f13 d13)
    (D14 : DefAt K mg "_law_draw" s_Ldraw ["_law_rng_here", "_law_many"] f14 d14)
    (D15 : DefAt K mg "_law_name" s_Lname ["_law_rng_here", "_law_used"] f15 d15)
    (D16 : DefAt K mg "_law_names" s_Lnames ["_law_rng_here", "_law_many", "_law_used"] f16 d16)
    (D17 : DefAt K mg "_law_inverted" s_Linverted ["_law_items", "_law_order"] f17 d17)
    (D18 : DefAt K mg "check_item" s_check_item ["base", "value"] f18 d18)
    (D19 : DefAt K mg "order_fault" s_order_fault ["base", "value"] f19 d19)
    (D20 : DefAt K mg "check_order" s_check_order ["base", "order"] f20 d20)
    (D21 : DefAt K mg "first_opposite" s_first_opposite ["order", "places"] f21 d21)
    (D22 : DefAt K mg "swaps_between" s_swaps_between ["base", "order", "other"] f22 d22)
    (D23 : DefAt K mg "_law_shuffled" s_Lshuffled ["_law_rng_here", "_law_values"] f23 d23)
    (D24 : DefAt K mg "_law_near_order" s_Lnear_order ["_law_rng_here", "_law_order", "_law_many"] f24 d24)
    (D25 : DefAt K mg "_law_swapped_entries" s_Lswapped_entries ["_law_items", "_law_entries", "_law_order", "_law_index", "_law_label"] f25 d25)
    (D26 : DefAt K mg "_law_swap" s_Lswap ["_law_model", "_law_index", "_law_label"] f26 d26)
    (D27 : DefAt K mg "_law_swaps" s_Lswaps ["_law_model", "_law_path", "_law_label"] f27 d27)
    (D28 : DefAt K mg "_law_path_to" s_Lpath_to ["_law_order", "_law_other"] f28 d28)
    (D29 : DefAt K mg "_law_removed" s_Lremoved ["_law_model", "_law_position"] f29 d29)
    (D30 : DefAt K mg "_law_call" s_Lcall ["_law_rng_here", "_law_log", "_law_model"] f30 d30)
    (D31 : DefAt K mg "_law_stands" s_Lstands ["_law_log", "_law_model"] f31 d31)
    (D32 : DefAt K mg "_law_pairs_after" s_Lpairs_after ["_law_model", "_law_count"] f32 d32)
    (D33 : DefAt K mg "_law_asked_right" s_Lasked_right ["_law_rng_here", "_law_log", "_law_model"] f33 d33)
    (D34 : DefAt K mg "_law_right" s_Lright ["_law_rng_here"] f34 d34)
    (D35 : DefAt K mg "law" s_law ["_law_script"] f35 d35)
    (D36 : DefAt K mg "names_fault" s_names_fault ["value", "most"] f36 d36)
    (D37 : DefAt K mg "is_integer" s_is_integer ["value"] f37 d37)
    (M1 : MethAt K C "__init__" "Base.__init__" s_Base_init ["self", "items"] m1 e1)
    (M2 : MethAt K C "__len__" "Base.__len__" s_Base_len ["self"] m2 e2)
    (M3 : MethAt K C "names" "Base.names" s_Base_names ["self"] m3 e3)
    (M4 : MethAt K C "has_item" "Base.has_item" s_Base_has_item ["self", "value"] m4 e4)
    (M5 : MethAt K C "position_of" "Base.position_of" s_Base_position_of ["self", "item"] m5 e5)
    (M6 : MethAt K C "precedes" "Base.precedes" s_Base_precedes ["self", "first", "second"] m6 e6)
    (M7 : MethAt K L "__init__" "SwapLog.__init__" s_SwapLog_init ["self", "base"] m7 e7)
    (M8 : MethAt K L "__len__" "SwapLog.__len__" s_SwapLog_len ["self"] m8 e8)
    (M9 : MethAt K L "order" "SwapLog.order" s_SwapLog_order ["self"] m9 e9)
    (M10 : MethAt K L "entries" "SwapLog.entries" s_SwapLog_entries ["self"] m10 e10)
    (M11 : MethAt K L "indexes" "SwapLog.indexes" s_SwapLog_indexes ["self"] m11 e11)
    (M12 : MethKDAt K L "swap" "SwapLog.swap" "reason" 2 s_SwapLog_swap ["self", "index", "reason"] m12 e12)
    (M13 : MethAt K L "swap_checked" "SwapLog.swap_checked" s_SwapLog_swap_checked ["self", "index", "reason"] m13 e13)
    (M14 : MethAt K L "check_position" "SwapLog.check_position" s_SwapLog_check_position ["self", "position"] m14 e14)
    (M15 : MethAt K L "remove_entry" "SwapLog.remove_entry" s_SwapLog_remove_entry ["self", "position"] m15 e15)
    (M16 : MethAt K L "entry_for" "SwapLog.entry_for" s_SwapLog_entry_for ["self", "first", "second"] m16 e16)
    (M17 : MethAt K L "clear_entries" "SwapLog.clear_entries" s_SwapLog_clear_entries ["self"] m17 e17)
    (M18 : MethAt K L "order_after" "SwapLog.order_after" s_SwapLog_order_after ["self", "count"] m18 e18)
    (M19 : MethAt K L "pair_at" "SwapLog.pair_at" s_SwapLog_pair_at ["self", "position"] m19 e19)
    (M20 : MethAt K C "__eq__" "Base.__eq__" s_Base_eq ["self", "other"] m20 e20)
    (M21 : MethAt K L "base" "SwapLog.base" s_SwapLog_base ["self"] m21 e21)
    (M22 : MethAt K L "swap_each" "SwapLog.swap_each" s_SwapLog_swap_each ["self", "indexes", "reason"] m22 e22)
    (M23 : MethKDAt K L "move" "SwapLog.move" "reason" 3 s_SwapLog_move ["self", "item", "index", "reason"] m23 e23)
    (M24 : MethKDAt K L "adopt" "SwapLog.adopt" "reason" 2 s_SwapLog_adopt ["self", "order", "reason"] m24 e24)
    : FnG P w K mg base CX0 13 f35 d35 ["_law_script"] (spLaw K) := by
  have gDraw := ok_draw (P := P) (w := w) (base := base) (k := 0) D14.fn B
  have gRng := ok_rng (P := P) (w := w) (base := base) (k := 0) D13.fn B
  have gIsn := ok_isname (P := P) (w := w) (base := base) (k := 0) D1.fn B c8
  have gNms := ok_getnames (P := P) (w := w) (base := base) (k := 0) M3.fn B TC
  have gLen := ok_lenB (P := P) (w := w) (base := base) (k := 0) M2.fn B TC
  have gInv := ok_linv (P := P) (w := w) (base := base) (k := 0) D17.fn B B2
  have gName := ok_name (k := 1) D15.fn B (D14.cal gDraw (by decide))
  have gNames := ok_names (k := 2) D16.fn B (D15.cal gName (by decide))
  have gNfa := ok_nfault (k := 1) D36.fn B (D1.cal gIsn (by decide))
  have gChk := ok_check (k := 2) D2.fn (D36.cal gNfa (by decide)) c40
  have gInit := ok_init (k := 3) M1.fn B TC (D2.cal gChk (by decide))
  have gHas := ok_has (k := 1) M4.fn B TC (D1.cal gIsn (by decide))
  have gPos := ok_pos (k := 2) M5.fn TC (M4.calM TC.cl gHas (by decide))
  have gPrec := ok_prec (k := 3) M6.fn (M5.calM TC.cl gPos (by decide))
  have gInt := ok_isint (P := P) (w := w) (base := base) (k := 0) D37.fn B BI
  have gIntf := ok_intfrom (k := 1) D4.fn (D37.cal gInt (by decide))
  have gSix := ok_swapix (k := 2) (n := 1) D5.fn B (D4.cal gIntf (by decide))
    M2.spec gLen (by decide)
  have gCix := ok_chkix (k := 3) D6.fn (D5.cal gSix (by decide))
  have gExch := ok_exch (P := P) (w := w) (mg := mg) (base := base) (k := 0) D7.fn
  have gGoes := ok_goes (k := 4) D8.fn (M6.calM TC.cl gPrec (by decide))
  have gPof := ok_pairof (k := 4) D3.fn (M6.calM TC.cl gPrec (by decide))
  have gPrs := ok_prsof (k := 1) D9.fn (M3.calM TC.cl gNms (by decide))
    (D7.cal gExch (by decide))
  have gIsr := ok_isrsn (k := 1) D11.fn B cN (D1.cal gIsn (by decide))
  have gCkr := ok_chkrsn (k := 2) D12.fn (D11.cal gIsr (by decide))
  have gLin := ok_linit (L := L) (k := 1) M7.fn TL (M3.calM TC.cl gNms (by decide))
  have gLle := ok_llen (P := P) (w := w) (base := base) (C := C) (k := 0) M8.fn B TL
  have gLor := ok_lord (P := P) (w := w) (base := base) (C := C) (k := 0) M9.fn B TL
  have gLen' := ok_lent (P := P) (w := w) (base := base) (C := C) (k := 0) M10.fn B TL
  have gLix := ok_lixs (P := P) (w := w) (base := base) (C := C) (k := 0) M11.fn TL
  have gLfo := ok_lfor (k := 5) M16.fn TL (D3.cal gPof (by decide))
    (D9.cal gPrs (by decide)) (M11.calM TL.cl gLix (by decide))
  have gLck := ok_lchk (C := C) (k := 2) M14.fn B TL (D4.cal gIntf (by decide))
  have gLsc := ok_swapc (k := 6) M13.fn TL (D8.cal gGoes (by decide))
    (D7.cal gExch (by decide)) (M16.calM TL.cl gLfo (by decide))
  have gLsw := ok_lswap (k := 7) M12.k.fn TL (D6.cal gCix (by decide))
    (D12.cal gCkr (by decide)) (M13.calM TL.cl gLsc (by decide))
  have mkB : Mk K C m1 := ⟨mkC, M1.me.at_, M1.me.fn, TC.kC⟩
  have mkG : Mk K L m7 := ⟨mkL, M7.me.at_, M7.me.fn, TL.kL⟩
  have clL : ∀ {n : Nat}, 2 ≤ n → CalC P w K mg base L n "SwapLog" ["self", "base"] (spLInit C L) := fun h =>
    ⟨TL.mgL, m7, e7, gLin.mono h, mkG, M7.bd⟩
  have gEqB := ok_eqB (P := P) (w := w) (base := base) (k := 0) M20.fn B TC
  have gShu := ok_shuf (k := 1) D23.fn B (D14.cal gDraw (by decide))
  have gNea := ok_near (k := 1) D24.fn B B2 (D14.cal gDraw (by decide))
  have gFau := ok_fault (k := 2) (n := 1) D19.fn B TC (M4.calM TC.cl gHas (by decide))
    M2.spec gLen (by decide)
  have gCho := ok_checkorder (k := 3) D20.fn (D19.cal gFau (by decide))
  have gCit := ok_chkitem (k := 2) D18.fn (M4.calM TC.cl gHas (by decide))
  have gFop := ok_fopp (P := P) (w := w) (base := base) (k := 0) D21.fn B
  have gBet := ok_betw (k := 4) D22.fn B (D20.cal gCho (by decide))
    (D7.cal gExch (by decide)) (D21.cal gFop (by decide))
  have gLba := ok_lbase (P := P) (w := w) (base := base) (C := C) (k := 0) M21.fn TL
  have gLea := ok_each (k := 7) M22.fn B (M13.calM TL.cl gLsc (by decide))
  have gLad := ok_adopt (k := 8) M24.k.fn TL (D20.cal gCho (by decide))
    (D12.cal gCkr (by decide)) (D22.cal gBet (by decide))
    (M22.calM TL.cl gLea (by decide))
  have gLmo := ok_move (k := 8) (n := 1) M23.k.fn B TL (D18.cal gCit (by decide))
    (D4.cal gIntf (by decide)) M2.spec gLen (by decide)
    (D12.cal gCkr (by decide)) (M22.calM TL.cl gLea (by decide))
  have gLre := ok_remove (k := 7) M15.fn B TL (clL (by decide))
    (M14.calM TL.cl gLck (by decide)) (M9.calM TL.cl gLor (by decide))
    (M10.calM TL.cl gLen' (by decide)) (M13.calM TL.cl gLsc (by decide))
  have gLpa := ok_lpair (k := 3) M19.fn TL (M14.calM TL.cl gLck (by decide))
    (D9.cal gPrs (by decide)) (M11.calM TL.cl gLix (by decide))
  have gOas := ok_oas (k := 1) D10.fn (M3.calM TC.cl gNms (by decide))
    (D7.cal gExch (by decide))
  have gLaf := ok_lafter (k := 2) M18.fn B TL (D4.cal gIntf (by decide))
    (D10.cal gOas (by decide)) (M11.calM TL.cl gLix (by decide))
  have gLcl := ok_clear (k := 1) M17.fn TL (M3.calM TC.cl gNms (by decide))
  have gSwe := ok_swent (P := P) (w := w) (base := base) (k := 0) D25.fn B
  have gSw := ok_lsw (k := 1) D26.fn (D25.cal gSwe (by decide))
  have gSws := ok_lsws (k := 2) D27.fn B (D26.cal gSw (by decide))
  have gPth := ok_path (P := P) (w := w) (base := base) (k := 0) D28.fn B
  have gRem := ok_lrem (k := 2) D29.fn B (D26.cal gSw (by decide))
  have gPaf := ok_paft (P := P) (w := w) (base := base) (k := 0) D32.fn B
  have gSta := ok_stands (k := 2) (n := 1) D31.fn B M8.spec gLle (by decide)
    (M9.calM TL.cl gLor (by decide)) (M10.calM TL.cl gLen' (by decide))
    (D17.cal gInv (by decide))
  have gCal := ok_call (k := 9) D30.fn B (D14.cal gDraw (by decide))
    (D15.cal gName (by decide)) (D26.cal gSw (by decide)) (D27.cal gSws (by decide))
    (D24.cal gNea (by decide)) (D23.cal gShu (by decide))
    (D28.cal gPth (by decide)) (D29.cal gRem (by decide))
    (M12.calMD TL.cl gLsw (by decide)) (M12.k.calMK TL.cl gLsw (by decide))
    (M23.k.calMK TL.cl gLmo (by decide)) (M24.k.calMK TL.cl gLad (by decide))
    (M15.calM TL.cl gLre (by decide)) (M17.calM TL.cl gLcl (by decide))
  have gAsk := ok_asked (k := 6) D33.fn B (D14.cal gDraw (by decide))
    (D32.cal gPaf (by decide)) (M9.calM TL.cl gLor (by decide))
    (M18.calM TL.cl gLaf (by decide)) (M19.calM TL.cl gLpa (by decide))
    (M16.calM TL.cl gLfo (by decide))
  have gRig := ok_right23 (k := 10) (n := 1) D34.fn B M20.spec gEqB (by decide)
    (D14.cal gDraw (by decide)) (D16.cal gNames (by decide))
    ⟨TC.mgC, m1, e1, gInit.mono (by decide), mkB, M1.bd⟩
    (clL (by decide)) (D30.calG gCal (by decide)) (D31.calG gSta (by decide))
    (D33.calG gAsk (by decide)) (M21.calM TL.cl gLba (by decide))
  exact ok_lawAll (k := 12) D35.fn B (D13.cal gRng (by decide))
    (D34.calG gRig (by decide))
end
end OM
namespace OM
open PySem PySem.Spec PyProof.Rows L2
theorem fin23 {l : PySem.W.OpenLaw} {w : World} {K : PySem.W.Frag} {h : Heap}
    {mg : Str → Option Value} {fa C L : Addr} (X : K.In h)
    (G : h.Ns mainGlobals mg) (hfa : mg "law" = some (.ref fa))
    {f1 f2 f3 f4 f5 f6 f7 f8 f9 f10 f11 f12 f13 f14 f15 f16 f17 f18 f19 f20 f21 f22 f23 f24 f25 f26 f27 f28 f29 f30 f31 f32 f33 f34 f35 f36 f37 m1 m2 m3 m4 m5 m6 m7 m8 m9 m10 m11 m12 m13 m14 m15 m16 m17 m18 m19 m20 m21 m22 m23 m24 : Addr}
    {odf1 anf1 odf2 anf2 odf3 anf3 odf4 anf4 odf5 anf5 odf6 anf6 odf7 anf7 odf8 anf8 odf9 anf9 odf10 anf10 odf11 anf11 odf12 anf12 odf13 anf13 odf14 anf14 odf15 anf15 odf16 anf16 odf17 anf17 odf18 anf18 odf19 anf19 odf20 anf20 odf21 anf21 odf22 anf22 odf23 anf23 odf24 anf24 odf25 anf25 odf26 anf26 odf27 anf27 odf28 anf28 odf29 anf29 odf30 anf30 odf31 anf31 odf32 anf32 odf33 anf33 odf34 anf34 odf35 anf35 odf36 anf36 odf37 anf37 odm1 anm1 odm2 anm2 odm3 anm3 odm4 anm4 odm5 anm5 odm6 anm6 odm7 anm7 odm8 anm8 odm9 anm9 odm10 anm10 odm11 anm11 odm12 anm12 odm13 anm13 odm14 anm14 odm15 anm15 odm16 anm16 odm17 anm17 odm18 anm18 odm19 anm19 odm20 anm20 odm21 anm21 odm22 anm22 odm23 anm23 odm24 anm24 : Option Addr}
    {slf1 slf2 slf3 slf4 slf5 slf6 slf7 slf8 slf9 slf10 slf11 slf12 slf13 slf14 slf15 slf16 slf17 slf18 slf19 slf20 slf21 slf22 slf23 slf24 slf25 slf26 slf27 slf28 slf29 slf30 slf31 slf32 slf33 slf34 slf35 slf36 slf37 slm1 slm2 slm3 slm4 slm5 slm6 slm7 slm8 slm9 slm10 slm11 slm12 slm13 slm14 slm15 slm16 slm17 slm18 slm19 slm20 slm21 slm22 slm23 slm24 : Array (Option Value)}
    {ocf1 kVf1 dcf1 pmf1 cdf1 ctf1 : Value}
    {ocf2 kVf2 dcf2 pmf2 cdf2 ctf2 : Value}
    {ocf3 kVf3 dcf3 pmf3 cdf3 ctf3 : Value}
    {ocf4 kVf4 dcf4 pmf4 cdf4 ctf4 : Value}
    {ocf5 kVf5 dcf5 pmf5 cdf5 ctf5 : Value}
    {ocf6 kVf6 dcf6 pmf6 cdf6 ctf6 : Value}
    {ocf7 kVf7 dcf7 pmf7 cdf7 ctf7 : Value}
    {ocf8 kVf8 dcf8 pmf8 cdf8 ctf8 : Value}
    {ocf9 kVf9 dcf9 pmf9 cdf9 ctf9 : Value}
    {ocf10 kVf10 dcf10 pmf10 cdf10 ctf10 : Value}
    {ocf11 kVf11 dcf11 pmf11 cdf11 ctf11 : Value}
    {ocf12 kVf12 dcf12 pmf12 cdf12 ctf12 : Value}
    {ocf13 kVf13 dcf13 pmf13 cdf13 ctf13 : Value}
    {ocf14 kVf14 dcf14 pmf14 cdf14 ctf14 : Value}
    {ocf15 kVf15 dcf15 pmf15 cdf15 ctf15 : Value}
    {ocf16 kVf16 dcf16 pmf16 cdf16 ctf16 : Value}
    {ocf17 kVf17 dcf17 pmf17 cdf17 ctf17 : Value}
    {ocf18 kVf18 dcf18 pmf18 cdf18 ctf18 : Value}
    {ocf19 kVf19 dcf19 pmf19 cdf19 ctf19 : Value}
    {ocf20 kVf20 dcf20 pmf20 cdf20 ctf20 : Value}
    {ocf21 kVf21 dcf21 pmf21 cdf21 ctf21 : Value}
    {ocf22 kVf22 dcf22 pmf22 cdf22 ctf22 : Value}
    {ocf23 kVf23 dcf23 pmf23 cdf23 ctf23 : Value}
    {ocf24 kVf24 dcf24 pmf24 cdf24 ctf24 : Value}
    {ocf25 kVf25 dcf25 pmf25 cdf25 ctf25 : Value}
    {ocf26 kVf26 dcf26 pmf26 cdf26 ctf26 : Value}
    {ocf27 kVf27 dcf27 pmf27 cdf27 ctf27 : Value}
    {ocf28 kVf28 dcf28 pmf28 cdf28 ctf28 : Value}
    {ocf29 kVf29 dcf29 pmf29 cdf29 ctf29 : Value}
    {ocf30 kVf30 dcf30 pmf30 cdf30 ctf30 : Value}
    {ocf31 kVf31 dcf31 pmf31 cdf31 ctf31 : Value}
    {ocf32 kVf32 dcf32 pmf32 cdf32 ctf32 : Value}
    {ocf33 kVf33 dcf33 pmf33 cdf33 ctf33 : Value}
    {ocf34 kVf34 dcf34 pmf34 cdf34 ctf34 : Value}
    {ocf35 kVf35 dcf35 pmf35 cdf35 ctf35 : Value}
    {ocf36 kVf36 dcf36 pmf36 cdf36 ctf36 : Value}
    {ocf37 kVf37 dcf37 pmf37 cdf37 ctf37 : Value}
    {ocm1 kVm1 dcm1 pmm1 cdm1 ctm1 : Value}
    {ocm2 kVm2 dcm2 pmm2 cdm2 ctm2 : Value}
    {ocm3 kVm3 dcm3 pmm3 cdm3 ctm3 : Value}
    {ocm4 kVm4 dcm4 pmm4 cdm4 ctm4 : Value}
    {ocm5 kVm5 dcm5 pmm5 cdm5 ctm5 : Value}
    {ocm6 kVm6 dcm6 pmm6 cdm6 ctm6 : Value}
    {ocm7 kVm7 dcm7 pmm7 cdm7 ctm7 : Value}
    {ocm8 kVm8 dcm8 pmm8 cdm8 ctm8 : Value}
    {ocm9 kVm9 dcm9 pmm9 cdm9 ctm9 : Value}
    {ocm10 kVm10 dcm10 pmm10 cdm10 ctm10 : Value}
    {ocm11 kVm11 dcm11 pmm11 cdm11 ctm11 : Value}
    {ocm12 dcm12 pmm12 cdm12 ctm12 : Value}
    {ocm13 kVm13 dcm13 pmm13 cdm13 ctm13 : Value}
    {ocm14 kVm14 dcm14 pmm14 cdm14 ctm14 : Value}
    {ocm15 kVm15 dcm15 pmm15 cdm15 ctm15 : Value}
    {ocm16 kVm16 dcm16 pmm16 cdm16 ctm16 : Value}
    {ocm17 kVm17 dcm17 pmm17 cdm17 ctm17 : Value}
    {ocm18 kVm18 dcm18 pmm18 cdm18 ctm18 : Value}
    {ocm19 kVm19 dcm19 pmm19 cdm19 ctm19 : Value}
    {ocm20 kVm20 dcm20 pmm20 cdm20 ctm20 : Value}
    {ocm21 kVm21 dcm21 pmm21 cdm21 ctm21 : Value}
    {ocm22 kVm22 dcm22 pmm22 cdm22 ctm22 : Value}
    {ocm23 dcm23 pmm23 cdm23 ctm23 : Value}
    {ocm24 dcm24 pmm24 cdm24 ctm24 : Value}
    {t40 t8 tN : Tok}
    {Dm12 Dm23 Dm24 : Addr} {tDm12 tDm23 tDm24 : Tok}
    (af1 : PySem.W.nsIn K mainGlobals "is_name" = some (some (.ref f1)))
    (lf1 : K.lookup f1 = some ⟨ocf1, odf1, .func (PySem.W.fnOf "is_name" "is_name"
      (defArgs s_is_name) (defBody s_is_name) (defScope s_is_name) .none kVf1 dcf1 pmf1 anf1 cdf1
      ctf1), slf1⟩)
    (cf1 : PySem.W.codeIn K cdf1 "is_name" = true)
    (kf1 : PySem.W.keepIn K (.ref f1) = true)
    (af2 : PySem.W.nsIn K mainGlobals "check_items" = some (some (.ref f2)))
    (lf2 : K.lookup f2 = some ⟨ocf2, odf2, .func (PySem.W.fnOf "check_items" "check_items"
      (defArgs s_check_items) (defBody s_check_items) (defScope s_check_items) .none kVf2 dcf2 pmf2 anf2 cdf2
      ctf2), slf2⟩)
    (cf2 : PySem.W.codeIn K cdf2 "check_items" = true)
    (kf2 : PySem.W.keepIn K (.ref f2) = true)
    (af3 : PySem.W.nsIn K mainGlobals "pair_of" = some (some (.ref f3)))
    (lf3 : K.lookup f3 = some ⟨ocf3, odf3, .func (PySem.W.fnOf "pair_of" "pair_of"
      (defArgs s_pair_of) (defBody s_pair_of) (defScope s_pair_of) .none kVf3 dcf3 pmf3 anf3 cdf3
      ctf3), slf3⟩)
    (cf3 : PySem.W.codeIn K cdf3 "pair_of" = true)
    (kf3 : PySem.W.keepIn K (.ref f3) = true)
    (af4 : PySem.W.nsIn K mainGlobals "is_integer_from" = some (some (.ref f4)))
    (lf4 : K.lookup f4 = some ⟨ocf4, odf4, .func (PySem.W.fnOf "is_integer_from" "is_integer_from"
      (defArgs s_is_integer_from) (defBody s_is_integer_from) (defScope s_is_integer_from) .none kVf4 dcf4 pmf4 anf4 cdf4
      ctf4), slf4⟩)
    (cf4 : PySem.W.codeIn K cdf4 "is_integer_from" = true)
    (kf4 : PySem.W.keepIn K (.ref f4) = true)
    (af5 : PySem.W.nsIn K mainGlobals "is_swap_index" = some (some (.ref f5)))
    (lf5 : K.lookup f5 = some ⟨ocf5, odf5, .func (PySem.W.fnOf "is_swap_index" "is_swap_index"
      (defArgs s_is_swap_index) (defBody s_is_swap_index) (defScope s_is_swap_index) .none kVf5 dcf5 pmf5 anf5 cdf5
      ctf5), slf5⟩)
    (cf5 : PySem.W.codeIn K cdf5 "is_swap_index" = true)
    (kf5 : PySem.W.keepIn K (.ref f5) = true)
    (af6 : PySem.W.nsIn K mainGlobals "check_swap_index" = some (some (.ref f6)))
    (lf6 : K.lookup f6 = some ⟨ocf6, odf6, .func (PySem.W.fnOf "check_swap_index" "check_swap_index"
      (defArgs s_check_swap_index) (defBody s_check_swap_index) (defScope s_check_swap_index) .none kVf6 dcf6 pmf6 anf6 cdf6
      ctf6), slf6⟩)
    (cf6 : PySem.W.codeIn K cdf6 "check_swap_index" = true)
    (kf6 : PySem.W.keepIn K (.ref f6) = true)
    (af7 : PySem.W.nsIn K mainGlobals "exchanged" = some (some (.ref f7)))
    (lf7 : K.lookup f7 = some ⟨ocf7, odf7, .func (PySem.W.fnOf "exchanged" "exchanged"
      (defArgs s_exchanged) (defBody s_exchanged) (defScope s_exchanged) .none kVf7 dcf7 pmf7 anf7 cdf7
      ctf7), slf7⟩)
    (cf7 : PySem.W.codeIn K cdf7 "exchanged" = true)
    (kf7 : PySem.W.keepIn K (.ref f7) = true)
    (af8 : PySem.W.nsIn K mainGlobals "goes_outward" = some (some (.ref f8)))
    (lf8 : K.lookup f8 = some ⟨ocf8, odf8, .func (PySem.W.fnOf "goes_outward" "goes_outward"
      (defArgs s_goes_outward) (defBody s_goes_outward) (defScope s_goes_outward) .none kVf8 dcf8 pmf8 anf8 cdf8
      ctf8), slf8⟩)
    (cf8 : PySem.W.codeIn K cdf8 "goes_outward" = true)
    (kf8 : PySem.W.keepIn K (.ref f8) = true)
    (af9 : PySem.W.nsIn K mainGlobals "pairs_of_swaps" = some (some (.ref f9)))
    (lf9 : K.lookup f9 = some ⟨ocf9, odf9, .func (PySem.W.fnOf "pairs_of_swaps" "pairs_of_swaps"
      (defArgs s_pairs_of_swaps) (defBody s_pairs_of_swaps) (defScope s_pairs_of_swaps) .none kVf9 dcf9 pmf9 anf9 cdf9
      ctf9), slf9⟩)
    (cf9 : PySem.W.codeIn K cdf9 "pairs_of_swaps" = true)
    (kf9 : PySem.W.keepIn K (.ref f9) = true)
    (af10 : PySem.W.nsIn K mainGlobals "order_after_swaps" = some (some (.ref f10)))
    (lf10 : K.lookup f10 = some ⟨ocf10, odf10, .func (PySem.W.fnOf "order_after_swaps" "order_after_swaps"
      (defArgs s_order_after_swaps) (defBody s_order_after_swaps) (defScope s_order_after_swaps) .none kVf10 dcf10 pmf10 anf10 cdf10
      ctf10), slf10⟩)
    (cf10 : PySem.W.codeIn K cdf10 "order_after_swaps" = true)
    (kf10 : PySem.W.keepIn K (.ref f10) = true)
    (af11 : PySem.W.nsIn K mainGlobals "is_reason" = some (some (.ref f11)))
    (lf11 : K.lookup f11 = some ⟨ocf11, odf11, .func (PySem.W.fnOf "is_reason" "is_reason"
      (defArgs s_is_reason) (defBody s_is_reason) (defScope s_is_reason) .none kVf11 dcf11 pmf11 anf11 cdf11
      ctf11), slf11⟩)
    (cf11 : PySem.W.codeIn K cdf11 "is_reason" = true)
    (kf11 : PySem.W.keepIn K (.ref f11) = true)
    (af12 : PySem.W.nsIn K mainGlobals "check_reason" = some (some (.ref f12)))
    (lf12 : K.lookup f12 = some ⟨ocf12, odf12, .func (PySem.W.fnOf "check_reason" "check_reason"
      (defArgs s_check_reason) (defBody s_check_reason) (defScope s_check_reason) .none kVf12 dcf12 pmf12 anf12 cdf12
      ctf12), slf12⟩)
    (cf12 : PySem.W.codeIn K cdf12 "check_reason" = true)
    (kf12 : PySem.W.keepIn K (.ref f12) = true)
    (af13 : PySem.W.nsIn K mainGlobals "_law_rng" = some (some (.ref f13)))
    (lf13 : K.lookup f13 = some ⟨ocf13, odf13, .func (PySem.W.fnOf "_law_rng" "_law_rng"
      (defArgs s_Lrng) (defBody s_Lrng) (defScope s_Lrng) .none kVf13 dcf13 pmf13 anf13 cdf13
      ctf13), slf13⟩)
    (cf13 : PySem.W.codeIn K cdf13 "_law_rng" = true)
    (kf13 : PySem.W.keepIn K (.ref f13) = true)
    (af14 : PySem.W.nsIn K mainGlobals "_law_draw" = some (some (.ref f14)))
    (lf14 : K.lookup f14 = some ⟨ocf14, odf14, .func (PySem.W.fnOf "_law_draw" "_law_draw"
      (defArgs s_Ldraw) (defBody s_Ldraw) (defScope s_Ldraw) .none kVf14 dcf14 pmf14 anf14 cdf14
      ctf14), slf14⟩)
    (cf14 : PySem.W.codeIn K cdf14 "_law_draw" = true)
    (kf14 : PySem.W.keepIn K (.ref f14) = true)
    (af15 : PySem.W.nsIn K mainGlobals "_law_name" = some (some (.ref f15)))
    (lf15 : K.lookup f15 = some ⟨ocf15, odf15, .func (PySem.W.fnOf "_law_name" "_law_name"
      (defArgs s_Lname) (defBody s_Lname) (defScope s_Lname) .none kVf15 dcf15 pmf15 anf15 cdf15
      ctf15), slf15⟩)
    (cf15 : PySem.W.codeIn K cdf15 "_law_name" = true)
    (kf15 : PySem.W.keepIn K (.ref f15) = true)
    (af16 : PySem.W.nsIn K mainGlobals "_law_names" = some (some (.ref f16)))
    (lf16 : K.lookup f16 = some ⟨ocf16, odf16, .func (PySem.W.fnOf "_law_names" "_law_names"
      (defArgs s_Lnames) (defBody s_Lnames) (defScope s_Lnames) .none kVf16 dcf16 pmf16 anf16 cdf16
      ctf16), slf16⟩)
    (cf16 : PySem.W.codeIn K cdf16 "_law_names" = true)
    (kf16 : PySem.W.keepIn K (.ref f16) = true)
    (af17 : PySem.W.nsIn K mainGlobals "_law_inverted" = some (some (.ref f17)))
    (lf17 : K.lookup f17 = some ⟨ocf17, odf17, .func (PySem.W.fnOf "_law_inverted" "_law_inverted"
      (defArgs s_Linverted) (defBody s_Linverted) (defScope s_Linverted) .none kVf17 dcf17 pmf17 anf17 cdf17
      ctf17), slf17⟩)
    (cf17 : PySem.W.codeIn K cdf17 "_law_inverted" = true)
    (kf17 : PySem.W.keepIn K (.ref f17) = true)
    (af18 : PySem.W.nsIn K mainGlobals "check_item" = some (some (.ref f18)))
    (lf18 : K.lookup f18 = some ⟨ocf18, odf18, .func (PySem.W.fnOf "check_item" "check_item"
      (defArgs s_check_item) (defBody s_check_item) (defScope s_check_item) .none kVf18 dcf18 pmf18 anf18 cdf18
      ctf18), slf18⟩)
    (cf18 : PySem.W.codeIn K cdf18 "check_item" = true)
    (kf18 : PySem.W.keepIn K (.ref f18) = true)
    (af19 : PySem.W.nsIn K mainGlobals "order_fault" = some (some (.ref f19)))
    (lf19 : K.lookup f19 = some ⟨ocf19, odf19, .func (PySem.W.fnOf "order_fault" "order_fault"
      (defArgs s_order_fault) (defBody s_order_fault) (defScope s_order_fault) .none kVf19 dcf19 pmf19 anf19 cdf19
      ctf19), slf19⟩)
    (cf19 : PySem.W.codeIn K cdf19 "order_fault" = true)
    (kf19 : PySem.W.keepIn K (.ref f19) = true)
    (af20 : PySem.W.nsIn K mainGlobals "check_order" = some (some (.ref f20)))
    (lf20 : K.lookup f20 = some ⟨ocf20, odf20, .func (PySem.W.fnOf "check_order" "check_order"
      (defArgs s_check_order) (defBody s_check_order) (defScope s_check_order) .none kVf20 dcf20 pmf20 anf20 cdf20
      ctf20), slf20⟩)
    (cf20 : PySem.W.codeIn K cdf20 "check_order" = true)
    (kf20 : PySem.W.keepIn K (.ref f20) = true)
    (af21 : PySem.W.nsIn K mainGlobals "first_opposite" = some (some (.ref f21)))
    (lf21 : K.lookup f21 = some ⟨ocf21, odf21, .func (PySem.W.fnOf "first_opposite" "first_opposite"
      (defArgs s_first_opposite) (defBody s_first_opposite) (defScope s_first_opposite) .none kVf21 dcf21 pmf21 anf21 cdf21
      ctf21), slf21⟩)
    (cf21 : PySem.W.codeIn K cdf21 "first_opposite" = true)
    (kf21 : PySem.W.keepIn K (.ref f21) = true)
    (af22 : PySem.W.nsIn K mainGlobals "swaps_between" = some (some (.ref f22)))
    (lf22 : K.lookup f22 = some ⟨ocf22, odf22, .func (PySem.W.fnOf "swaps_between" "swaps_between"
      (defArgs s_swaps_between) (defBody s_swaps_between) (defScope s_swaps_between) .none kVf22 dcf22 pmf22 anf22 cdf22
      ctf22), slf22⟩)
    (cf22 : PySem.W.codeIn K cdf22 "swaps_between" = true)
    (kf22 : PySem.W.keepIn K (.ref f22) = true)
    (af23 : PySem.W.nsIn K mainGlobals "_law_shuffled" = some (some (.ref f23)))
    (lf23 : K.lookup f23 = some ⟨ocf23, odf23, .func (PySem.W.fnOf "_law_shuffled" "_law_shuffled"
      (defArgs s_Lshuffled) (defBody s_Lshuffled) (defScope s_Lshuffled) .none kVf23 dcf23 pmf23 anf23 cdf23
      ctf23), slf23⟩)
    (cf23 : PySem.W.codeIn K cdf23 "_law_shuffled" = true)
    (kf23 : PySem.W.keepIn K (.ref f23) = true)
    (af24 : PySem.W.nsIn K mainGlobals "_law_near_order" = some (some (.ref f24)))
    (lf24 : K.lookup f24 = some ⟨ocf24, odf24, .func (PySem.W.fnOf "_law_near_order" "_law_near_order"
      (defArgs s_Lnear_order) (defBody s_Lnear_order) (defScope s_Lnear_order) .none kVf24 dcf24 pmf24 anf24 cdf24
      ctf24), slf24⟩)
    (cf24 : PySem.W.codeIn K cdf24 "_law_near_order" = true)
    (kf24 : PySem.W.keepIn K (.ref f24) = true)
    (af25 : PySem.W.nsIn K mainGlobals "_law_swapped_entries" = some (some (.ref f25)))
    (lf25 : K.lookup f25 = some ⟨ocf25, odf25, .func (PySem.W.fnOf "_law_swapped_entries" "_law_swapped_entries"
      (defArgs s_Lswapped_entries) (defBody s_Lswapped_entries) (defScope s_Lswapped_entries) .none kVf25 dcf25 pmf25 anf25 cdf25
      ctf25), slf25⟩)
    (cf25 : PySem.W.codeIn K cdf25 "_law_swapped_entries" = true)
    (kf25 : PySem.W.keepIn K (.ref f25) = true)
    (af26 : PySem.W.nsIn K mainGlobals "_law_swap" = some (some (.ref f26)))
    (lf26 : K.lookup f26 = some ⟨ocf26, odf26, .func (PySem.W.fnOf "_law_swap" "_law_swap"
      (defArgs s_Lswap) (defBody s_Lswap) (defScope s_Lswap) .none kVf26 dcf26 pmf26 anf26 cdf26
      ctf26), slf26⟩)
    (cf26 : PySem.W.codeIn K cdf26 "_law_swap" = true)
    (kf26 : PySem.W.keepIn K (.ref f26) = true)
    (af27 : PySem.W.nsIn K mainGlobals "_law_swaps" = some (some (.ref f27)))
    (lf27 : K.lookup f27 = some ⟨ocf27, odf27, .func (PySem.W.fnOf "_law_swaps" "_law_swaps"
      (defArgs s_Lswaps) (defBody s_Lswaps) (defScope s_Lswaps) .none kVf27 dcf27 pmf27 anf27 cdf27
      ctf27), slf27⟩)
    (cf27 : PySem.W.codeIn K cdf27 "_law_swaps" = true)
    (kf27 : PySem.W.keepIn K (.ref f27) = true)
    (af28 : PySem.W.nsIn K mainGlobals "_law_path_to" = some (some (.ref f28)))
    (lf28 : K.lookup f28 = some ⟨ocf28, odf28, .func (PySem.W.fnOf "_law_path_to" "_law_path_to"
      (defArgs s_Lpath_to) (defBody s_Lpath_to) (defScope s_Lpath_to) .none kVf28 dcf28 pmf28 anf28 cdf28
      ctf28), slf28⟩)
    (cf28 : PySem.W.codeIn K cdf28 "_law_path_to" = true)
    (kf28 : PySem.W.keepIn K (.ref f28) = true)
    (af29 : PySem.W.nsIn K mainGlobals "_law_removed" = some (some (.ref f29)))
    (lf29 : K.lookup f29 = some ⟨ocf29, odf29, .func (PySem.W.fnOf "_law_removed" "_law_removed"
      (defArgs s_Lremoved) (defBody s_Lremoved) (defScope s_Lremoved) .none kVf29 dcf29 pmf29 anf29 cdf29
      ctf29), slf29⟩)
    (cf29 : PySem.W.codeIn K cdf29 "_law_removed" = true)
    (kf29 : PySem.W.keepIn K (.ref f29) = true)
    (af30 : PySem.W.nsIn K mainGlobals "_law_call" = some (some (.ref f30)))
    (lf30 : K.lookup f30 = some ⟨ocf30, odf30, .func (PySem.W.fnOf "_law_call" "_law_call"
      (defArgs s_Lcall) (defBody s_Lcall) (defScope s_Lcall) .none kVf30 dcf30 pmf30 anf30 cdf30
      ctf30), slf30⟩)
    (cf30 : PySem.W.codeIn K cdf30 "_law_call" = true)
    (kf30 : PySem.W.keepIn K (.ref f30) = true)
    (af31 : PySem.W.nsIn K mainGlobals "_law_stands" = some (some (.ref f31)))
    (lf31 : K.lookup f31 = some ⟨ocf31, odf31, .func (PySem.W.fnOf "_law_stands" "_law_stands"
      (defArgs s_Lstands) (defBody s_Lstands) (defScope s_Lstands) .none kVf31 dcf31 pmf31 anf31 cdf31
      ctf31), slf31⟩)
    (cf31 : PySem.W.codeIn K cdf31 "_law_stands" = true)
    (kf31 : PySem.W.keepIn K (.ref f31) = true)
    (af32 : PySem.W.nsIn K mainGlobals "_law_pairs_after" = some (some (.ref f32)))
    (lf32 : K.lookup f32 = some ⟨ocf32, odf32, .func (PySem.W.fnOf "_law_pairs_after" "_law_pairs_after"
      (defArgs s_Lpairs_after) (defBody s_Lpairs_after) (defScope s_Lpairs_after) .none kVf32 dcf32 pmf32 anf32 cdf32
      ctf32), slf32⟩)
    (cf32 : PySem.W.codeIn K cdf32 "_law_pairs_after" = true)
    (kf32 : PySem.W.keepIn K (.ref f32) = true)
    (af33 : PySem.W.nsIn K mainGlobals "_law_asked_right" = some (some (.ref f33)))
    (lf33 : K.lookup f33 = some ⟨ocf33, odf33, .func (PySem.W.fnOf "_law_asked_right" "_law_asked_right"
      (defArgs s_Lasked_right) (defBody s_Lasked_right) (defScope s_Lasked_right) .none kVf33 dcf33 pmf33 anf33 cdf33
      ctf33), slf33⟩)
    (cf33 : PySem.W.codeIn K cdf33 "_law_asked_right" = true)
    (kf33 : PySem.W.keepIn K (.ref f33) = true)
    (af34 : PySem.W.nsIn K mainGlobals "_law_right" = some (some (.ref f34)))
    (lf34 : K.lookup f34 = some ⟨ocf34, odf34, .func (PySem.W.fnOf "_law_right" "_law_right"
      (defArgs s_Lright) (defBody s_Lright) (defScope s_Lright) .none kVf34 dcf34 pmf34 anf34 cdf34
      ctf34), slf34⟩)
    (cf34 : PySem.W.codeIn K cdf34 "_law_right" = true)
    (kf34 : PySem.W.keepIn K (.ref f34) = true)
    (af35 : PySem.W.nsIn K mainGlobals "law" = some (some (.ref f35)))
    (lf35 : K.lookup f35 = some ⟨ocf35, odf35, .func (PySem.W.fnOf "law" "law"
      (defArgs s_law) (defBody s_law) (defScope s_law) .none kVf35 dcf35 pmf35 anf35 cdf35
      ctf35), slf35⟩)
    (cf35 : PySem.W.codeIn K cdf35 "law" = true)
    (kf35 : PySem.W.keepIn K (.ref f35) = true)
    (af36 : PySem.W.nsIn K mainGlobals "names_fault" = some (some (.ref f36)))
    (lf36 : K.lookup f36 = some ⟨ocf36, odf36, .func (PySem.W.fnOf "names_fault" "names_fault"
      (defArgs s_names_fault) (defBody s_names_fault) (defScope s_names_fault) .none kVf36 dcf36 pmf36 anf36 cdf36
      ctf36), slf36⟩)
    (cf36 : PySem.W.codeIn K cdf36 "names_fault" = true)
    (kf36 : PySem.W.keepIn K (.ref f36) = true)
    (af37 : PySem.W.nsIn K mainGlobals "is_integer" = some (some (.ref f37)))
    (lf37 : K.lookup f37 = some ⟨ocf37, odf37, .func (PySem.W.fnOf "is_integer" "is_integer"
      (defArgs s_is_integer) (defBody s_is_integer) (defScope s_is_integer) .none kVf37 dcf37 pmf37 anf37 cdf37
      ctf37), slf37⟩)
    (cf37 : PySem.W.codeIn K cdf37 "is_integer" = true)
    (kf37 : PySem.W.keepIn K (.ref f37) = true)
    (aC : PySem.W.nsIn K mainGlobals "Base" = some (some (.ref C)))
    (aL : PySem.W.nsIn K mainGlobals "SwapLog" = some (some (.ref L)))
    (am1 : PySem.W.findIn K (.ref C) "__init__" = some (some (.ref m1)))
    (im1 : PySem.W.isFn K (.ref m1) = true)
    (lm1 : K.lookup m1 = some ⟨ocm1, odm1, .func (PySem.W.fnOf "__init__" "Base.__init__"
      (defArgs s_Base_init) (defBody s_Base_init) (defScope s_Base_init) .none kVm1 dcm1 pmm1 anm1 cdm1
      ctm1), slm1⟩)
    (cm1 : PySem.W.codeIn K cdm1 "Base.__init__" = true)
    (km1 : PySem.W.keepIn K (.ref m1) = true)
    (am2 : PySem.W.findIn K (.ref C) "__len__" = some (some (.ref m2)))
    (im2 : PySem.W.isFn K (.ref m2) = true)
    (lm2 : K.lookup m2 = some ⟨ocm2, odm2, .func (PySem.W.fnOf "__len__" "Base.__len__"
      (defArgs s_Base_len) (defBody s_Base_len) (defScope s_Base_len) .none kVm2 dcm2 pmm2 anm2 cdm2
      ctm2), slm2⟩)
    (cm2 : PySem.W.codeIn K cdm2 "Base.__len__" = true)
    (km2 : PySem.W.keepIn K (.ref m2) = true)
    (am3 : PySem.W.findIn K (.ref C) "names" = some (some (.ref m3)))
    (im3 : PySem.W.isFn K (.ref m3) = true)
    (lm3 : K.lookup m3 = some ⟨ocm3, odm3, .func (PySem.W.fnOf "names" "Base.names"
      (defArgs s_Base_names) (defBody s_Base_names) (defScope s_Base_names) .none kVm3 dcm3 pmm3 anm3 cdm3
      ctm3), slm3⟩)
    (cm3 : PySem.W.codeIn K cdm3 "Base.names" = true)
    (km3 : PySem.W.keepIn K (.ref m3) = true)
    (am4 : PySem.W.findIn K (.ref C) "has_item" = some (some (.ref m4)))
    (im4 : PySem.W.isFn K (.ref m4) = true)
    (lm4 : K.lookup m4 = some ⟨ocm4, odm4, .func (PySem.W.fnOf "has_item" "Base.has_item"
      (defArgs s_Base_has_item) (defBody s_Base_has_item) (defScope s_Base_has_item) .none kVm4 dcm4 pmm4 anm4 cdm4
      ctm4), slm4⟩)
    (cm4 : PySem.W.codeIn K cdm4 "Base.has_item" = true)
    (km4 : PySem.W.keepIn K (.ref m4) = true)
    (am5 : PySem.W.findIn K (.ref C) "position_of" = some (some (.ref m5)))
    (im5 : PySem.W.isFn K (.ref m5) = true)
    (lm5 : K.lookup m5 = some ⟨ocm5, odm5, .func (PySem.W.fnOf "position_of" "Base.position_of"
      (defArgs s_Base_position_of) (defBody s_Base_position_of) (defScope s_Base_position_of) .none kVm5 dcm5 pmm5 anm5 cdm5
      ctm5), slm5⟩)
    (cm5 : PySem.W.codeIn K cdm5 "Base.position_of" = true)
    (km5 : PySem.W.keepIn K (.ref m5) = true)
    (am6 : PySem.W.findIn K (.ref C) "precedes" = some (some (.ref m6)))
    (im6 : PySem.W.isFn K (.ref m6) = true)
    (lm6 : K.lookup m6 = some ⟨ocm6, odm6, .func (PySem.W.fnOf "precedes" "Base.precedes"
      (defArgs s_Base_precedes) (defBody s_Base_precedes) (defScope s_Base_precedes) .none kVm6 dcm6 pmm6 anm6 cdm6
      ctm6), slm6⟩)
    (cm6 : PySem.W.codeIn K cdm6 "Base.precedes" = true)
    (km6 : PySem.W.keepIn K (.ref m6) = true)
    (am7 : PySem.W.findIn K (.ref L) "__init__" = some (some (.ref m7)))
    (im7 : PySem.W.isFn K (.ref m7) = true)
    (lm7 : K.lookup m7 = some ⟨ocm7, odm7, .func (PySem.W.fnOf "__init__" "SwapLog.__init__"
      (defArgs s_SwapLog_init) (defBody s_SwapLog_init) (defScope s_SwapLog_init) .none kVm7 dcm7 pmm7 anm7 cdm7
      ctm7), slm7⟩)
    (cm7 : PySem.W.codeIn K cdm7 "SwapLog.__init__" = true)
    (km7 : PySem.W.keepIn K (.ref m7) = true)
    (am8 : PySem.W.findIn K (.ref L) "__len__" = some (some (.ref m8)))
    (im8 : PySem.W.isFn K (.ref m8) = true)
    (lm8 : K.lookup m8 = some ⟨ocm8, odm8, .func (PySem.W.fnOf "__len__" "SwapLog.__len__"
      (defArgs s_SwapLog_len) (defBody s_SwapLog_len) (defScope s_SwapLog_len) .none kVm8 dcm8 pmm8 anm8 cdm8
      ctm8), slm8⟩)
    (cm8 : PySem.W.codeIn K cdm8 "SwapLog.__len__" = true)
    (km8 : PySem.W.keepIn K (.ref m8) = true)
    (am9 : PySem.W.findIn K (.ref L) "order" = some (some (.ref m9)))
    (im9 : PySem.W.isFn K (.ref m9) = true)
    (lm9 : K.lookup m9 = some ⟨ocm9, odm9, .func (PySem.W.fnOf "order" "SwapLog.order"
      (defArgs s_SwapLog_order) (defBody s_SwapLog_order) (defScope s_SwapLog_order) .none kVm9 dcm9 pmm9 anm9 cdm9
      ctm9), slm9⟩)
    (cm9 : PySem.W.codeIn K cdm9 "SwapLog.order" = true)
    (km9 : PySem.W.keepIn K (.ref m9) = true)
    (am10 : PySem.W.findIn K (.ref L) "entries" = some (some (.ref m10)))
    (im10 : PySem.W.isFn K (.ref m10) = true)
    (lm10 : K.lookup m10 = some ⟨ocm10, odm10, .func (PySem.W.fnOf "entries" "SwapLog.entries"
      (defArgs s_SwapLog_entries) (defBody s_SwapLog_entries) (defScope s_SwapLog_entries) .none kVm10 dcm10 pmm10 anm10 cdm10
      ctm10), slm10⟩)
    (cm10 : PySem.W.codeIn K cdm10 "SwapLog.entries" = true)
    (km10 : PySem.W.keepIn K (.ref m10) = true)
    (am11 : PySem.W.findIn K (.ref L) "indexes" = some (some (.ref m11)))
    (im11 : PySem.W.isFn K (.ref m11) = true)
    (lm11 : K.lookup m11 = some ⟨ocm11, odm11, .func (PySem.W.fnOf "indexes" "SwapLog.indexes"
      (defArgs s_SwapLog_indexes) (defBody s_SwapLog_indexes) (defScope s_SwapLog_indexes) .none kVm11 dcm11 pmm11 anm11 cdm11
      ctm11), slm11⟩)
    (cm11 : PySem.W.codeIn K cdm11 "SwapLog.indexes" = true)
    (km11 : PySem.W.keepIn K (.ref m11) = true)
    (am12 : PySem.W.findIn K (.ref L) "swap" = some (some (.ref m12)))
    (im12 : PySem.W.isFn K (.ref m12) = true)
    (lm12 : K.lookup m12 = some ⟨ocm12, odm12, .func (PySem.W.fnOf "swap" "SwapLog.swap"
      (defArgs s_SwapLog_swap) (defBody s_SwapLog_swap) (defScope s_SwapLog_swap) .none (.ref Dm12) dcm12 pmm12 anm12 cdm12
      ctm12), slm12⟩)
    (wm12 : PySem.W.nsIn K Dm12 "reason" = some (some (.str (Str.ofString "") tDm12)))
    (cm12 : PySem.W.codeIn K cdm12 "SwapLog.swap" = true)
    (km12 : PySem.W.keepIn K (.ref m12) = true)
    (am13 : PySem.W.findIn K (.ref L) "swap_checked" = some (some (.ref m13)))
    (im13 : PySem.W.isFn K (.ref m13) = true)
    (lm13 : K.lookup m13 = some ⟨ocm13, odm13, .func (PySem.W.fnOf "swap_checked" "SwapLog.swap_checked"
      (defArgs s_SwapLog_swap_checked) (defBody s_SwapLog_swap_checked) (defScope s_SwapLog_swap_checked) .none kVm13 dcm13 pmm13 anm13 cdm13
      ctm13), slm13⟩)
    (cm13 : PySem.W.codeIn K cdm13 "SwapLog.swap_checked" = true)
    (km13 : PySem.W.keepIn K (.ref m13) = true)
    (am14 : PySem.W.findIn K (.ref L) "check_position" = some (some (.ref m14)))
    (im14 : PySem.W.isFn K (.ref m14) = true)
    (lm14 : K.lookup m14 = some ⟨ocm14, odm14, .func (PySem.W.fnOf "check_position" "SwapLog.check_position"
      (defArgs s_SwapLog_check_position) (defBody s_SwapLog_check_position) (defScope s_SwapLog_check_position) .none kVm14 dcm14 pmm14 anm14 cdm14
      ctm14), slm14⟩)
    (cm14 : PySem.W.codeIn K cdm14 "SwapLog.check_position" = true)
    (km14 : PySem.W.keepIn K (.ref m14) = true)
    (am15 : PySem.W.findIn K (.ref L) "remove_entry" = some (some (.ref m15)))
    (im15 : PySem.W.isFn K (.ref m15) = true)
    (lm15 : K.lookup m15 = some ⟨ocm15, odm15, .func (PySem.W.fnOf "remove_entry" "SwapLog.remove_entry"
      (defArgs s_SwapLog_remove_entry) (defBody s_SwapLog_remove_entry) (defScope s_SwapLog_remove_entry) .none kVm15 dcm15 pmm15 anm15 cdm15
      ctm15), slm15⟩)
    (cm15 : PySem.W.codeIn K cdm15 "SwapLog.remove_entry" = true)
    (km15 : PySem.W.keepIn K (.ref m15) = true)
    (am16 : PySem.W.findIn K (.ref L) "entry_for" = some (some (.ref m16)))
    (im16 : PySem.W.isFn K (.ref m16) = true)
    (lm16 : K.lookup m16 = some ⟨ocm16, odm16, .func (PySem.W.fnOf "entry_for" "SwapLog.entry_for"
      (defArgs s_SwapLog_entry_for) (defBody s_SwapLog_entry_for) (defScope s_SwapLog_entry_for) .none kVm16 dcm16 pmm16 anm16 cdm16
      ctm16), slm16⟩)
    (cm16 : PySem.W.codeIn K cdm16 "SwapLog.entry_for" = true)
    (km16 : PySem.W.keepIn K (.ref m16) = true)
    (am17 : PySem.W.findIn K (.ref L) "clear_entries" = some (some (.ref m17)))
    (im17 : PySem.W.isFn K (.ref m17) = true)
    (lm17 : K.lookup m17 = some ⟨ocm17, odm17, .func (PySem.W.fnOf "clear_entries" "SwapLog.clear_entries"
      (defArgs s_SwapLog_clear_entries) (defBody s_SwapLog_clear_entries) (defScope s_SwapLog_clear_entries) .none kVm17 dcm17 pmm17 anm17 cdm17
      ctm17), slm17⟩)
    (cm17 : PySem.W.codeIn K cdm17 "SwapLog.clear_entries" = true)
    (km17 : PySem.W.keepIn K (.ref m17) = true)
    (am18 : PySem.W.findIn K (.ref L) "order_after" = some (some (.ref m18)))
    (im18 : PySem.W.isFn K (.ref m18) = true)
    (lm18 : K.lookup m18 = some ⟨ocm18, odm18, .func (PySem.W.fnOf "order_after" "SwapLog.order_after"
      (defArgs s_SwapLog_order_after) (defBody s_SwapLog_order_after) (defScope s_SwapLog_order_after) .none kVm18 dcm18 pmm18 anm18 cdm18
      ctm18), slm18⟩)
    (cm18 : PySem.W.codeIn K cdm18 "SwapLog.order_after" = true)
    (km18 : PySem.W.keepIn K (.ref m18) = true)
    (am19 : PySem.W.findIn K (.ref L) "pair_at" = some (some (.ref m19)))
    (im19 : PySem.W.isFn K (.ref m19) = true)
    (lm19 : K.lookup m19 = some ⟨ocm19, odm19, .func (PySem.W.fnOf "pair_at" "SwapLog.pair_at"
      (defArgs s_SwapLog_pair_at) (defBody s_SwapLog_pair_at) (defScope s_SwapLog_pair_at) .none kVm19 dcm19 pmm19 anm19 cdm19
      ctm19), slm19⟩)
    (cm19 : PySem.W.codeIn K cdm19 "SwapLog.pair_at" = true)
    (km19 : PySem.W.keepIn K (.ref m19) = true)
    (am20 : PySem.W.findIn K (.ref C) "__eq__" = some (some (.ref m20)))
    (im20 : PySem.W.isFn K (.ref m20) = true)
    (lm20 : K.lookup m20 = some ⟨ocm20, odm20, .func (PySem.W.fnOf "__eq__" "Base.__eq__"
      (defArgs s_Base_eq) (defBody s_Base_eq) (defScope s_Base_eq) .none kVm20 dcm20 pmm20 anm20 cdm20
      ctm20), slm20⟩)
    (cm20 : PySem.W.codeIn K cdm20 "Base.__eq__" = true)
    (km20 : PySem.W.keepIn K (.ref m20) = true)
    (am21 : PySem.W.findIn K (.ref L) "base" = some (some (.ref m21)))
    (im21 : PySem.W.isFn K (.ref m21) = true)
    (lm21 : K.lookup m21 = some ⟨ocm21, odm21, .func (PySem.W.fnOf "base" "SwapLog.base"
      (defArgs s_SwapLog_base) (defBody s_SwapLog_base) (defScope s_SwapLog_base) .none kVm21 dcm21 pmm21 anm21 cdm21
      ctm21), slm21⟩)
    (cm21 : PySem.W.codeIn K cdm21 "SwapLog.base" = true)
    (km21 : PySem.W.keepIn K (.ref m21) = true)
    (am22 : PySem.W.findIn K (.ref L) "swap_each" = some (some (.ref m22)))
    (im22 : PySem.W.isFn K (.ref m22) = true)
    (lm22 : K.lookup m22 = some ⟨ocm22, odm22, .func (PySem.W.fnOf "swap_each" "SwapLog.swap_each"
      (defArgs s_SwapLog_swap_each) (defBody s_SwapLog_swap_each) (defScope s_SwapLog_swap_each) .none kVm22 dcm22 pmm22 anm22 cdm22
      ctm22), slm22⟩)
    (cm22 : PySem.W.codeIn K cdm22 "SwapLog.swap_each" = true)
    (km22 : PySem.W.keepIn K (.ref m22) = true)
    (am23 : PySem.W.findIn K (.ref L) "move" = some (some (.ref m23)))
    (im23 : PySem.W.isFn K (.ref m23) = true)
    (lm23 : K.lookup m23 = some ⟨ocm23, odm23, .func (PySem.W.fnOf "move" "SwapLog.move"
      (defArgs s_SwapLog_move) (defBody s_SwapLog_move) (defScope s_SwapLog_move) .none (.ref Dm23) dcm23 pmm23 anm23 cdm23
      ctm23), slm23⟩)
    (wm23 : PySem.W.nsIn K Dm23 "reason" = some (some (.str (Str.ofString "") tDm23)))
    (cm23 : PySem.W.codeIn K cdm23 "SwapLog.move" = true)
    (km23 : PySem.W.keepIn K (.ref m23) = true)
    (am24 : PySem.W.findIn K (.ref L) "adopt" = some (some (.ref m24)))
    (im24 : PySem.W.isFn K (.ref m24) = true)
    (lm24 : K.lookup m24 = some ⟨ocm24, odm24, .func (PySem.W.fnOf "adopt" "SwapLog.adopt"
      (defArgs s_SwapLog_adopt) (defBody s_SwapLog_adopt) (defScope s_SwapLog_adopt) .none (.ref Dm24) dcm24 pmm24 anm24 cdm24
      ctm24), slm24⟩)
    (wm24 : PySem.W.nsIn K Dm24 "reason" = some (some (.str (Str.ofString "") tDm24)))
    (cm24 : PySem.W.codeIn K cdm24 "SwapLog.adopt" = true)
    (km24 : PySem.W.keepIn K (.ref m24) = true)
    (hn : PySem.W.specialIn K (.builtin "object.__class__") "__get__" =
      some (some (.builtin "getset_descriptor.__get__")))
    (htk : PySem.W.takesIn K (.builtin "object.__class__") = some true)
    (pgC : PySem.W.plainGet K C Str.empty = true)
    (hdC : PySem.W.hasDictIn K C = true)
    (poC : PySem.W.plainOver K C = true)
    (saC : PySem.W.findIn K (.ref C) "__setattr__" =
      some (some (.builtin "object.__setattr__")))
    (haC : PySem.W.findIn K (.ref C) "__class__" =
      some (some (.builtin "object.__class__")))
    (hmC : PySem.W.mroIn K C (.type "object") = some true)
    (mkC : PySem.W.makesIn K C = true)
    (kcC : PySem.W.keepIn K (.ref C) = true)
    (n0C : PySem.W.findIn K (.ref C) "listed" = some none)
    (n1C : PySem.W.findIn K (.ref C) "places" = some none)
    (pgL : PySem.W.plainGet K L Str.empty = true)
    (hdL : PySem.W.hasDictIn K L = true)
    (poL : PySem.W.plainOver K L = true)
    (saL : PySem.W.findIn K (.ref L) "__setattr__" =
      some (some (.builtin "object.__setattr__")))
    (haL : PySem.W.findIn K (.ref L) "__class__" =
      some (some (.builtin "object.__class__")))
    (hmL : PySem.W.mroIn K L (.type "object") = some true)
    (mkL : PySem.W.makesIn K L = true)
    (kcL : PySem.W.keepIn K (.ref L) = true)
    (n0L : PySem.W.findIn K (.ref L) "ground" = some none)
    (n1L : PySem.W.findIn K (.ref L) "current" = some none)
    (n2L : PySem.W.findIn K (.ref L) "rows" = some none)
    (c40 : PySem.W.nsIn K mainGlobals "MAX_ITEMS" = some (some (.int 40 t40)))
    (c8 : PySem.W.nsIn K mainGlobals "MAX_NAME_LENGTH" = some (some (.int 8 t8)))
    (cN : PySem.W.nsIn K mainGlobals "NO_REASON" = some (some (.str (Str.ofString "") tN)))
    (zlen : PySem.W.nsIn K mainGlobals "len" = some none)
    (zdivmod : PySem.W.nsIn K mainGlobals "divmod" = some none)
    (zabs : PySem.W.nsIn K mainGlobals "abs" = some none)
    (zmax : PySem.W.nsIn K mainGlobals "max" = some none)
    (zmin : PySem.W.nsIn K mainGlobals "min" = some none)
    (zrange : PySem.W.nsIn K mainGlobals "range" = some none)
    (zenumerate : PySem.W.nsIn K mainGlobals "enumerate" = some none)
    (zisinstance : PySem.W.nsIn K mainGlobals "isinstance" = some none)
    (zstr : PySem.W.nsIn K mainGlobals "str" = some none)
    (zlist : PySem.W.nsIn K mainGlobals "list" = some none)
    (zset : PySem.W.nsIn K mainGlobals "set" = some none)
    (zall : PySem.W.nsIn K mainGlobals "all" = some none)
    (zrepr : PySem.W.nsIn K mainGlobals "repr" = some none)
    (zint : PySem.W.nsIn K mainGlobals "int" = some none)
    (zbool : PySem.W.nsIn K mainGlobals "bool" = some none)
    (zdict : PySem.W.nsIn K mainGlobals "dict" = some none)
    : ∃ fd : FuncData, (∀ (s : Shared) (v : Value),
        BindsTo s fd ⟨[v], []⟩ [("_law_script", v)]) ∧
      ∀ base : Heap, K.In base → base.Ns mainGlobals mg →
        FnG l.prog w K mg base CX0 13 fa fd ["_law_script"] (spLaw K) := by
  cases hfa.symm.trans (PySem.W.mg_of X G af35)
  have B : Bl mg := ⟨PySem.W.mg_none_of X G zlen, PySem.W.mg_none_of X G zdivmod, PySem.W.mg_none_of X G zabs, PySem.W.mg_none_of X G zmax, PySem.W.mg_none_of X G zmin, PySem.W.mg_none_of X G zrange, PySem.W.mg_none_of X G zenumerate, PySem.W.mg_none_of X G zisinstance, PySem.W.mg_none_of X G zstr, PySem.W.mg_none_of X G zlist, PySem.W.mg_none_of X G zset, PySem.W.mg_none_of X G zall, PySem.W.mg_none_of X G zrepr⟩
  have BI : BlI mg := ⟨PySem.W.mg_none_of X G zint, PySem.W.mg_none_of X G zbool⟩
  have B2 : Bl2 mg := ⟨PySem.W.mg_none_of X G zdict, PySem.W.mg_none_of X G zint⟩
  have TC : BC K mg C := ⟨⟨⟨pgC, hdC, poC, saC⟩, haC, hn, htk, hmC,
    if_pos (beq_self_eq_true _)⟩, n0C, n1C,
    PySem.W.mg_of X G aC, kcC⟩
  have TL : LC K mg L := ⟨⟨⟨pgL, hdL, poL, saL⟩, haL, hn, htk, hmL,
    if_pos (beq_self_eq_true _)⟩, n0L, n1L, n2L,
    PySem.W.mg_of X G aL, kcL⟩
  obtain ⟨d1, D1⟩ := defAt (st := s_is_name) (ps := ["value"]) X G af1 lf1 cf1 kf1
    fun _ _ _ _ _ _ us hl => match us, hl with | [_], _ => rfl
  obtain ⟨d2, D2⟩ := defAt (st := s_check_items) (ps := ["items"]) X G af2 lf2 cf2 kf2
    fun _ _ _ _ _ _ us hl => match us, hl with | [_], _ => rfl
  obtain ⟨d3, D3⟩ := defAt (st := s_pair_of) (ps := ["base", "first", "second"]) X G af3 lf3 cf3 kf3
    fun _ _ _ _ _ _ us hl => match us, hl with | [_, _, _], _ => rfl
  obtain ⟨d4, D4⟩ := defAt (st := s_is_integer_from) (ps := ["value", "low", "high"]) X G af4 lf4 cf4 kf4
    fun _ _ _ _ _ _ us hl => match us, hl with | [_, _, _], _ => rfl
  obtain ⟨d5, D5⟩ := defAt (st := s_is_swap_index) (ps := ["base", "value"]) X G af5 lf5 cf5 kf5
    fun _ _ _ _ _ _ us hl => match us, hl with | [_, _], _ => rfl
  obtain ⟨d6, D6⟩ := defAt (st := s_check_swap_index) (ps := ["base", "index"]) X G af6 lf6 cf6 kf6
    fun _ _ _ _ _ _ us hl => match us, hl with | [_, _], _ => rfl
  obtain ⟨d7, D7⟩ := defAt (st := s_exchanged) (ps := ["order", "index"]) X G af7 lf7 cf7 kf7
    fun _ _ _ _ _ _ us hl => match us, hl with | [_, _], _ => rfl
  obtain ⟨d8, D8⟩ := defAt (st := s_goes_outward) (ps := ["base", "order", "index"]) X G af8 lf8 cf8 kf8
    fun _ _ _ _ _ _ us hl => match us, hl with | [_, _, _], _ => rfl
  obtain ⟨d9, D9⟩ := defAt (st := s_pairs_of_swaps) (ps := ["base", "indexes"]) X G af9 lf9 cf9 kf9
    fun _ _ _ _ _ _ us hl => match us, hl with | [_, _], _ => rfl
  obtain ⟨d10, D10⟩ := defAt (st := s_order_after_swaps) (ps := ["base", "indexes"]) X G af10 lf10 cf10 kf10
    fun _ _ _ _ _ _ us hl => match us, hl with | [_, _], _ => rfl
  obtain ⟨d11, D11⟩ := defAt (st := s_is_reason) (ps := ["value"]) X G af11 lf11 cf11 kf11
    fun _ _ _ _ _ _ us hl => match us, hl with | [_], _ => rfl
  obtain ⟨d12, D12⟩ := defAt (st := s_check_reason) (ps := ["reason"]) X G af12 lf12 cf12 kf12
    fun _ _ _ _ _ _ us hl => match us, hl with | [_], _ => rfl
  obtain ⟨d13, D13⟩ := defAt (st := s_Lrng) (ps := ["_law_script", "_law_k"]) X G af13 lf13 cf13 kf13
    fun _ _ _ _ _ _ us hl => match us, hl with | [_, _], _ => rfl
  obtain ⟨d14, D14⟩ := defAt (st := s_Ldraw) (ps := ["_law_rng_here", "_law_many"]) X G af14 lf14 cf14 kf14
    fun _ _ _ _ _ _ us hl => match us, hl with | [_, _], _ => rfl
  obtain ⟨d15, D15⟩ := defAt (st := s_Lname) (ps := ["_law_rng_here", "_law_used"]) X G af15 lf15 cf15 kf15
    fun _ _ _ _ _ _ us hl => match us, hl with | [_, _], _ => rfl
  obtain ⟨d16, D16⟩ := defAt (st := s_Lnames) (ps := ["_law_rng_here", "_law_many", "_law_used"]) X G af16 lf16 cf16 kf16
    fun _ _ _ _ _ _ us hl => match us, hl with | [_, _, _], _ => rfl
  obtain ⟨d17, D17⟩ := defAt (st := s_Linverted) (ps := ["_law_items", "_law_order"]) X G af17 lf17 cf17 kf17
    fun _ _ _ _ _ _ us hl => match us, hl with | [_, _], _ => rfl
  obtain ⟨d18, D18⟩ := defAt (st := s_check_item) (ps := ["base", "value"]) X G af18 lf18 cf18 kf18
    fun _ _ _ _ _ _ us hl => match us, hl with | [_, _], _ => rfl
  obtain ⟨d19, D19⟩ := defAt (st := s_order_fault) (ps := ["base", "value"]) X G af19 lf19 cf19 kf19
    fun _ _ _ _ _ _ us hl => match us, hl with | [_, _], _ => rfl
  obtain ⟨d20, D20⟩ := defAt (st := s_check_order) (ps := ["base", "order"]) X G af20 lf20 cf20 kf20
    fun _ _ _ _ _ _ us hl => match us, hl with | [_, _], _ => rfl
  obtain ⟨d21, D21⟩ := defAt (st := s_first_opposite) (ps := ["order", "places"]) X G af21 lf21 cf21 kf21
    fun _ _ _ _ _ _ us hl => match us, hl with | [_, _], _ => rfl
  obtain ⟨d22, D22⟩ := defAt (st := s_swaps_between) (ps := ["base", "order", "other"]) X G af22 lf22 cf22 kf22
    fun _ _ _ _ _ _ us hl => match us, hl with | [_, _, _], _ => rfl
  obtain ⟨d23, D23⟩ := defAt (st := s_Lshuffled) (ps := ["_law_rng_here", "_law_values"]) X G af23 lf23 cf23 kf23
    fun _ _ _ _ _ _ us hl => match us, hl with | [_, _], _ => rfl
  obtain ⟨d24, D24⟩ := defAt (st := s_Lnear_order) (ps := ["_law_rng_here", "_law_order", "_law_many"]) X G af24 lf24 cf24 kf24
    fun _ _ _ _ _ _ us hl => match us, hl with | [_, _, _], _ => rfl
  obtain ⟨d25, D25⟩ := defAt (st := s_Lswapped_entries) (ps := ["_law_items", "_law_entries", "_law_order", "_law_index", "_law_label"]) X G af25 lf25 cf25 kf25
    fun _ _ _ _ _ _ us hl => match us, hl with | [_, _, _, _, _], _ => rfl
  obtain ⟨d26, D26⟩ := defAt (st := s_Lswap) (ps := ["_law_model", "_law_index", "_law_label"]) X G af26 lf26 cf26 kf26
    fun _ _ _ _ _ _ us hl => match us, hl with | [_, _, _], _ => rfl
  obtain ⟨d27, D27⟩ := defAt (st := s_Lswaps) (ps := ["_law_model", "_law_path", "_law_label"]) X G af27 lf27 cf27 kf27
    fun _ _ _ _ _ _ us hl => match us, hl with | [_, _, _], _ => rfl
  obtain ⟨d28, D28⟩ := defAt (st := s_Lpath_to) (ps := ["_law_order", "_law_other"]) X G af28 lf28 cf28 kf28
    fun _ _ _ _ _ _ us hl => match us, hl with | [_, _], _ => rfl
  obtain ⟨d29, D29⟩ := defAt (st := s_Lremoved) (ps := ["_law_model", "_law_position"]) X G af29 lf29 cf29 kf29
    fun _ _ _ _ _ _ us hl => match us, hl with | [_, _], _ => rfl
  obtain ⟨d30, D30⟩ := defAt (st := s_Lcall) (ps := ["_law_rng_here", "_law_log", "_law_model"]) X G af30 lf30 cf30 kf30
    fun _ _ _ _ _ _ us hl => match us, hl with | [_, _, _], _ => rfl
  obtain ⟨d31, D31⟩ := defAt (st := s_Lstands) (ps := ["_law_log", "_law_model"]) X G af31 lf31 cf31 kf31
    fun _ _ _ _ _ _ us hl => match us, hl with | [_, _], _ => rfl
  obtain ⟨d32, D32⟩ := defAt (st := s_Lpairs_after) (ps := ["_law_model", "_law_count"]) X G af32 lf32 cf32 kf32
    fun _ _ _ _ _ _ us hl => match us, hl with | [_, _], _ => rfl
  obtain ⟨d33, D33⟩ := defAt (st := s_Lasked_right) (ps := ["_law_rng_here", "_law_log", "_law_model"]) X G af33 lf33 cf33 kf33
    fun _ _ _ _ _ _ us hl => match us, hl with | [_, _, _], _ => rfl
  obtain ⟨d34, D34⟩ := defAt (st := s_Lright) (ps := ["_law_rng_here"]) X G af34 lf34 cf34 kf34
    fun _ _ _ _ _ _ us hl => match us, hl with | [_], _ => rfl
  obtain ⟨d35, D35⟩ := defAt (st := s_law) (ps := ["_law_script"]) X G af35 lf35 cf35 kf35
    fun _ _ _ _ _ _ us hl => match us, hl with | [_], _ => rfl
  obtain ⟨d36, D36⟩ := defAt (st := s_names_fault) (ps := ["value", "most"]) X G af36 lf36 cf36 kf36
    fun _ _ _ _ _ _ us hl => match us, hl with | [_, _], _ => rfl
  obtain ⟨d37, D37⟩ := defAt (st := s_is_integer) (ps := ["value"]) X G af37 lf37 cf37 kf37
    fun _ _ _ _ _ _ us hl => match us, hl with | [_], _ => rfl
  obtain ⟨e1, M1⟩ := methAt (st := s_Base_init) (ps := ["self", "items"]) am1 im1 lm1 cm1 km1
    fun _ _ _ _ _ _ us hl => match us, hl with | [_, _], _ => rfl
  obtain ⟨e2, M2⟩ := methAt (st := s_Base_len) (ps := ["self"]) am2 im2 lm2 cm2 km2
    fun _ _ _ _ _ _ us hl => match us, hl with | [_], _ => rfl
  obtain ⟨e3, M3⟩ := methAt (st := s_Base_names) (ps := ["self"]) am3 im3 lm3 cm3 km3
    fun _ _ _ _ _ _ us hl => match us, hl with | [_], _ => rfl
  obtain ⟨e4, M4⟩ := methAt (st := s_Base_has_item) (ps := ["self", "value"]) am4 im4 lm4 cm4 km4
    fun _ _ _ _ _ _ us hl => match us, hl with | [_, _], _ => rfl
  obtain ⟨e5, M5⟩ := methAt (st := s_Base_position_of) (ps := ["self", "item"]) am5 im5 lm5 cm5 km5
    fun _ _ _ _ _ _ us hl => match us, hl with | [_, _], _ => rfl
  obtain ⟨e6, M6⟩ := methAt (st := s_Base_precedes) (ps := ["self", "first", "second"]) am6 im6 lm6 cm6 km6
    fun _ _ _ _ _ _ us hl => match us, hl with | [_, _, _], _ => rfl
  obtain ⟨e7, M7⟩ := methAt (st := s_SwapLog_init) (ps := ["self", "base"]) am7 im7 lm7 cm7 km7
    fun _ _ _ _ _ _ us hl => match us, hl with | [_, _], _ => rfl
  obtain ⟨e8, M8⟩ := methAt (st := s_SwapLog_len) (ps := ["self"]) am8 im8 lm8 cm8 km8
    fun _ _ _ _ _ _ us hl => match us, hl with | [_], _ => rfl
  obtain ⟨e9, M9⟩ := methAt (st := s_SwapLog_order) (ps := ["self"]) am9 im9 lm9 cm9 km9
    fun _ _ _ _ _ _ us hl => match us, hl with | [_], _ => rfl
  obtain ⟨e10, M10⟩ := methAt (st := s_SwapLog_entries) (ps := ["self"]) am10 im10 lm10 cm10 km10
    fun _ _ _ _ _ _ us hl => match us, hl with | [_], _ => rfl
  obtain ⟨e11, M11⟩ := methAt (st := s_SwapLog_indexes) (ps := ["self"]) am11 im11 lm11 cm11 km11
    fun _ _ _ _ _ _ us hl => match us, hl with | [_], _ => rfl
  obtain ⟨e12, M12⟩ := methKDAt (st := s_SwapLog_swap) (ps := ["self", "index", "reason"]) (kw := "reason") (n := 2) am12 im12 lm12 cm12 km12 rfl wm12
    (fun us _ hl => match us, hl with | [_, _], _ => rfl)
    (fun us _ hl => match us, hl with | [_, _], _ => ⟨_, _, _, _, _, _, rfl, rfl, rfl⟩)
  obtain ⟨e13, M13⟩ := methAt (st := s_SwapLog_swap_checked) (ps := ["self", "index", "reason"]) am13 im13 lm13 cm13 km13
    fun _ _ _ _ _ _ us hl => match us, hl with | [_, _, _], _ => rfl
  obtain ⟨e14, M14⟩ := methAt (st := s_SwapLog_check_position) (ps := ["self", "position"]) am14 im14 lm14 cm14 km14
    fun _ _ _ _ _ _ us hl => match us, hl with | [_, _], _ => rfl
  obtain ⟨e15, M15⟩ := methAt (st := s_SwapLog_remove_entry) (ps := ["self", "position"]) am15 im15 lm15 cm15 km15
    fun _ _ _ _ _ _ us hl => match us, hl with | [_, _], _ => rfl
  obtain ⟨e16, M16⟩ := methAt (st := s_SwapLog_entry_for) (ps := ["self", "first", "second"]) am16 im16 lm16 cm16 km16
    fun _ _ _ _ _ _ us hl => match us, hl with | [_, _, _], _ => rfl
  obtain ⟨e17, M17⟩ := methAt (st := s_SwapLog_clear_entries) (ps := ["self"]) am17 im17 lm17 cm17 km17
    fun _ _ _ _ _ _ us hl => match us, hl with | [_], _ => rfl
  obtain ⟨e18, M18⟩ := methAt (st := s_SwapLog_order_after) (ps := ["self", "count"]) am18 im18 lm18 cm18 km18
    fun _ _ _ _ _ _ us hl => match us, hl with | [_, _], _ => rfl
  obtain ⟨e19, M19⟩ := methAt (st := s_SwapLog_pair_at) (ps := ["self", "position"]) am19 im19 lm19 cm19 km19
    fun _ _ _ _ _ _ us hl => match us, hl with | [_, _], _ => rfl
  obtain ⟨e20, M20⟩ := methAt (st := s_Base_eq) (ps := ["self", "other"]) am20 im20 lm20 cm20 km20
    fun _ _ _ _ _ _ us hl => match us, hl with | [_, _], _ => rfl
  obtain ⟨e21, M21⟩ := methAt (st := s_SwapLog_base) (ps := ["self"]) am21 im21 lm21 cm21 km21
    fun _ _ _ _ _ _ us hl => match us, hl with | [_], _ => rfl
  obtain ⟨e22, M22⟩ := methAt (st := s_SwapLog_swap_each) (ps := ["self", "indexes", "reason"]) am22 im22 lm22 cm22 km22
    fun _ _ _ _ _ _ us hl => match us, hl with | [_, _, _], _ => rfl
  obtain ⟨e23, M23⟩ := methKDAt (st := s_SwapLog_move) (ps := ["self", "item", "index", "reason"]) (kw := "reason") (n := 3) am23 im23 lm23 cm23 km23 rfl wm23
    (fun us _ hl => match us, hl with | [_, _, _], _ => rfl)
    (fun us _ hl => match us, hl with | [_, _, _], _ => ⟨_, _, _, _, _, _, rfl, rfl, rfl⟩)
  obtain ⟨e24, M24⟩ := methKDAt (st := s_SwapLog_adopt) (ps := ["self", "order", "reason"]) (kw := "reason") (n := 2) am24 im24 lm24 cm24 km24 rfl wm24
    (fun us _ hl => match us, hl with | [_, _], _ => rfl)
    (fun us _ hl => match us, hl with | [_, _], _ => ⟨_, _, _, _, _, _, rfl, rfl, rfl⟩)
  refine ⟨d35, fun s v => D35.bt s [v] rfl, fun base _ _ => ?_⟩
  exact all23 B BI B2 TC mkC TL mkL (PySem.W.mg_of X G c40) (PySem.W.mg_of X G c8) (PySem.W.mg_of X G cN)
    D1 D2 D3 D4 D5 D6 D7 D8 D9 D10 D11 D12 D13 D14 D15 D16 D17 D18 D19 D20 D21 D22 D23 D24 D25 D26 D27 D28 D29 D30 D31 D32 D33 D34 D35 D36 D37 M1 M2 M3 M4 M5 M6 M7 M8 M9 M10 M11 M12 M13 M14 M15 M16 M17 M18 M19 M20 M21 M22 M23 M24
end OM
open PySem PySem.W PyProof.Rows
set_option maxRecDepth 100000 in
set_option maxHeartbeats 0 in
theorem PySem.Challenge.cw_ordermerge_k23_whole_logs_by_a_model_holds : PySem.Challenge.rw_ordermerge_k23_whole_logs_by_a_model.Holds := by
  w_on; o_law; k_head; (case hw => w_witness2)
  k_fill
  refine OM.walkG (l := PySem.Challenge.rw_ordermerge_k23_whole_logs_by_a_model) (n := 63) (k := 13)
    (x := "_law_script") (sp := OM.spLaw) rfl (by decide) rfl
    ⟨rfl, by decide, by decide⟩ (fun w h Y => PySem.W.kIn_of Y) ?F
    (fun K H a ns hl _ hS => ⟨a, ns, rfl, hS, hl, fun _ => rfl⟩)
  case F =>
    intro w mg fa h KX G hmg
    refine' OM.fin23 KX G hmg ?af1
      ?lf1
      ?cf1
      ?kf1
      ?af2
      ?lf2
      ?cf2
      ?kf2
      ?af3
      ?lf3
      ?cf3
      ?kf3
      ?af4
      ?lf4
      ?cf4
      ?kf4
      ?af5
      ?lf5
      ?cf5
      ?kf5
      ?af6
      ?lf6
      ?cf6
      ?kf6
      ?af7
      ?lf7
      ?cf7
      ?kf7
      ?af8
      ?lf8
      ?cf8
      ?kf8
      ?af9
      ?lf9
      ?cf9
      ?kf9
      ?af10
      ?lf10
      ?cf10
      ?kf10
      ?af11
      ?lf11
      ?cf11
      ?kf11
      ?af12
      ?lf12
      ?cf12
      ?kf12
      ?af13
      ?lf13
      ?cf13
      ?kf13
      ?af14
      ?lf14
      ?cf14
      ?kf14
      ?af15
      ?lf15
      ?cf15
      ?kf15
      ?af16
      ?lf16
      ?cf16
      ?kf16
      ?af17
      ?lf17
      ?cf17
      ?kf17
      ?af18
      ?lf18
      ?cf18
      ?kf18
      ?af19
      ?lf19
      ?cf19
      ?kf19
      ?af20
      ?lf20
      ?cf20
      ?kf20
      ?af21
      ?lf21
      ?cf21
      ?kf21
      ?af22
      ?lf22
      ?cf22
      ?kf22
      ?af23
      ?lf23
      ?cf23
      ?kf23
      ?af24
      ?lf24
      ?cf24
      ?kf24
      ?af25
      ?lf25
      ?cf25
      ?kf25
      ?af26
      ?lf26
      ?cf26
      ?kf26
      ?af27
      ?lf27
      ?cf27
      ?kf27
      ?af28
      ?lf28
      ?cf28
      ?kf28
      ?af29
      ?lf29
      ?cf29
      ?kf29
      ?af30
      ?lf30
      ?cf30
      ?kf30
      ?af31
      ?lf31
      ?cf31
      ?kf31
      ?af32
      ?lf32
      ?cf32
      ?kf32
      ?af33
      ?lf33
      ?cf33
      ?kf33
      ?af34
      ?lf34
      ?cf34
      ?kf34
      ?af35
      ?lf35
      ?cf35
      ?kf35
      ?af36
      ?lf36
      ?cf36
      ?kf36
      ?af37
      ?lf37
      ?cf37
      ?kf37
      ?aC
      ?aL
      ?am1
      ?im1
      ?lm1
      ?cm1
      ?km1
      ?am2
      ?im2
      ?lm2
      ?cm2
      ?km2
      ?am3
      ?im3
      ?lm3
      ?cm3
      ?km3
      ?am4
      ?im4
      ?lm4
      ?cm4
      ?km4
      ?am5
      ?im5
      ?lm5
      ?cm5
      ?km5
      ?am6
      ?im6
      ?lm6
      ?cm6
      ?km6
      ?am7
      ?im7
      ?lm7
      ?cm7
      ?km7
      ?am8
      ?im8
      ?lm8
      ?cm8
      ?km8
      ?am9
      ?im9
      ?lm9
      ?cm9
      ?km9
      ?am10
      ?im10
      ?lm10
      ?cm10
      ?km10
      ?am11
      ?im11
      ?lm11
      ?cm11
      ?km11
      ?am12
      ?im12
      ?lm12
      ?wm12
      ?cm12
      ?km12
      ?am13
      ?im13
      ?lm13
      ?cm13
      ?km13
      ?am14
      ?im14
      ?lm14
      ?cm14
      ?km14
      ?am15
      ?im15
      ?lm15
      ?cm15
      ?km15
      ?am16
      ?im16
      ?lm16
      ?cm16
      ?km16
      ?am17
      ?im17
      ?lm17
      ?cm17
      ?km17
      ?am18
      ?im18
      ?lm18
      ?cm18
      ?km18
      ?am19
      ?im19
      ?lm19
      ?cm19
      ?km19
      ?am20
      ?im20
      ?lm20
      ?cm20
      ?km20
      ?am21
      ?im21
      ?lm21
      ?cm21
      ?km21
      ?am22
      ?im22
      ?lm22
      ?cm22
      ?km22
      ?am23
      ?im23
      ?lm23
      ?wm23
      ?cm23
      ?km23
      ?am24
      ?im24
      ?lm24
      ?wm24
      ?cm24
      ?km24
      ?hn
      ?htk
      ?pgC
      ?hdC
      ?poC
      ?saC
      ?haC
      ?hmC
      ?mkC
      ?kcC
      ?n0C
      ?n1C
      ?pgL
      ?hdL
      ?poL
      ?saL
      ?haL
      ?hmL
      ?mkL
      ?kcL
      ?n0L
      ?n1L
      ?n2L
      ?c40
      ?c8
      ?cN
      ?zlen
      ?zdivmod
      ?zabs
      ?zmax
      ?zmin
      ?zrange
      ?zenumerate
      ?zisinstance
      ?zstr
      ?zlist
      ?zset
      ?zall
      ?zrepr
      ?zint
      ?zbool
      ?zdict
    (case af1 => k_is)
    (case lf1 => k_is)
    (case cf1 => k_is)
    (case kf1 => k_is)
    (case af2 => k_is)
    (case lf2 => k_is)
    (case cf2 => k_is)
    (case kf2 => k_is)
    (case af3 => k_is)
    (case lf3 => k_is)
    (case cf3 => k_is)
    (case kf3 => k_is)
    (case af4 => k_is)
    (case lf4 => k_is)
    (case cf4 => k_is)
    (case kf4 => k_is)
    (case af5 => k_is)
    (case lf5 => k_is)
    (case cf5 => k_is)
    (case kf5 => k_is)
    (case af6 => k_is)
    (case lf6 => k_is)
    (case cf6 => k_is)
    (case kf6 => k_is)
    (case af7 => k_is)
    (case lf7 => k_is)
    (case cf7 => k_is)
    (case kf7 => k_is)
    (case af8 => k_is)
    (case lf8 => k_is)
    (case cf8 => k_is)
    (case kf8 => k_is)
    (case af9 => k_is)
    (case lf9 => k_is)
    (case cf9 => k_is)
    (case kf9 => k_is)
    (case af10 => k_is)
    (case lf10 => k_is)
    (case cf10 => k_is)
    (case kf10 => k_is)
    (case af11 => k_is)
    (case lf11 => k_is)
    (case cf11 => k_is)
    (case kf11 => k_is)
    (case af12 => k_is)
    (case lf12 => k_is)
    (case cf12 => k_is)
    (case kf12 => k_is)
    (case af13 => k_is)
    (case lf13 => k_is)
    (case cf13 => k_is)
    (case kf13 => k_is)
    (case af14 => k_is)
    (case lf14 => k_is)
    (case cf14 => k_is)
    (case kf14 => k_is)
    (case af15 => k_is)
    (case lf15 => k_is)
    (case cf15 => k_is)
    (case kf15 => k_is)
    (case af16 => k_is)
    (case lf16 => k_is)
    (case cf16 => k_is)
    (case kf16 => k_is)
    (case af17 => k_is)
    (case lf17 => k_is)
    (case cf17 => k_is)
    (case kf17 => k_is)
    (case af18 => k_is)
    (case lf18 => k_is)
    (case cf18 => k_is)
    (case kf18 => k_is)
    (case af19 => k_is)
    (case lf19 => k_is)
    (case cf19 => k_is)
    (case kf19 => k_is)
    (case af20 => k_is)
    (case lf20 => k_is)
    (case cf20 => k_is)
    (case kf20 => k_is)
    (case af21 => k_is)
    (case lf21 => k_is)
    (case cf21 => k_is)
    (case kf21 => k_is)
    (case af22 => k_is)
    (case lf22 => k_is)
    (case cf22 => k_is)
    (case kf22 => k_is)
    (case af23 => k_is)
    (case lf23 => k_is)
    (case cf23 => k_is)
    (case kf23 => k_is)
    (case af24 => k_is)
    (case lf24 => k_is)
    (case cf24 => k_is)
    (case kf24 => k_is)
    (case af25 => k_is)
    (case lf25 => k_is)
    (case cf25 => k_is)
    (case kf25 => k_is)
    (case af26 => k_is)
    (case lf26 => k_is)
    (case cf26 => k_is)
    (case kf26 => k_is)
    (case af27 => k_is)
    (case lf27 => k_is)
    (case cf27 => k_is)
    (case kf27 => k_is)
    (case af28 => k_is)
    (case lf28 => k_is)
    (case cf28 => k_is)
    (case kf28 => k_is)
    (case af29 => k_is)
    (case lf29 => k_is)
    (case cf29 => k_is)
    (case kf29 => k_is)
    (case af30 => k_is)
    (case lf30 => k_is)
    (case cf30 => k_is)
    (case kf30 => k_is)
    (case af31 => k_is)
    (case lf31 => k_is)
    (case cf31 => k_is)
    (case kf31 => k_is)
    (case af32 => k_is)
    (case lf32 => k_is)
    (case cf32 => k_is)
    (case kf32 => k_is)
    (case af33 => k_is)
    (case lf33 => k_is)
    (case cf33 => k_is)
    (case kf33 => k_is)
    (case af34 => k_is)
    (case lf34 => k_is)
    (case cf34 => k_is)
    (case kf34 => k_is)
    (case af35 => k_is)
    (case lf35 => k_is)
    (case cf35 => k_is)
    (case kf35 => k_is)
    (case af36 => k_is)
    (case lf36 => k_is)
    (case cf36 => k_is)
    (case kf36 => k_is)
    (case af37 => k_is)
    (case lf37 => k_is)
    (case cf37 => k_is)
    (case kf37 => k_is)
    (case aC => k_is)
    (case aL => k_is)
    (case am1 => k_is)
    (case im1 => k_is)
    (case lm1 => k_is)
    (case cm1 => k_is)
    (case km1 => k_is)
    (case am2 => k_is)
    (case im2 => k_is)
    (case lm2 => k_is)
    (case cm2 => k_is)
    (case km2 => k_is)
    (case am3 => k_is)
    (case im3 => k_is)
    (case lm3 => k_is)
    (case cm3 => k_is)
    (case km3 => k_is)
    (case am4 => k_is)
    (case im4 => k_is)
    (case lm4 => k_is)
    (case cm4 => k_is)
    (case km4 => k_is)
    (case am5 => k_is)
    (case im5 => k_is)
    (case lm5 => k_is)
    (case cm5 => k_is)
    (case km5 => k_is)
    (case am6 => k_is)
    (case im6 => k_is)
    (case lm6 => k_is)
    (case cm6 => k_is)
    (case km6 => k_is)
    (case am7 => k_is)
    (case im7 => k_is)
    (case lm7 => k_is)
    (case cm7 => k_is)
    (case km7 => k_is)
    (case am8 => k_is)
    (case im8 => k_is)
    (case lm8 => k_is)
    (case cm8 => k_is)
    (case km8 => k_is)
    (case am9 => k_is)
    (case im9 => k_is)
    (case lm9 => k_is)
    (case cm9 => k_is)
    (case km9 => k_is)
    (case am10 => k_is)
    (case im10 => k_is)
    (case lm10 => k_is)
    (case cm10 => k_is)
    (case km10 => k_is)
    (case am11 => k_is)
    (case im11 => k_is)
    (case lm11 => k_is)
    (case cm11 => k_is)
    (case km11 => k_is)
    (case am12 => k_is)
    (case im12 => k_is)
    (case lm12 => k_is)
    (case wm12 => k_is)
    (case cm12 => k_is)
    (case km12 => k_is)
    (case am13 => k_is)
    (case im13 => k_is)
    (case lm13 => k_is)
    (case cm13 => k_is)
    (case km13 => k_is)
    (case am14 => k_is)
    (case im14 => k_is)
    (case lm14 => k_is)
    (case cm14 => k_is)
    (case km14 => k_is)
    (case am15 => k_is)
    (case im15 => k_is)
    (case lm15 => k_is)
    (case cm15 => k_is)
    (case km15 => k_is)
    (case am16 => k_is)
    (case im16 => k_is)
    (case lm16 => k_is)
    (case cm16 => k_is)
    (case km16 => k_is)
    (case am17 => k_is)
    (case im17 => k_is)
    (case lm17 => k_is)
    (case cm17 => k_is)
    (case km17 => k_is)
    (case am18 => k_is)
    (case im18 => k_is)
    (case lm18 => k_is)
    (case cm18 => k_is)
    (case km18 => k_is)
    (case am19 => k_is)
    (case im19 => k_is)
    (case lm19 => k_is)
    (case cm19 => k_is)
    (case km19 => k_is)
    (case am20 => k_is)
    (case im20 => k_is)
    (case lm20 => k_is)
    (case cm20 => k_is)
    (case km20 => k_is)
    (case am21 => k_is)
    (case im21 => k_is)
    (case lm21 => k_is)
    (case cm21 => k_is)
    (case km21 => k_is)
    (case am22 => k_is)
    (case im22 => k_is)
    (case lm22 => k_is)
    (case cm22 => k_is)
    (case km22 => k_is)
    (case am23 => k_is)
    (case im23 => k_is)
    (case lm23 => k_is)
    (case wm23 => k_is)
    (case cm23 => k_is)
    (case km23 => k_is)
    (case am24 => k_is)
    (case im24 => k_is)
    (case lm24 => k_is)
    (case wm24 => k_is)
    (case cm24 => k_is)
    (case km24 => k_is)
    (case hn => k_is)
    (case htk => k_is)
    (case pgC => k_is)
    (case hdC => k_is)
    (case poC => k_is)
    (case saC => k_is)
    (case haC => k_is)
    (case hmC => k_is)
    (case mkC => k_is)
    (case kcC => k_is)
    (case n0C => k_is)
    (case n1C => k_is)
    (case pgL => k_is)
    (case hdL => k_is)
    (case poL => k_is)
    (case saL => k_is)
    (case haL => k_is)
    (case hmL => k_is)
    (case mkL => k_is)
    (case kcL => k_is)
    (case n0L => k_is)
    (case n1L => k_is)
    (case n2L => k_is)
    (case c40 => k_is)
    (case c8 => k_is)
    (case cN => k_is)
    (case zlen => k_is)
    (case zdivmod => k_is)
    (case zabs => k_is)
    (case zmax => k_is)
    (case zmin => k_is)
    (case zrange => k_is)
    (case zenumerate => k_is)
    (case zisinstance => k_is)
    (case zstr => k_is)
    (case zlist => k_is)
    (case zset => k_is)
    (case zall => k_is)
    (case zrepr => k_is)
    (case zint => k_is)
    (case zbool => k_is)
    (case zdict => k_is)
