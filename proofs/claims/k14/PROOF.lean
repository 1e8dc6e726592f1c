import PyProof.Rows.All
import Wide.All
import OpenK.AllK
import Wide.FinOn
import HandS.ForMost
import HandS.Codes
import HandS.FStr
import HandS.Walk
import HandS.FStrTup
import HandS.IsInst
import HandS.SetKeys
import HandS.DictComp
import HandS.Exc
import HandS.Style
import HandS.Deep
import PySem.Challenge.RW_ordermerge_k14_whole_inverted_pairs
set_option Elab.async false
set_option linter.all false
set_option maxRecDepth 100000
set_option maxHeartbeats 8000000
/-! a def's promise where no repr is under way -/
namespace OM
open PySem PySem.Spec PyProof.Rows L2

/-- FnOk, for callers around whom nothing is being shown -/
structure FnG (P : Program) (w : World) (K : PySem.W.Frag)
    (mg : Str → Option Value) (base : Heap) (CX : CXT)
    (k : Nat) (f : Addr) (fd : FuncData) (ps : List Str) (sp : Sp) : Prop where
  len : ∀ vs H Q E, sp vs H Q E → vs.length = ps.length
  run : ∀ (A : Around) (outer : List Env) (s : Shared) (H : Hp)
      (args : Args) (us : List Value) (vs : List V) (Q : VK) (E : XK),
    Room k A → A.guards = some [] →
    Env0 P w K mg base A outer s H →
    BindsTo s fd args (ps.zip us) → Vals vs us → sp vs H Q E →
    codeAny (model P w) A (.call (.ref f) args)
      (CR CX outer P w H s Q E) s

section
variable {P : Program} {w : World} {K : PySem.W.Frag}
  {mg : Str → Option Value} {base : Heap} {CX : CXT}
theorem FnG.ofOk {k : Nat} {f : Addr} {fd : FuncData} {ps : List Str} {sp : Sp}
    (F : FnOk P w K mg base CX k f fd ps sp) :
    FnG P w K mg base CX k f fd ps sp :=
  ⟨F.len, fun A o s H ar us vs Q E r _ e b v z =>
    F.run A o s H ar us vs Q E r e b v z⟩

theorem FnG.mk' {k : Nat} {f : Addr} {nm qual : Str} {pr : Arguments}
    {bd : List Stmt} {sc : Scope} {dV kV dc pm cv ct oc : Value}
    {an od : Option Addr} {sl : Array (Option Value)} {N ps : List Str} {sp : Sp}
    (lk : K.lookup f = some ⟨oc, od,
      .func (PySem.W.fnOf nm qual pr bd sc dV kV dc pm an cv ct), sl⟩)
    (hc : PySem.W.codeIn K cv qual = true) (S : FnScope N ps sc)
    (len : ∀ vs H Q E, sp vs H Q E → vs.length = ps.length)
    (body : ∀ (A : Around) (outer : List Env) (s : Shared) (H : Hp)
        (vs : List V) (Q : VK) (E : XK),
      Room k (A.deeper (envOfC qual sc s.heap.objs.size f cv)) →
      A.guards = some [] → sp vs H Q E →
      ∃ t, PSs (cxOf CX P w K mg base N qual sc f cv A outer s H E) bd t ∧
        t { nx := fun _ H' => Q .non H', rt := Q } (start N vs) H) :
    FnG P w K mg base CX (k + 1) f
      (PySem.W.fnOf nm qual pr bd sc dV kV dc pm an cv ct) ps sp := by
  refine ⟨len, ?_⟩
  intro A outer s H args us vs Q E room gd env bnd rel hsp
  have kin : K.In s.heap :=
    env.mod.kin.keeps fun b o q => (env.bs b o q).1
  have nol : s.heap.NoLimit :=
    env.mod.nolimit.keeps fun b o q => (env.bs b o q).1
  have kinds : ∀ y ∈ ps.zip us, sc.names.lookup y.1 = some .local ∨
      (sc.names.lookup y.1 = some .cell ∧
        ((cellsFrom (s.heap.objs.size + 1) sc.names []).lookup y.1).isSome
          = true) := by
    rintro ⟨n, v⟩ hy
    cases S.par n (List.of_mem_zip hy).1 with
    | inl q => exact Or.inl q
    | inr q => exact Or.inr ⟨q, PySem.W.cellsFrom_some _ _ _ (.inl q)⟩
  refine codeAny_call_function room.depth (kin _ _ lk) rfl S.co S.gen rfl
    (PySem.W.codeRec_of kin hc) (bnd _ _ _ _ ?_)
  refine wpAny_newFunctionEnv_cells S.kind kinds ?_
  intro env' he s1 x
  subst he
  refine ⟨nol.keeps x.toInCall.keep, codeAny_func ?_⟩
  obtain ⟨t, ht, hq⟩ := body A outer s H vs Q E (room.deeper _) gd hsp
  have I := inv_start (CX := CX) (E := E) S room.hd env
    (len _ _ _ _ hsp) rel x
  refine wpAny_mono (ht.run [] s1 (start N vs) H _ I hq) ?_
    (fun e s' z => z)
  intro fl s' hs
  cases fl with
  | ret u =>
    obtain ⟨v, σ', H', J, rv, q⟩ := hs
    exact ⟨v, H', J.os, J.bare, J.base, J.hok, rv, q⟩
  | next =>
    obtain ⟨σ', H', J, q⟩ := hs
    exact ⟨V.non, H', J.os, J.bare, J.base, J.hok, rfl, q⟩
  | brk => exact (hs.choose_spec.choose_spec.2 : False).elim
  | cont => exact (hs.choose_spec.choose_spec.2 : False).elim

/-- a def of the text, by its body -/
theorem okG {x qual : Str} {st : Stmt} {f : Addr} {fd : FuncData}
    {N ps : List Str} {k : Nat} {sp : Sp} (F : Fun K x qual st f fd)
    (S : FnScope N ps (defScope st))
    (len : ∀ vs H Q E, sp vs H Q E → vs.length = ps.length)
    (body : ∀ (cv : Value) (A : Around) (outer : List Env) (s : Shared)
        (H : Hp) (vs : List V) (Q : VK) (E : XK),
      Room k (A.deeper (envOfC qual (defScope st) s.heap.objs.size f cv)) →
      A.guards = some [] → sp vs H Q E →
      ∃ t, PSs (cxOf CX0 P w K mg base N qual (defScope st) f cv A
          outer s H E).nox (defBody st) t ∧
        t { nx := fun _ H' => Q .non H', rt := Q } (start N vs) H) :
    FnG P w K mg base CX0 (k + 1) f fd ps sp := by
  obtain ⟨oc, od, kV, dc, pm, an, cv, ct, sl, rfl, lk, hc⟩ := F.ex
  refine FnG.mk' lk hc S len ?_
  intro A outer s H vs Q E room gd hsp
  obtain ⟨t, h, q⟩ := body cv A outer s H vs Q E room gd hsp
  exact ⟨t, h.nox, q⟩
end

section
variable {X : Cx} {CX : CXT} {k : Nat} {f : Addr} {fd : FuncData}
  {ps : List Str} {sp : Sp} {dvs : List V} {ds : List Value} {E : XK}
theorem runG {pins : List (Addr × Obj)} {σ : L2.St} {H : Hp} {s : Shared}
    {Q : VK} {us : List Value} {vs : List V}
    (F : FnG X.prog X.w X.K X.mg X.base CX k f fd ps sp)
    (room : Room k X.A) (gd : X.A.guards = some [])
    (hb : Binds X.K fd ps ds) (hd : Vals dvs ds) (hx : Passes CX X E)
    (I : Inv X pins σ H s) (r : Vals vs us) (h : sp (vs ++ dvs) H Q E) :
    wpAny (model X.prog X.w) X.A (call (.ref f) us) (EP X pins σ Q) X.xe s := by
  have rr := r.append hd
  have hl : (us ++ ds).length = ps.length :=
    rr.length.symm.trans (F.len _ _ _ _ h)
  refine wpAny_call (codeAny_mono (F.run X.A X.stack s H ⟨us, []⟩ (us ++ ds)
    (vs ++ dvs) Q E room gd I.env0 (hb s us I.kIn hl) rr h) ?_)
  intro r s' hq
  match r, hq with
  | .error e, hq => exact hx pins σ H s e s' I hq
  | .ok (.ret u), hq => exact I.after hq
  | .ok .next, hq => exact False.elim hq
  | .ok .brk, hq => exact False.elim hq
  | .ok .cont, hq => exact False.elim hq

theorem pe_callG {x : Str} {p pos : Pos} {e : Expr} {es : List Expr} {t : TA}
    (F : FnG X.prog X.w X.K X.mg X.base CX k f fd ps sp)
    (room : Room k X.A) (gd : X.A.guards = some []) (hg : Gl X x)
    (hm : X.mg x = some (.ref f)) (hk : PySem.W.keepIn X.K (.ref f) = true)
    (hb : Binds X.K fd ps ds) (hd : Vals dvs ds) (hx : Passes CX X E)
    (ha : PA X (e :: es) t)
    (h1 : (x == ("__debug__" : Str)) = false := by decide)
    (h2 : starEach (e :: es) X.env =
      (false, eval e X.env) :: starEach es X.env := by rfl)
    (h3 : (backTo pos (starEach es X.env)).any (·.1) = false := by rfl) :
    PE X (.Call (.Name x p) (e :: es) [] pos) (tCall sp dvs E t) := by
  constructor
  intro pins s σ H Q I h
  refine wpAny_Call_Name_kw (ld_glob I hg hm ?_ h1)
  refine PySem.W.callWith_K (h₀ := X.base) I.ok.mod.kin hk
    (thn (ha.run pos pins s σ H _ I h) ?_) h2 h3
  rintro us s1 ⟨vs, H1, I1, r, q⟩
  exact ⟨I1.kIn, runG F room gd hb hd hx I1 r q⟩
end

/-! ### repr of data -/
section
variable {X : Cx}
theorem DpAll.noDict : ∀ {K : PySem.W.Frag} {H : Hp} (ds : List PyData)
    {vs : List V}, (∀ d ∈ ds, ∀ v, Dp K H v d → d.hasDict = false) →
    DpAll K H vs ds → PyData.hasDictAll ds = false
  | _, _, [], _, _, _ => by simp only [PyData.hasDictAll]
  | _, _, d :: ds, _, f, h => by
    cases h with
    | cons h1 h2 =>
      simp only [PyData.hasDictAll]
      rw [f d List.mem_cons_self _ h1,
        DpAll.noDict ds (fun e he => f e (List.mem_cons_of_mem _ he)) h2]
      rfl
mutual
theorem Dp.noDict {K : PySem.W.Frag} {H : Hp} :
    ∀ (d : PyData) {v : V}, Dp K H v d → d.hasDict = false
  | .none, _, _ => by simp only [PyData.hasDict]
  | .bool _, _, _ => by simp only [PyData.hasDict]
  | .int _, _, _ => by simp only [PyData.hasDict]
  | .str _, _, _ => by simp only [PyData.hasDict]
  | .list ds, _, h => by
    cases h with
    | lst _ h => simp only [PyData.hasDict]; exact Dp.noDicts ds h
  | .tuple ds, _, h => by
    cases h with
    | tup _ h => simp only [PyData.hasDict]; exact Dp.noDicts ds h
  | .dict _, _, h => by cases h
theorem Dp.noDicts {K : PySem.W.Frag} {H : Hp} :
    ∀ (ds : List PyData) {vs : List V}, DpAll K H vs ds →
      PyData.hasDictAll ds = false
  | [], _, _ => by simp only [PyData.hasDictAll]
  | d :: ds, _, h => by
    cases h with
    | cons h1 h2 =>
      simp only [PyData.hasDictAll]
      rw [Dp.noDict d h1, Dp.noDicts ds h2]
      rfl
end
/-- repr(x) of data without dicts -/
def rRepr (K : PySem.W.Frag) : List V → Hp → VK → Prop := fun xs H Q =>
  ∃ v d, xs = [v] ∧ Dp K H v d ∧ d.showable = true ∧ d.depth ≤ 60 ∧
    d.shown.length ≤ sizeLine ∧ Q (.str d.shown) H
theorem call_reprD {k : Nat} (room : Room k X.A)
    (gd : X.A.guards = some []) :
    CallR X (.builtin "repr") (rRepr X.K) := by
  intro pins s σ H xs us Q I r h
  obtain ⟨v, d, rfl, hd, sh, dp, sz, q⟩ := h
  cases r with
  | cons rv rn =>
    cases rn
    rename_i u
    obtain ⟨as, rd⟩ := Dp.reads I d v u hd rv
    have un := room.units
    cases hd with
    | non =>
      cases rv
      exact PySem.P.repr_of_none ⟨.str _, H, I.tok _, ⟨_, rfl⟩, q⟩
    | bl b =>
      cases rv
      exact PySem.P.repr_of_bool ⟨.str _, H, I.tok _, ⟨_, rfl⟩, q⟩
    | int i =>
      obtain ⟨t, rfl⟩ := rv
      refine PySem.P.repr_of_int ?_ ⟨.str _, H, I.tok _, ⟨_, rfl⟩, q⟩
      simpa [PyData.showable] using sh
    | str x =>
      obtain ⟨t, rfl⟩ := rv
      exact PySem.P.repr_of_str ⟨.str _, H, I.tok _, ⟨_, rfl⟩, q⟩ sz
    | lst a b =>
      cases rv
      refine repr_of_reads' rd sh (PyData.noDict_hsm
        (Dp.noDict _ (Dp.lst a b))) gd (by omega) (fun _ _ e => e)
        (fun h' u tk hk => ?_) sz
      exact ⟨.str _, H, I.kept hk, ⟨_, rfl⟩, q⟩
    | tup a b =>
      cases rv
      refine repr_of_reads' rd sh (PyData.noDict_hsm
        (Dp.noDict _ (Dp.tup a b))) gd (by omega) (fun _ _ e => e)
        (fun h' u tk hk => ?_) sz
      exact ⟨.str _, H, I.kept hk, ⟨_, rfl⟩, q⟩
end
end OM
namespace OM
open PySem PySem.Spec PyProof.Rows L2

/-- the law's call, nothing being shown around it -/
theorem lawG {P : Program} {w : World} {K : PySem.W.Frag}
    {mg mb : Str → Option Value} {k : Nat} {fa a : Addr} {fd : FuncData}
    {x : Str} {sp : Sp} {s1 : Shared} {vs : List Value} {ns : List Int}
    (kin : K.In s1.heap) (glob : s1.heap.Ns mainGlobals mg)
    (blt : s1.heap.Ns builtinsNs mb)
    (boot : ∀ x : Str, x ≠ "__name__" → mb x = bootBuiltins x)
    (nol : s1.heap.NoLimit) (gens : s1.gens = #[])
    (ha : s1.heap.get? a =
      some { cls := .type "list", data := .seq vs.toArray })
    (hints : IntsAre vs ns) (hl : ns.length ≤ sizeLine)
    (room : Room k callerA)
    (F : ∀ base : Heap, K.In base → base.Ns mainGlobals mg →
      FnG P w K mg base CX0 k fa fd [x] sp)
    (bind : ∀ (s : Shared) (u : Value), BindsTo s fd ⟨[u], []⟩ [(x, u)])
    (hsp : ∀ H : Hp, Only H → SqL K H a (ns.map V.int) →
      sp [.ref a] H (fun v _ => v = .bl true) E0) :
    codeAny (model P w) callerA (.call (.ref fa) ⟨[.ref a], []⟩)
      (fun r s' => r = .ok (.ret (.bool true)) ∧ OldK s1.heap s'.heap ∧
        s'.os = s1.os ∧ AllBare s'.gens) s1 := by
  have rel := vals_ints hints
  have lv := hints.length
  -- H tracks the script alone, or nothing
  suffices core : ∀ H : Hp, Only H → SqL K H a (ns.map V.int) →
      HOk P w H s1.heap → (∀ b, H b ≠ none → b = a) →
      (H a ≠ none → K.lookup a = none) →
      codeAny (model P w) callerA (.call (.ref fa) ⟨[.ref a], []⟩)
        (fun r s' => r = .ok (.ret (.bool true)) ∧ OldK s1.heap s'.heap ∧
          s'.os = s1.os ∧ AllBare s'.gens) s1 by
    by_cases hk : ∃ o, K.lookup a = some o
    · obtain ⟨o, hk⟩ := hk
      have e := kin a o hk
      rw [ha] at e
      cases e
      refine core (fun _ => none) (fun _ => Or.inl rfl) (Or.inr ?_)
        (fun b u z => ?_) (fun b z => absurd rfl z) (fun z => absurd rfl z)
      · exact ⟨_, vs.toArray, _, hk, rfl, rfl, rfl,
          by rw [List.size_toArray, lv]; exact hl, by simpa using rel⟩
      · cases (show (none : Option HO) = some u from z)
    · have hk : K.lookup a = none := by
        cases q : K.lookup a with
        | none => rfl
        | some o => exact absurd ⟨o, q⟩ hk
      let ob : Obj := { cls := .type "list", data := .seq vs.toArray }
      refine core (fun b => if b = a then
          some (.frz ob (.lst (ns.map V.int))) else none)
        (fun b => ?_) (Or.inl (Or.inr ⟨ob, if_pos rfl⟩))
        (fun b u z => ?_) (fun b z => ?_) (fun _ => hk)
      · by_cases hb : b = a
        · exact Or.inr ⟨_, _, if_pos hb⟩
        · exact Or.inl (if_neg hb)
      · by_cases hb : b = a
        · cases (if_pos hb).symm.trans z
          subst hb
          exact ⟨ha, by rw [List.length_map]; exact hl, vs, _, rel, ha⟩
        · cases (if_neg hb).symm.trans z
      · by_cases hb : b = a
        · exact hb
        · exact absurd (if_neg hb) z
  intro H only sq ok alone notK
  have untracked : ∀ {b : Addr} {o : Obj}, s1.heap.get? b = some o →
      (∀ z, o.data ≠ .seq z 0) → H b = none := by
    intro b o e d
    cases q : H b with
    | none => rfl
    | some u =>
      have z : b = a := alone b (by rw [q]; exact nofun)
      subst z
      rw [ha] at e
      cases e
      exact absurd rfl (d _)
  have ns' : ∀ {b : Addr} {m : Str → Option Value}, s1.heap.Ns b m →
      (hidT s1.heap H).Ns b m := by
    rintro b m ⟨o, es, ep, e, d, r⟩
    refine ⟨o, es, ep, hidT_get e (untracked e fun z y => ?_), d, r⟩
    cases d.symm.trans y
  have kin' : K.In (hidT s1.heap H) := by
    intro b o e
    refine hidT_get (kin b o e) ?_
    cases q : H b with
    | none => rfl
    | some u =>
      have z : b = a := alone b (by rw [q]; exact nofun)
      subst z
      rw [notK (by rw [q]; exact nofun)] at e
      cases e
  have md : Mod K mg (hidT s1.heap H) := by
    obtain ⟨mc, h1, h2⟩ := nol
    exact ⟨kin', ns' glob, ⟨mb, ns' blt, boot⟩, ⟨mc, ns' h1, h2⟩⟩
  have env : Env0 P w K mg (hidT s1.heap H) callerA [] s1 H :=
    ⟨rfl, md, fun b o e => of_hidT e, Nat.le_of_eq (hidT_size _ _), trivial,
      fun b hb => (nomatch (show b ∈ ([] : List Addr) from hb)), ok,
      .of_eq gens⟩
  refine codeAny_mono ((F _ kin' (ns' glob)).run callerA [] s1 H ⟨[.ref a], []⟩
    [.ref a] [.ref a] _ _ room rfl env (bind s1 (.ref a)) (.cons rfl .nil)
    (hsp H only sq)) ?_
  intro r s' h
  match r, h with
  | .error e, h => exact False.elim h
  | .ok .next, h => exact False.elim h
  | .ok .brk, h => exact False.elim h
  | .ok .cont, h => exact False.elim h
  | .ok (.ret u), h =>
    obtain ⟨v, H', os, bare, un, ok', rv, q⟩ := h
    cases (show v = .bl true from q)
    cases (show u = Value.bool true from rv)
    refine ⟨rfl, OldK.of_keep fun b o e => ?_, os, bare⟩
    cases q : H b with
    | none =>
      exact un.keep b o e q
        (fun z => nomatch (show b ∈ ([] : List Addr) from z)) (by simp)
    | some u =>
      cases only b with
      | inl z => rw [q] at z; cases z
      | inr z =>
        obtain ⟨ob, xs, z⟩ := z
        have e1 := (ok b _ z).1
        have e2 := (ok' b _ (un.frzs b ob _ z)).1
        rw [e] at e1
        cases e1
        exact e2

/-- what the head leaves, from the law's promise -/
theorem walkG {l : PySem.W.OpenLaw} {n k : Nat} {q : Program} {ls : List Str}
    {XP : (Str → Option Value) → Heap → Prop} {YP : World → Heap → Prop}
    {d : DefRec} {K : Params → PySem.W.Frag} {sp : PySem.W.Frag → Sp} {x : Str}
    (hn : l.most = some n) (hn2 : n ≤ sizeLine)
    (hdf : d.params.defaults = []) (room : Room k callerA)
    (hY : ∀ (w : World) (h : Heap), YP w h → (K w.params).In h)
    (F : ∀ (w : World) (mg : Str → Option Value) (fa : Addr) (h : Heap),
      (K w.params).In h → h.Ns mainGlobals mg → mg d.name = some (.ref fa) →
      ∃ fd : FuncData,
        (∀ (s : Shared) (u : Value), BindsTo s fd ⟨[u], []⟩ [(x, u)]) ∧
        ∀ base : Heap, (K w.params).In base → base.Ns mainGlobals mg →
          FnG l.prog w (K w.params) mg base CX0 k fa fd [x]
            (sp (K w.params)))
    (hsp : ∀ (K : PySem.W.Frag) (H : Hp) (a : Addr) (ns : List Int),
      ns.length ≤ n → Only H → SqL K H a (ns.map V.int) →
      sp K [.ref a] H (fun v _ => v = .bl true) E0) :
    PySem.W.WalkO q ls XP YP l.row.toRowW d []
      (fun f vs => PySem.call f vs) := by
  refine Att.attach_call hn hdf ?_
  intro w s₀ s1 mg mb fa o pm cd doc a vs ns G Y ho hd hcd hmg hobj hi hlen hg
  have KX := hY w _ Y
  obtain ⟨fd, hb, hF⟩ := F w mg fa _ KX G.T.g hmg
  exact lawG KX G.T.g G.T.b G.T.builtins G.T.nolimit hg hobj hi
    (Nat.le_trans hlen hn2) room hF hb
    (fun H hO hS => hsp (K w.params) H a ns hlen hO hS)
end OM
namespace OM
open PySem PySem.Spec PyProof.Rows L2

/-! ### a callee, in one word -/
structure Cal (P : Program) (w : World) (K : PySem.W.Frag)
    (mg : Str → Option Value) (base : Heap) (k : Nat) (x : Str)
    (ps : List Str) (sp : Sp) : Prop where
  ex : ∃ f fd, FnOk P w K mg base CX0 k f fd ps sp ∧
    mg x = some (.ref f) ∧ PySem.W.keepIn K (.ref f) = true ∧
    Binds K fd ps []
structure CalG (P : Program) (w : World) (K : PySem.W.Frag)
    (mg : Str → Option Value) (base : Heap) (k : Nat) (x : Str)
    (ps : List Str) (sp : Sp) : Prop where
  ex : ∃ f fd, FnG P w K mg base CX0 k f fd ps sp ∧
    mg x = some (.ref f) ∧ PySem.W.keepIn K (.ref f) = true ∧
    Binds K fd ps []
section
variable {X : Cx} {k : Nat} {ps : List Str} {sp : Sp} {x : Str}
  {p pos : Pos} {e : Expr} {es : List Expr} {t : TA}
theorem pe_cal (C : Cal X.prog X.w X.K X.mg X.base k x ps sp)
    (room : Room k X.A) (ha : PA X (e :: es) t)
    (hg : Gl X x := by rfl)
    (h1 : (x == ("__debug__" : Str)) = false := by decide)
    (h2 : starEach (e :: es) X.env =
      (false, eval e X.env) :: starEach es X.env := by rfl)
    (h3 : (backTo pos (starEach es X.env)).any (·.1) = false := by rfl) :
    PE X (.Call (.Name x p) (e :: es) [] pos) (tCall sp [] E0 t) := by
  obtain ⟨f, fd, F, m, kp, b⟩ := C.ex
  exact pe_call F room hg m kp b .nil pass0 ha h1 h2 h3
theorem pe_calG (C : CalG X.prog X.w X.K X.mg X.base k x ps sp)
    (room : Room k X.A) (gd : X.A.guards = some [])
    (ha : PA X (e :: es) t)
    (hg : Gl X x := by rfl)
    (h1 : (x == ("__debug__" : Str)) = false := by decide)
    (h2 : starEach (e :: es) X.env =
      (false, eval e X.env) :: starEach es X.env := by rfl)
    (h3 : (backTo pos (starEach es X.env)).any (·.1) = false := by rfl) :
    PE X (.Call (.Name x p) (e :: es) [] pos) (tCall sp [] E0 t) := by
  obtain ⟨f, fd, F, m, kp, b⟩ := C.ex
  exact pe_callG F room gd hg m kp b .nil pass0 ha h1 h2 h3
end

/-! ### heaps: what may have changed -/
/-- all but p is as it was -/
def But (p : Addr) (H H' : Hp) : Prop :=
  ∀ q o, H q = some o → q ≠ p → H' q = some o
theorem But.refl {p : Addr} (H : Hp) : But p H H := fun _ _ h _ => h
theorem But.trans {p : Addr} {H H1 H2 : Hp} (a : But p H H1)
    (b : But p H1 H2) : But p H H2 :=
  fun q o h n => b q o (a q o h n) n
theorem But.of {p : Addr} {H H' : Hp} (a : Same H H') : But p H H' :=
  fun q o h _ => a q o h
theorem But.new {p q : Addr} {o : HO} {H H' : Hp} (a : But p H H')
    (n : H q = none) : But p H (upd H' q o) := fun b u h nb => by
  rw [upd_ne (ne_of_none h n)]
  exact a b u h nb
theorem But.at {p : Addr} {o : HO} {H H' : Hp} (a : But p H H') :
    But p H (upd H' p o) := fun b u h nb => by
  rw [upd_ne nb]
  exact a b u h nb
theorem But.same {p : Addr} {H H' : Hp} (a : But p H H')
    (n : H p = none) : Same H H' := fun q o h =>
  a q o h (ne_of_none h n)
theorem sameNew {H : Hp} {p : Addr} {o : HO} (h : H p = none) :
    Same H (upd H p o) := fun b x e => by
  rw [upd_ne (ne_of_none e h)]
  exact e
theorem Same.put {H H' : Hp} {p : Addr} {o : HO} (a : Same H H')
    (h : H p = none) : Same H (upd H' p o) := fun b x e => by
  rw [upd_ne (ne_of_none e h)]
  exact a b x e
theorem But.free {p q : Addr} {H H' : Hp} (a : But p H H') (n : q ≠ p)
    (h : H' q = none) : H q = none := by
  cases e : H q with
  | none => rfl
  | some o => rw [a q o e n] at h; cases h
theorem But.seq {K : PySem.W.Frag} {p a : Addr} {H H' : Hp} {xs : List V}
    (b : But p H H') (h : SqL K H a xs) (n : a ≠ p) : SqL K H' a xs := by
  rcases h with (h | ⟨o, h⟩) | h
  · exact .inl (.inl (b _ _ h n))
  · exact .inl (.inr ⟨o, b _ _ h n⟩)
  · exact .inr h

/-! ### the built-ins' names -/
structure Bl (mg : Str → Option Value) : Prop where
  len : mg "len" = none
  divmod : mg "divmod" = none
  abs : mg "abs" = none
  max : mg "max" = none
  min : mg "min" = none
  range : mg "range" = none
  enum : mg "enumerate" = none
  isi : mg "isinstance" = none
  str : mg "str" = none
  list : mg "list" = none
  set : mg "set" = none
  all : mg "all" = none
  repr : mg "repr" = none
theorem bt_divmod : bootBuiltins "divmod" = some (.builtin "divmod") := by
  decide +kernel
theorem bt_abs : bootBuiltins "abs" = some (.builtin "abs") := by
  decide +kernel
theorem bt_max : bootBuiltins "max" = some (.builtin "max") := by
  decide +kernel
theorem bt_min : bootBuiltins "min" = some (.builtin "min") := by
  decide +kernel
theorem bt_isi : bootBuiltins "isinstance" = some (.builtin "isinstance") := by
  decide +kernel
theorem bt_str : bootBuiltins "str" = some (.type "str") := by
  decide +kernel
theorem bt_list : bootBuiltins "list" = some (.type "list") := by
  decide +kernel
theorem bt_set : bootBuiltins "set" = some (.type "set") := by
  decide +kernel
theorem bt_all : bootBuiltins "all" = some (.builtin "all") := by
  decide +kernel
theorem bt_repr : bootBuiltins "repr" = some (.builtin "repr") := by
  decide +kernel

/-! ### the drawing state -/
def Rng (H : Hp) (p : Addr) : Prop :=
  ∃ a b : Int, H p = some (.lst [.int a, .int b]) ∧ 0 ≤ a ∧ 0 ≤ b ∧
    b < 2147483647
theorem Rng.but {H H' : Hp} {p q : Addr} (r : Rng H p) (b : But q H H')
    (n : p ≠ q) : Rng H' p := by
  obtain ⟨x, y, e, z⟩ := r
  exact ⟨x, y, b _ _ e n, z⟩
theorem Rng.same {H H' : Hp} {p : Addr} (r : Rng H p) (b : Same H H') :
    Rng H' p := by
  obtain ⟨x, y, e, z⟩ := r
  exact ⟨x, y, b _ _ e, z⟩
theorem Rng.ne {H : Hp} {p q : Addr} (r : Rng H p) (n : H q = none) :
    p ≠ q := by
  obtain ⟨x, y, e, z⟩ := r
  exact ne_of_none e n

/-- a draw below m: some number, the state moved on -/
def spDraw : Sp := fun vs H Q _ => ∃ (p : Addr) (m : Int),
  vs = [.ref p, .int m] ∧ Rng H p ∧ 0 < m ∧ m < 1000000 ∧
  ∀ (d : Int) (H' : Hp), 0 ≤ d → d < m → Rng H' p → But p H H' →
    Q (.int d) H'
/-- a new drawing state -/
def spRng (K : PySem.W.Frag) : Sp := fun vs H Q _ =>
  ∃ (a : Addr) (ns : List Int) (k : Nat), vs = [.ref a, .int k] ∧
  SqL K H a (ns.map V.int) ∧ k ≤ 1000 ∧
  ∀ (p : Addr) (H' : Hp), H p = none → Rng H' p → Same H H' →
    Q (.ref p) H'
end OM
/-! names as lists of codes -/
namespace OM
open PySem L2

/-- one to eight letters from a to z -/
structure Nm (l : List Nat) : Prop where
  lo : 1 ≤ l.length
  hi : l.length ≤ 8
  az : ∀ c ∈ l, 97 ≤ c ∧ c ≤ 122
abbrev vS (l : List Nat) : V := .str (SX.S l)
theorem vS_inj {a b : List Nat} (h : vS a = vS b) : a = b :=
  SX.S_inj (V.str.inj h)

theorem nodup_le {α : Type} [BEq α] [LawfulBEq α] : ∀ {l m : List α},
    l.Nodup → (∀ x ∈ l, x ∈ m) → l.length ≤ m.length
  | [], _, _, _ => Nat.zero_le _
  | x :: l, m, nd, h => by
    have hx : x ∈ m := h x List.mem_cons_self
    have nd' := List.nodup_cons.mp nd
    have r : l.length ≤ (m.erase x).length := by
      refine nodup_le nd'.2 fun y hy => ?_
      have ne : y ≠ x := fun e => nd'.1 (e ▸ hy)
      exact (List.mem_erase_of_ne ne).mpr (h y (List.mem_cons_of_mem _ hy))
    rw [List.length_erase_of_mem hx] at r
    have : 0 < m.length := List.length_pos_of_mem hx
    rw [List.length_cons]
    omega

/-- the k-th name to fall back upon -/
def frs6 (l : List Nat) (k : Nat) : List Nat :=
  l.take 6 ++ [97 + k / 26, 97 + k % 26]
theorem frs6_inj {l : List Nat} {j k : Nat} (h : frs6 l j = frs6 l k) :
    j = k := by
  have e := List.append_cancel_left h
  injection e with e1 e2
  injection e2 with e2 _
  omega
theorem Nm.frs {l : List Nat} (n : Nm l) {k : Nat} (hk : k < 676) :
    Nm (frs6 l k) := by
  unfold frs6
  refine ⟨?_, ?_, ?_⟩
  · simp
  · rw [List.length_append, List.length_take]
    show min 6 l.length + 2 ≤ 8
    omega
  · intro c hc
    rcases List.mem_append.mp hc with h | h
    · exact n.az c (List.mem_of_mem_take h)
    · rcases List.mem_cons.mp h with h | h
      · omega
      · rcases List.mem_cons.mp h with h | h
        · omega
        · cases h
def fresh (l : List Nat) : List (List Nat) :=
  l :: (List.range 676).map (frs6 l)
theorem fresh_nm {l : List Nat} (n : Nm l) : ∀ x ∈ fresh l, Nm x := by
  intro x hx
  rcases List.mem_cons.mp hx with h | h
  · rw [h]; exact n
  · obtain ⟨k, hk, rfl⟩ := List.mem_map.mp h
    exact n.frs (List.mem_range.mp hk)
theorem nodup_map {α β : Type} {f : α → β} (hf : ∀ a b, f a = f b → a = b) :
    ∀ {l : List α}, l.Nodup → (l.map f).Nodup
  | [], _ => List.nodup_nil
  | x :: l, h => by
    have h' := List.nodup_cons.mp h
    rw [List.map_cons]
    refine List.nodup_cons.mpr ⟨fun m => ?_, nodup_map hf h'.2⟩
    obtain ⟨y, hy, e⟩ := List.mem_map.mp m
    exact h'.1 (hf _ _ e ▸ hy)
theorem fresh_some {l : List Nat} {us : List (List Nat)}
    (h : us.length < 676) :
    ∃ x r, (fresh l).filter (fun y => decide (y ∉ us)) = x :: r := by
  cases e : (fresh l).filter (fun y => decide (y ∉ us)) with
  | cons x r => exact ⟨x, r, rfl⟩
  | nil =>
    exfalso
    have all : ∀ x ∈ (List.range 676).map (frs6 l), x ∈ us := by
      intro x hx
      apply Classical.byContradiction
      intro nx
      have : x ∈ (fresh l).filter (fun y => decide (y ∉ us)) :=
        List.mem_filter.mpr ⟨List.mem_cons_of_mem _ hx, decide_eq_true nx⟩
      rw [e] at this
      cases this
    have le := nodup_le (nodup_map (fun a b => frs6_inj (l := l))
      List.nodup_range) all
    rw [List.length_map, List.length_range] at le
    omega
theorem inV_S (x : List Nat) : ∀ us : List (List Nat),
    inV (vS x) (us.map vS) = decide (x ∈ us)
  | [] => by simp [inV]
  | u :: us => by
    have ih := inV_S x us
    unfold inV at ih ⊢
    rw [List.map_cons, List.any_cons, ih]
    by_cases e : u = x
    · subst e
      simp [eqV]
    · have ne : ¬ x = u := fun z => e z.symm
      have : eqV (vS u) (vS x) = false := by
        unfold eqV
        simp
        intro z
        exact e z
      rw [this]
      simp [ne]
theorem flat_S (us : List (List Nat)) : (us.map vS).all flatV = true := by
  rw [List.all_eq_true]
  intro v hv
  obtain ⟨l, _, rfl⟩ := List.mem_map.mp hv
  rfl
end OM
namespace OM
open PySem PySem.Spec PyProof.Rows L2
/-- an expression, with a word behind it -/
def tMid (t : TE) : TE := fun σ H Q =>
  ∃ M : V → Hp → Prop, t σ H M ∧ ∀ v H', M v H' → Q v H'
theorem pe_mid {X : Cx} {e : Expr} {t : TE} (h : PE X e t) :
    PE X e (tMid t) := by
  constructor
  intro pins s σ H Q I q
  obtain ⟨M, m, k⟩ := q
  refine thn (h.run pins s σ H M I m) ?_
  rintro u s1 ⟨v, H1, I1, r, z⟩
  exact ⟨v, H1, I1, r, k v H1 z⟩
def tMidT (t : TT) : TT := fun σ H Q =>
  ∃ M : Bool → Hp → Prop, t σ H M ∧ ∀ v H', M v H' → Q v H'
theorem pt_mid {X : Cx} {e : Expr} {t : TT} (h : PT X e t) :
    PT X e (tMidT t) := by
  constructor
  intro pins s σ H Q I q
  obtain ⟨M, m, k⟩ := q
  refine thn (h.run pins s σ H M I m) ?_
  rintro u s1 ⟨H1, I1, z⟩
  exact ⟨H1, I1, k u H1 z⟩
theorem But.put {p t : Addr} {o : HO} {H H1 : Hp} (a : But p H H1)
    (n : H1 t = none) (ne : t ≠ p) : But p H (upd H1 t o) :=
  a.new (a.free ne n)
/-- len of a list or tuple, the written part a letter -/
def rLenK (K : PySem.W.Frag) : List V → Hp → VK → Prop := fun xs H Q =>
  ∃ p ys, xs = [.ref p] ∧ (SqL K H p ys ∨ SqT K H p ys) ∧
    Q (.int ys.length) H
theorem call_lenK {X : Cx} : CallR X (.builtin "len") (rLenK X.K) :=
  call_len_seq
theorem sz {n : Nat} (h : n ≤ 100000) : n ≤ sizeLine :=
  Nat.le_trans h (by decide)
theorem sz' {n : Nat} (h : n < 100000) : n < sizeLine :=
  Nat.lt_of_lt_of_le h (by decide)
end OM
namespace OM
open PySem PySem.Spec PyProof.Rows L2
section
variable {X : Cx} {n : Nat} {f C : Addr} {fd : FuncData} {ps : List Str}
  {sp : Sp}
/-- a def runs at another depth of the same frame -/
theorem runAt {A : Around} {pins : List (Addr × Obj)} {σ : L2.St} {H : Hp}
    {s : Shared} {Q : VK} {us : List Value} {vs : List V}
    (F : FnG X.prog X.w X.K X.mg X.base CX0 n f fd ps sp)
    (room : Room n A) (gd : A.guards = some []) (fr : A.frames = X.A.frames)
    (hb : Binds X.K fd ps []) (I : Inv X pins σ H s) (r : Vals vs us)
    (h : sp vs H Q E0) :
    wpAny (model X.prog X.w) A (call (.ref f) us) (EP X pins σ Q) X.xe s := by
  have hl : us.length = ps.length := r.length.symm.trans (F.len _ _ _ _ h)
  have e0 : Env0 X.prog X.w X.K X.mg X.base A X.stack s H := by
    have e := I.env0
    exact ⟨by rw [fr]; exact e.frames, e.mod, e.bs, e.bsz, e.funs, e.frf,
      e.hok, e.bare⟩
  have bd : BindsTo s fd ⟨us, []⟩ (ps.zip us) := by
    have := hb s us I.kIn (by rw [List.append_nil]; exact hl)
    rw [List.append_nil] at this
    exact this
  refine wpAny_call (codeAny_mono (F.run A X.stack s H ⟨us, []⟩ us vs Q E0
    room gd e0 bd r h) ?_)
  intro r s' hq
  match r, hq with
  | .error e, hq => exact False.elim hq
  | .ok (.ret u), hq => exact I.after hq
  | .ok .next, hq => exact False.elim hq
  | .ok .brk, hq => exact False.elim hq
  | .ok .cont, hq => exact False.elim hq
/-- the same of a def that asks nothing of what is shown -/
theorem runAt0 {A : Around} {pins : List (Addr × Obj)} {σ : L2.St} {H : Hp}
    {s : Shared} {Q : VK} {us : List Value} {vs : List V}
    (F : FnOk X.prog X.w X.K X.mg X.base CX0 n f fd ps sp)
    (room : Room n A) (fr : A.frames = X.A.frames)
    (hb : Binds X.K fd ps []) (I : Inv X pins σ H s) (r : Vals vs us)
    (h : sp vs H Q E0) :
    wpAny (model X.prog X.w) A (call (.ref f) us) (EP X pins σ Q) X.xe s := by
  have hl : us.length = ps.length := r.length.symm.trans (F.len _ _ _ _ h)
  have e0 : Env0 X.prog X.w X.K X.mg X.base A X.stack s H := by
    have e := I.env0
    exact ⟨by rw [fr]; exact e.frames, e.mod, e.bs, e.bsz, e.funs, e.frf,
      e.hok, e.bare⟩
  have bd : BindsTo s fd ⟨us, []⟩ (ps.zip us) := by
    have := hb s us I.kIn (by rw [List.append_nil]; exact hl)
    rw [List.append_nil] at this
    exact this
  refine wpAny_call (codeAny_mono (F.run A X.stack s H ⟨us, []⟩ us vs Q E0
    room e0 bd r h) ?_)
  intro r s' hq
  match r, hq with
  | .error e, hq => exact False.elim hq
  | .ok (.ret u), hq => exact I.after hq
  | .ok .next, hq => exact False.elim hq
  | .ok .brk, hq => exact False.elim hq
  | .ok .cont, hq => exact False.elim hq
/-- an own method that the interpreter calls by itself -/
structure Spec1 (K : PySem.W.Frag) (C : Addr) (m : Str) (f : Addr)
    (fd : FuncData) (ps : List Str) : Prop where
  at_ : PySem.W.findIn K (.ref C) m = some (some (.ref f))
  fn : PySem.W.isFn K (.ref f) = true
  bd : Binds K fd ps []
/-- x == y, both of the class at C -/
def rEqOwn (C : Addr) (sp : Sp) : R2 := fun x y H Q =>
  ∃ a b dx dy fs gs, x = .ref a ∧ y = .ref b ∧
    H a = some (.ins C dx fs) ∧ H b = some (.ins C dy gs) ∧
    sp [.ref a, .ref b] H (fun v H' => ∃ r, v = .bl r ∧ Q (.bl r) H') E0
theorem op_eqOwn (S : Spec1 X.K C "__eq__" f fd ps)
    (F : FnOk X.prog X.w X.K X.mg X.base CX0 n f fd ps sp)
    (room : Room n X.A) : OpR X (compareOp .Eq) (rEqOwn C sp) := by
  intro pins s σ H x y v u Q I rx ry h
  obtain ⟨a, b, dx, dy, fs, gs, rfl, rfl, ha, hb, q⟩ := h
  cases rx
  cases ry
  obtain ⟨mA, J, _⟩ := ins_get I.hok ha
  obtain ⟨mB, J', _⟩ := ins_get I.hok hb
  obtain ⟨od, J, _⟩ := J.look
  obtain ⟨od', J', _⟩ := J'.look
  obtain ⟨m, hF⟩ := I.fr
  show wpAny _ X.A (richCompare .Eq (.ref a) (.ref b)) _ _ s
  refine PySem.W.cmp_K (op := .Eq) (tb := .ref C) room.units0 hF
    I.ok.mod.kin J J'.type (by simp [PySem.W.notFirst]) S.at_ S.fn ?_
  refine wpAny_mono (runAt0 F room rfl S.bd I (us := [.ref a, .ref b])
    (vs := [.ref a, .ref b])
    (.cons rfl (.cons rfl .nil)) q) ?_ (fun _ _ z => z)
  rintro z s' ⟨v, H', I', rv, r, rfl, q'⟩
  cases rv
  exact ⟨.bl r, H', I', rfl, q'⟩
/-- len(x) of the class at C -/
def rLenOwn (C : Addr) (sp : Sp) : List V → Hp → VK → Prop := fun xs H Q =>
  ∃ a dx fs, xs = [.ref a] ∧ H a = some (.ins C dx fs) ∧
    sp [.ref a] H (fun v H' => ∃ n : Nat, v = .int n ∧ n < 2 ^ 60 ∧
      Q (.int n) H') E0
theorem call_lenOwn (S : Spec1 X.K C "__len__" f fd ps)
    (F : FnOk X.prog X.w X.K X.mg X.base CX0 n f fd ps sp)
    (room : Room (n + 1) X.A) :
    CallR X (.builtin "len") (rLenOwn C sp) := by
  intro pins s σ H xs us Q I r h
  obtain ⟨a, dx, fs, rfl, ha, q⟩ := h
  cases r with
  | cons rv rn =>
    cases rn
    cases rv
    obtain ⟨mA, J, _⟩ := ins_get I.hok ha
    obtain ⟨od, J, _⟩ := J.look
    obtain ⟨m, hF⟩ := I.fr
    refine PySem.W.len_K hF I.ok.mod.kin J S.at_ S.fn ?_
    refine wpAny_mono (runAt0 (A := X.A.in1) F room.in1 rfl S.bd I
      (us := [.ref a]) (vs := [.ref a]) (.cons rfl .nil) q) ?_ (fun _ _ z => z)
    rintro z s' ⟨v, H', I', rv, k, rfl, hk, q'⟩
    obtain ⟨t, rfl⟩ := rv
    exact ⟨⟨by omega, by omega⟩, .int k, H', I'.tok _, ⟨_, rfl⟩, q'⟩
/-- repr(x) of the class at C -/
def rReprOwn (C : Addr) (sp : Sp) : List V → Hp → VK → Prop := fun xs H Q =>
  ∃ a dx fs, xs = [.ref a] ∧ H a = some (.ins C dx fs) ∧
    sp [.ref a] H (fun v H' => ∃ x : Str, v = .str x ∧ Q (.str x) H') E0
theorem call_reprOwn (S : Spec1 X.K C "__repr__" f fd ps)
    (F : FnG X.prog X.w X.K X.mg X.base CX0 n f fd ps sp)
    (room : Room (n + 1) X.A) (gd : X.A.guards = some []) :
    CallR X (.builtin "repr") (rReprOwn C sp) := by
  intro pins s σ H xs us Q I r h
  obtain ⟨a, dx, fs, rfl, ha, q⟩ := h
  cases r with
  | cons rv rn =>
    cases rn
    cases rv
    obtain ⟨mA, J, _⟩ := ins_get I.hok ha
    obtain ⟨od, J, _⟩ := J.look
    obtain ⟨m, hF⟩ := I.fr
    refine PySem.W.repr_K (by have := room.units; show X.A.units + 1 < _; omega) hF I.ok.mod.kin J S.at_ S.fn ?_
    refine wpAny_mono (runAt (A := X.A.in1) F room.in1 gd rfl S.bd I
      (us := [.ref a]) (vs := [.ref a]) (.cons rfl .nil) q) ?_ (fun _ _ z => z)
    rintro z s' ⟨v, H', I', rv, x, rfl, q'⟩
    obtain ⟨t, rfl⟩ := rv
    exact ⟨.str x, H', I', ⟨_, rfl⟩, q'⟩
/-- {x!r} of data -/
def tFmtD (K : PySem.W.Frag) (te : TE) : TE := fun σ H Q =>
  te σ H fun v H1 => ∃ a d, v = .ref a ∧ Dp K H1 v d ∧ d.showable = true ∧
    d.depth ≤ 60 ∧ d.shown.length ≤ sizeLine ∧ Q (.str d.shown) H1
theorem pe_fmtD {e : Expr} {te : TE} {pos : Pos} {k : Nat}
    (room : Room k X.A) (gd : X.A.guards = some []) (he : PE X e te) :
    PE X (.FormattedValue e 114 none pos) (tFmtD X.K te) := by
  constructor
  intro pins s σ H Q I h
  refine wpAny_FormattedValue_repr (thn (he.run pins s σ H _ I h) ?_)
  rintro v s1 ⟨x, H1, I1, r1, a, d, rfl, hd, sh, dp, sz, q⟩
  cases r1
  obtain ⟨as, rd⟩ := Dp.reads I1 d _ _ hd rfl
  have un := room.units
  refine pyReprObj_of_reads rd sh (PyData.noDict_hsm (Dp.noDict _ hd)) gd
    (by omega) (fun _ _ e => e) (fun h' u tk hk => ?_) sz
  exact wpAny_formatField_str ⟨.str _, H1, I1.kept hk, ⟨_, rfl⟩, q⟩
    ⟨.str _, H1, (I1.kept (t' := tk) hk).tok _, ⟨_, rfl⟩, q⟩ sz
end
end OM
namespace OM
open PySem PySem.Spec PyProof.Rows L2
abbrev dN (ls : List (List Nat)) : List PyData := ls.map fun l => .str (SX.S l)
theorem dpAll_N {K : PySem.W.Frag} {H : Hp} : ∀ ls : List (List Nat),
    DpAll K H (ls.map vS) (dN ls)
  | [] => .nil
  | l :: r => .cons (.str _) (dpAll_N r)
theorem dp_N {K : PySem.W.Frag} {H : Hp} {a : Addr} {ls : List (List Nat)}
    (h : SqL K H a (ls.map vS)) : Dp K H (.ref a) (.list (dN ls)) :=
  .lst h (dpAll_N ls)
theorem eqv_N : ∀ ls ms : List (List Nat),
    PyData.eqvAll (dN ls) (dN ms) = decide (ls = ms)
  | [], [] => by simp [PyData.eqvAll]
  | [], m :: ms => by simp [PyData.eqvAll]
  | l :: ls, [] => by simp [PyData.eqvAll]
  | l :: ls, m :: ms => by
    have ih := eqv_N ls ms
    show (PyData.eqv (.str (SX.S l)) (.str (SX.S m)) &&
      PyData.eqvAll (dN ls) (dN ms)) = _
    rw [ih]
    unfold PyData.eqv
    rw [SX.S_beq_eq]
    by_cases e : l = m
    · subst e
      simp
    · have : ¬ (l :: ls = m :: ms) := fun z => e (List.cons.inj z).1
      rw [decide_eq_false e, decide_eq_false this]
      rfl
theorem eqv_L (ls ms : List (List Nat)) :
    PyData.eqv (.list (dN ls)) (.list (dN ms)) = decide (ls = ms) := by
  rw [show PyData.eqv (.list (dN ls)) (.list (dN ms)) =
    PyData.eqvAll (dN ls) (dN ms) by simp only [PyData.eqv]]
  exact eqv_N ls ms
/-- texts of Unicode's codes -/
def Uni (ls : List (List Nat)) : Prop := ∀ l ∈ ls, ∀ c ∈ l, c < 1114112
theorem lay_N : ∀ ls : List (List Nat), Uni ls →
    PyData.canLayAll0 (dN ls) = true
  | [], _ => by simp [PyData.canLayAll0]
  | l :: ls, h => by
    have ih := lay_N ls fun x hx => h x (List.mem_cons_of_mem _ hx)
    have ok : PyData.strOk (SX.S l) = true := by
      unfold PyData.strOk
      rw [Array.all_eq_true]
      intro i hi
      have := h l List.mem_cons_self l.toArray[i] (by simp)
      exact decide_eq_true this
    show PyData.canLayAll0 (.str (SX.S l) :: dN ls) = true
    simp only [PyData.canLayAll0, PyData.canLay0, ih, ok, Bool.and_self]
theorem depth_N : ∀ ls : List (List Nat), PyData.depthAll (dN ls) ≤ 1
  | [] => by simp [PyData.depthAll]
  | l :: ls => by
    have ih := depth_N ls
    show PyData.depthAll (.str (SX.S l) :: dN ls) ≤ 1
    simp only [PyData.depthAll, PyData.depth]
    omega
theorem depth_L (ls : List (List Nat)) : (PyData.list (dN ls)).depth ≤ 2 := by
  simp only [PyData.depth]
  have := depth_N ls
  omega
theorem shaped_L {ls : List (List Nat)} (h : Uni ls) :
    SeqAt.shaped (.list (dN ls)) = true := by
  unfold SeqAt.shaped
  rw [show PyData.canLay0 (.list (dN ls)) = PyData.canLayAll0 (dN ls) by
    simp only [PyData.canLay0], lay_N ls h]
  have := depth_L ls
  exact decide_eq_true (by omega)
theorem showable_N : ∀ ls : List (List Nat), PyData.showableAll (dN ls) = true
  | [] => by simp [PyData.showableAll]
  | l :: ls => by
    have ih := showable_N ls
    show PyData.showableAll (.str (SX.S l) :: dN ls) = true
    simp only [PyData.showableAll, PyData.showable, ih, Bool.and_self]
theorem showable_L (ls : List (List Nat)) :
    (PyData.list (dN ls)).showable = true := by
  simp only [PyData.showable]
  exact showable_N ls
/-- short lists of short texts are shown shortly -/
theorem piled_N : ∀ (ls : List (List Nat)) (m : Nat),
    (∀ l ∈ ls, l.length ≤ m ∧ ∀ c ∈ l, c < 1114112) →
    piled (PyData.shownAll (dN ls)) ≤ ls.length * (10 * m + 4)
  | [], _, _ => by
    show piled (PyData.shownAll []) ≤ _
    simp only [PyData.shownAll]
    exact Nat.zero_le _
  | l :: ls, m, h => by
    have ih := piled_N ls m fun x hx => h x (List.mem_cons_of_mem _ hx)
    obtain ⟨h1, h2⟩ := h l List.mem_cons_self
    have h3 := StrLaws.reprText_len (SX.S l) (fun c hc => Nat.lt_of_lt_of_le
      (h2 c hc) (by decide))
    have h4 : (SX.S l).length = l.length := SX.S_len l
    have h5 : (reprText (SX.S l)).length ≤ 10 * m + 2 := by
      refine Nat.le_trans h3 ?_
      rw [h4]
      omega
    show piled (PyData.shownAll (.str (SX.S l) :: dN ls)) ≤ _
    simp only [PyData.shownAll, PyData.shown]
    rw [piled_cons, List.length_cons, Nat.add_mul]
    omega
theorem shown_L {ls : List (List Nat)} {m : Nat} (hn : ls.length ≤ 1000)
    (hm : m ≤ 1000) (h : ∀ l ∈ ls, l.length ≤ m ∧ ∀ c ∈ l, c < 1114112) :
    (PyData.list (dN ls)).shown.length ≤ sizeLine := by
  have p := piled_N ls m h
  have e : (PyData.list (dN ls)).shown =
      listText (PyData.shownAll (dN ls)) := by simp only [PyData.shown]
  rw [e]
  have q := listText_len_le (PyData.shownAll (dN ls))
  have r : ((PyData.shownAll (dN ls)).map (·.length)).sum +
      2 * (PyData.shownAll (dN ls)).length =
      piled (PyData.shownAll (dN ls)) := by
    generalize PyData.shownAll (dN ls) = ts
    induction ts with
    | nil => rfl
    | cons t ts ih =>
      rw [piled_cons, List.map_cons, List.sum_cons, List.length_cons]
      omega
  have s : ls.length * (10 * m + 4) ≤ 1000 * 10004 :=
    Nat.mul_le_mul hn (by omega)
  refine Nat.le_trans (show _ ≤ 10004003 by omega) (by decide)
end OM
namespace OM
open PySem PySem.Spec PyProof.Rows L2
/-- what a comprehension walks, whatever its turn does -/
theorem walkW {J : It} {n : Nat} {G : Hp → Prop}
    {Y : Nat → Hp → V → Hp → Prop} (wk : Walk J n G Y) {H0 : Hp}
    {Qd : Hp → Prop} {body : V → Hp → (Hp → Prop) → Prop}
    (Pv : Nat → Hp → Prop) (h0 : Pv 0 H0) (hG : ∀ i H, i ≤ n → Pv i H → G H)
    (hs : ∀ i x H H', i < n → Pv i H → Y i H x H' → body x H' (Pv (i + 1)))
    (hd : ∀ H, Pv n H → Qd H) :
    ∃ W : Nat → Nat → Hp → Prop, (∃ m, W 0 m H0) ∧
      ∀ i m H, W i m H → (J.stop i H ∧ Qd H) ∨ (J.go i H ∧
        ∃ Nx : Hp → Prop, (∀ H', Nx H' → ∃ m', m' < m ∧ W (i + 1) m' H') ∧
        ∀ x H', J.yld i H x H' → body x H' Nx) := by
  refine ⟨fun i m H => m + i = n ∧ Pv i H, ⟨n, rfl, h0⟩, ?_⟩
  rintro i m H ⟨e, p⟩
  have q := hG i H (by omega) p
  rcases Nat.lt_or_ge i n with lt | ge
  · exact .inr ⟨wk.goes i H lt q, Pv (i + 1),
      fun H' p' => ⟨m - 1, by omega, by omega, p'⟩,
      fun x H' y => hs i x H H' lt p (wk.yields i H x H' lt q y)⟩
  · have e' : i = n := by omega
    subst e'
    exact .inl ⟨wk.stops H q, hd H p⟩
/-! ### pairs of names -/
abbrev Pr := List Nat × List Nat
abbrev vT (p : Pr) : List V := [vS p.1, vS p.2]
def PrsAt (H : Hp) (rs : List Addr) (ps : List Pr) : Prop :=
  Paired (fun r p => H r = some (.tup (vT p))) rs ps
theorem PrsAt.same {H H' : Hp} : ∀ {rs : List Addr} {ps : List Pr},
    PrsAt H rs ps → Same H H' → PrsAt H' rs ps
  | _, _, .nil, _ => .nil
  | _, _, .cons h t, s => .cons (s _ _ h) (PrsAt.same t s)
theorem PrsAt.snoc {H : Hp} {r : Addr} {p : Pr} (h : H r = some (.tup (vT p))) :
    ∀ {rs : List Addr} {ps : List Pr}, PrsAt H rs ps →
      PrsAt H (rs ++ [r]) (ps ++ [p])
  | _, _, .nil => .cons h .nil
  | _, _, .cons a t => .cons a (PrsAt.snoc h t)
theorem PrsAt.app {H : Hp} {qs : List Addr} {us : List Pr}
    (h : PrsAt H qs us) : ∀ {rs : List Addr} {ps : List Pr}, PrsAt H rs ps →
      PrsAt H (rs ++ qs) (ps ++ us)
  | _, _, .nil => h
  | _, _, .cons a t => .cons a (PrsAt.app h t)
theorem PrsAt.len {H : Hp} : ∀ {rs : List Addr} {ps : List Pr},
    PrsAt H rs ps → rs.length = ps.length
  | _, _, .nil => rfl
  | _, _, .cons _ t => congrArg (· + 1) (PrsAt.len t)
abbrev dT (p : Pr) : PyData := .tuple [.str (SX.S p.1), .str (SX.S p.2)]
abbrev dP (ps : List Pr) : List PyData := ps.map dT
theorem dp_T {K : PySem.W.Frag} {H : Hp} {r : Addr} {p : Pr}
    (h : H r = some (.tup (vT p))) : Dp K H (.ref r) (dT p) :=
  .tup (SqT.of h) (.cons (.str _) (.cons (.str _) .nil))
theorem dpAll_P {K : PySem.W.Frag} {H : Hp} : ∀ {rs : List Addr}
    {ps : List Pr}, PrsAt H rs ps → DpAll K H (rs.map V.ref) (dP ps)
  | _, _, .nil => .nil
  | _, _, .cons h t => .cons (dp_T h) (dpAll_P t)
theorem dp_P {K : PySem.W.Frag} {H : Hp} {a : Addr} {rs : List Addr}
    {ps : List Pr} (h : SqL K H a (rs.map V.ref)) (p : PrsAt H rs ps) :
    Dp K H (.ref a) (.list (dP ps)) := .lst h (dpAll_P p)
theorem eqv_T (p q : Pr) : PyData.eqv (dT p) (dT q) = decide (p = q) := by
  obtain ⟨a, b⟩ := p
  obtain ⟨c, d⟩ := q
  show PyData.eqv (.tuple [.str (SX.S a), .str (SX.S b)])
    (.tuple [.str (SX.S c), .str (SX.S d)]) = _
  simp only [PyData.eqv, PyData.eqvAll, SX.S_beq_eq, Bool.and_true]
  by_cases e : a = c
  · by_cases f : b = d
    · subst e; subst f; simp
    · simp [e, f]
  · simp [e]
theorem eqv_PA : ∀ ps qs : List Pr,
    PyData.eqvAll (dP ps) (dP qs) = decide (ps = qs)
  | [], [] => by simp [PyData.eqvAll]
  | [], m :: ms => by simp [PyData.eqvAll]
  | l :: ls, [] => by simp [PyData.eqvAll]
  | l :: ls, m :: ms => by
    have ih := eqv_PA ls ms
    show (PyData.eqv (dT l) (dT m) && PyData.eqvAll (dP ls) (dP ms)) = _
    rw [ih, eqv_T]
    by_cases e : l = m
    · subst e
      simp
    · have : ¬ (l :: ls = m :: ms) := fun z => e (List.cons.inj z).1
      rw [decide_eq_false e, decide_eq_false this]
      rfl
theorem eqv_P (ps qs : List Pr) :
    PyData.eqv (.list (dP ps)) (.list (dP qs)) = decide (ps = qs) := by
  rw [show PyData.eqv (.list (dP ps)) (.list (dP qs)) =
    PyData.eqvAll (dP ps) (dP qs) by simp only [PyData.eqv]]
  exact eqv_PA ps qs
theorem any_P (q : Pr) : ∀ ps : List Pr,
    ((dP ps).any fun z => PyData.eqv z (dT q)) = decide (q ∈ ps)
  | [] => by simp
  | p :: ps => by
    have ih := any_P q ps
    rw [show dP (p :: ps) = dT p :: dP ps from rfl, List.any_cons, ih, eqv_T]
    by_cases e : p = q
    · subst e
      simp
    · have ne : ¬ q = p := fun z => e z.symm
      simp [e, ne]
/-- names in pairs -/
def UniP (ps : List Pr) : Prop := ∀ p ∈ ps,
  (p.1.length ≤ 8 ∧ ∀ c ∈ p.1, c < 1114112) ∧
  (p.2.length ≤ 8 ∧ ∀ c ∈ p.2, c < 1114112)
theorem strOkS {l : List Nat} (h : ∀ c ∈ l, c < 1114112) :
    PyData.strOk (SX.S l) = true := by
  unfold PyData.strOk
  rw [Array.all_eq_true]
  intro i hi
  have := h l.toArray[i] (by simp)
  exact decide_eq_true this
theorem lay_T {p : Pr} (h1 : ∀ c ∈ p.1, c < 1114112)
    (h2 : ∀ c ∈ p.2, c < 1114112) : PyData.canLay0 (dT p) = true := by
  simp only [PyData.canLay0, PyData.canLayAll0, strOkS h1, strOkS h2,
    Bool.and_self]
theorem lay_P : ∀ ps : List Pr, UniP ps → PyData.canLayAll0 (dP ps) = true
  | [], _ => by simp [PyData.canLayAll0]
  | p :: ps, h => by
    have ih := lay_P ps fun x hx => h x (List.mem_cons_of_mem _ hx)
    have hp := h p List.mem_cons_self
    show PyData.canLayAll0 (dT p :: dP ps) = true
    rw [show PyData.canLayAll0 (dT p :: dP ps) =
      (PyData.canLay0 (dT p) && PyData.canLayAll0 (dP ps)) by
        simp only [PyData.canLayAll0], ih, lay_T hp.1.2 hp.2.2]
    rfl
theorem depth_T (p : Pr) : (dT p).depth ≤ 2 := by
  simp only [PyData.depth, PyData.depthAll]
  omega
theorem depth_PA : ∀ ps : List Pr, PyData.depthAll (dP ps) ≤ 2
  | [] => by simp [PyData.depthAll]
  | p :: ps => by
    have ih := depth_PA ps
    have h := depth_T p
    show PyData.depthAll (dT p :: dP ps) ≤ 2
    rw [show PyData.depthAll (dT p :: dP ps) =
      max (dT p).depth (PyData.depthAll (dP ps)) by
        simp only [PyData.depthAll]]
    omega
theorem depth_P (ps : List Pr) : (PyData.list (dP ps)).depth ≤ 3 := by
  rw [show (PyData.list (dP ps)).depth = PyData.depthAll (dP ps) + 1 by
    simp only [PyData.depth]]
  have := depth_PA ps
  omega
theorem shaped_T {p : Pr} (h1 : ∀ c ∈ p.1, c < 1114112)
    (h2 : ∀ c ∈ p.2, c < 1114112) : SeqAt.shaped (dT p) = true := by
  unfold SeqAt.shaped
  rw [lay_T h1 h2]
  have := depth_T p
  exact decide_eq_true (by omega)
theorem shaped_P {ps : List Pr} (h : UniP ps) :
    SeqAt.shaped (.list (dP ps)) = true := by
  unfold SeqAt.shaped
  rw [show PyData.canLay0 (.list (dP ps)) = PyData.canLayAll0 (dP ps) by
    simp only [PyData.canLay0], lay_P ps h]
  have := depth_P ps
  exact decide_eq_true (by omega)
theorem showable_P : ∀ ps : List Pr, PyData.showableAll (dP ps) = true
  | [] => by simp [PyData.showableAll]
  | p :: ps => by
    have ih := showable_P ps
    show PyData.showableAll (dT p :: dP ps) = true
    simp only [PyData.showableAll, PyData.showable, ih, Bool.and_self]
theorem showable_PL (ps : List Pr) : (PyData.list (dP ps)).showable = true := by
  rw [show (PyData.list (dP ps)).showable = PyData.showableAll (dP ps) by
    simp only [PyData.showable]]
  exact showable_P ps
theorem shown_T {p : Pr} (h1 : p.1.length ≤ 8 ∧ ∀ c ∈ p.1, c < 1114112)
    (h2 : p.2.length ≤ 8 ∧ ∀ c ∈ p.2, c < 1114112) :
    (dT p).shown.length ≤ 200 := by
  have e : (dT p).shown = tupleText [reprText (SX.S p.1),
    reprText (SX.S p.2)] := by simp only [PyData.shown, PyData.shownAll]
  rw [e]
  have t := fmt_text [reprText (SX.S p.1), reprText (SX.S p.2)]
  rw [piled_cons, piled_cons, piled_nil] at t
  have a := StrLaws.reprText_len (SX.S p.1) (fun c hc => Nat.lt_of_lt_of_le
    (h1.2 c hc) (by decide))
  have b := StrLaws.reprText_len (SX.S p.2) (fun c hc => Nat.lt_of_lt_of_le
    (h2.2 c hc) (by decide))
  have c : (SX.S p.1).length = p.1.length := SX.S_len _
  have d : (SX.S p.2).length = p.2.length := SX.S_len _
  rw [c] at a
  rw [d] at b
  omega
theorem shown_PA : ∀ (ps : List Pr), UniP ps →
    piled (PyData.shownAll (dP ps)) ≤ ps.length * 202
  | [], _ => by
    show piled (PyData.shownAll []) ≤ _
    simp only [PyData.shownAll]
    exact Nat.zero_le _
  | p :: ps, h => by
    have ih := shown_PA ps fun x hx => h x (List.mem_cons_of_mem _ hx)
    have hp := h p List.mem_cons_self
    have t := shown_T hp.1 hp.2
    show piled (PyData.shownAll (dT p :: dP ps)) ≤ _
    rw [show PyData.shownAll (dT p :: dP ps) =
      (dT p).shown :: PyData.shownAll (dP ps) by simp only [PyData.shownAll],
      piled_cons, List.length_cons, Nat.add_mul]
    omega
theorem shown_P {ps : List Pr} (h : UniP ps) (hn : ps.length ≤ 2000) :
    (PyData.list (dP ps)).shown.length ≤ sizeLine := by
  have p := shown_PA ps h
  have e : (PyData.list (dP ps)).shown =
      listText (PyData.shownAll (dP ps)) := by simp only [PyData.shown]
  rw [e]
  have q := listText_len_le (PyData.shownAll (dP ps))
  have r : ((PyData.shownAll (dP ps)).map (·.length)).sum +
      2 * (PyData.shownAll (dP ps)).length =
      piled (PyData.shownAll (dP ps)) := by
    generalize PyData.shownAll (dP ps) = ts
    induction ts with
    | nil => rfl
    | cons t ts ih =>
      rw [piled_cons, List.map_cons, List.sum_cons, List.length_cons]
      omega
  refine Nat.le_trans (show _ ≤ 404003 by omega) (by decide)
/-! ### the inverted pairs -/
def invF (os : List (List Nat)) (f : List Nat) (r : List (List Nat)) :
    List Pr :=
  (r.filter fun s => decide (os.idxOf s < os.idxOf f)).map fun s => (f, s)
def invTo (ls os : List (List Nat)) : Nat → List Pr
  | 0 => []
  | i + 1 => invTo ls os i ++ match ls[i]? with
    | some f => invF os f (ls.drop (i + 1))
    | none => []
def invAll (ls os : List (List Nat)) : List Pr := invTo ls os ls.length
theorem invF_mem {os : List (List Nat)} {f : List Nat} {r : List (List Nat)}
    {p : Pr} : p ∈ invF os f r ↔ p.1 = f ∧ p.2 ∈ r ∧
      os.idxOf p.2 < os.idxOf f := by
  unfold invF
  obtain ⟨a, b⟩ := p
  simp only [List.mem_map, List.mem_filter, decide_eq_true_eq, Prod.mk.injEq]
  constructor
  · rintro ⟨x, ⟨h1, h2⟩, rfl, rfl⟩
    exact ⟨rfl, h1, h2⟩
  · rintro ⟨rfl, h1, h2⟩
    exact ⟨b, ⟨h1, h2⟩, rfl, rfl⟩
theorem invTo_mem {ls os : List (List Nat)} {p : Pr} : ∀ {i : Nat},
    p ∈ invTo ls os i ↔ ∃ j < i, ls[j]? = some p.1 ∧ p.2 ∈ ls.drop (j + 1) ∧
      os.idxOf p.2 < os.idxOf p.1
  | 0 => by simp [invTo]
  | i + 1 => by
    have ih := invTo_mem (ls := ls) (os := os) (p := p) (i := i)
    show p ∈ invTo ls os i ++ _ ↔ _
    rw [List.mem_append, ih]
    constructor
    · rintro (⟨j, hj, h⟩ | h)
      · exact ⟨j, by omega, h⟩
      · cases e : ls[i]? with
        | none => rw [e] at h; cases h
        | some f =>
          rw [e] at h
          obtain ⟨h1, h2, h3⟩ := invF_mem.mp h
          exact ⟨i, by omega, by rw [h1]; exact e, h2, by rw [h1]; exact h3⟩
    · rintro ⟨j, hj, h1, h2, h3⟩
      by_cases e : j = i
      · subst e
        refine .inr ?_
        rw [h1]
        exact invF_mem.mpr ⟨rfl, h2, h3⟩
      · exact .inl ⟨j, by omega, h1, h2, h3⟩
theorem invF_len (os : List (List Nat)) (f : List Nat) (r : List (List Nat)) :
    (invF os f r).length ≤ r.length := by
  unfold invF
  rw [List.length_map]
  exact List.length_filter_le _ _
theorem invTo_len (ls os : List (List Nat)) : ∀ i, i ≤ ls.length →
    (invTo ls os i).length ≤ i * ls.length
  | 0, _ => Nat.zero_le _
  | i + 1, h => by
    have ih := invTo_len ls os i (by omega)
    show (invTo ls os i ++ _).length ≤ _
    rw [List.length_append, Nat.add_mul]
    have : (match ls[i]? with
      | some f => invF os f (ls.drop (i + 1))
      | none => []).length ≤ ls.length := by
      cases ls[i]? with
      | none => exact Nat.zero_le _
      | some f =>
        refine Nat.le_trans (invF_len _ _ _) ?_
        rw [List.length_drop]
        omega
    omega
end OM
namespace OM
open PySem PySem.Spec PyProof.Rows L2
def topS (i : Nat) : Stmt :=
  PySem.Challenge.pw_ordermerge_k14_whole_inverted_pairs.main.body.getD i
    (.Pass ⟨0, 0, 0, 0⟩)
abbrev s_InvalidBase_init : Stmt := inClass (topS 2) 0
abbrev N_InvalidBase_init : List Str := ["self", "problem", "position"]
theorem sc_InvalidBase_init : FnScope N_InvalidBase_init
    ["self", "problem", "position"] (defScope s_InvalidBase_init) :=
  ⟨rfl, rfl, rfl, by decide +kernel, rfl,
    by decide +kernel, by decide +kernel⟩
abbrev s_InvalidOrder_init : Stmt := inClass (topS 3) 0
abbrev N_InvalidOrder_init : List Str := ["self", "position"]
theorem sc_InvalidOrder_init : FnScope N_InvalidOrder_init
    ["self", "position"] (defScope s_InvalidOrder_init) :=
  ⟨rfl, rfl, rfl, by decide +kernel, rfl,
    by decide +kernel, by decide +kernel⟩
abbrev s_UnknownItem_init : Stmt := inClass (topS 4) 0
abbrev N_UnknownItem_init : List Str := ["self", "value"]
theorem sc_UnknownItem_init : FnScope N_UnknownItem_init
    ["self", "value"] (defScope s_UnknownItem_init) :=
  ⟨rfl, rfl, rfl, by decide +kernel, rfl,
    by decide +kernel, by decide +kernel⟩
abbrev s_is_name : Stmt := topS 8
abbrev N_is_name : List Str := ["value", "letter"]
theorem sc_is_name : FnScope N_is_name
    ["value"] (defScope s_is_name) :=
  ⟨rfl, rfl, rfl, by decide +kernel, rfl,
    by decide +kernel, by decide +kernel⟩
abbrev s_names_fault : Stmt := topS 9
abbrev N_names_fault : List Str := ["value", "most", "seen", "at", "name"]
theorem sc_names_fault : FnScope N_names_fault
    ["value", "most"] (defScope s_names_fault) :=
  ⟨rfl, rfl, rfl, by decide +kernel, rfl,
    by decide +kernel, by decide +kernel⟩
abbrev s_check_items : Stmt := topS 10
abbrev N_check_items : List Str := ["items", "fault", "problem", "position"]
theorem sc_check_items : FnScope N_check_items
    ["items"] (defScope s_check_items) :=
  ⟨rfl, rfl, rfl, by decide +kernel, rfl,
    by decide +kernel, by decide +kernel⟩
abbrev s_Base_init : Stmt := inClass (topS 11) 0
abbrev N_Base_init : List Str := ["self", "items", "name", "at"]
theorem sc_Base_init : FnScope N_Base_init
    ["self", "items"] (defScope s_Base_init) :=
  ⟨rfl, rfl, rfl, by decide +kernel, rfl,
    by decide +kernel, by decide +kernel⟩
abbrev s_Base_eq : Stmt := inClass (topS 11) 1
abbrev N_Base_eq : List Str := ["self", "other"]
theorem sc_Base_eq : FnScope N_Base_eq
    ["self", "other"] (defScope s_Base_eq) :=
  ⟨rfl, rfl, rfl, by decide +kernel, rfl,
    by decide +kernel, by decide +kernel⟩
abbrev s_Base_len : Stmt := inClass (topS 11) 2
abbrev N_Base_len : List Str := ["self"]
theorem sc_Base_len : FnScope N_Base_len
    ["self"] (defScope s_Base_len) :=
  ⟨rfl, rfl, rfl, by decide +kernel, rfl,
    by decide +kernel, by decide +kernel⟩
abbrev s_Base_repr : Stmt := inClass (topS 11) 3
abbrev N_Base_repr : List Str := ["self"]
theorem sc_Base_repr : FnScope N_Base_repr
    ["self"] (defScope s_Base_repr) :=
  ⟨rfl, rfl, rfl, by decide +kernel, rfl,
    by decide +kernel, by decide +kernel⟩
abbrev s_Base_names : Stmt := inClass (topS 11) 4
abbrev N_Base_names : List Str := ["self"]
theorem sc_Base_names : FnScope N_Base_names
    ["self"] (defScope s_Base_names) :=
  ⟨rfl, rfl, rfl, by decide +kernel, rfl,
    by decide +kernel, by decide +kernel⟩
abbrev s_Base_has_item : Stmt := inClass (topS 11) 5
abbrev N_Base_has_item : List Str := ["self", "value"]
theorem sc_Base_has_item : FnScope N_Base_has_item
    ["self", "value"] (defScope s_Base_has_item) :=
  ⟨rfl, rfl, rfl, by decide +kernel, rfl,
    by decide +kernel, by decide +kernel⟩
abbrev s_Base_position_of : Stmt := inClass (topS 11) 6
abbrev N_Base_position_of : List Str := ["self", "item"]
theorem sc_Base_position_of : FnScope N_Base_position_of
    ["self", "item"] (defScope s_Base_position_of) :=
  ⟨rfl, rfl, rfl, by decide +kernel, rfl,
    by decide +kernel, by decide +kernel⟩
abbrev s_Base_precedes : Stmt := inClass (topS 11) 7
abbrev N_Base_precedes : List Str := ["self", "first", "second"]
theorem sc_Base_precedes : FnScope N_Base_precedes
    ["self", "first", "second"] (defScope s_Base_precedes) :=
  ⟨rfl, rfl, rfl, by decide +kernel, rfl,
    by decide +kernel, by decide +kernel⟩
abbrev s_order_fault : Stmt := topS 12
abbrev N_order_fault : List Str := ["base", "value", "at", "name"]
theorem sc_order_fault : FnScope N_order_fault
    ["base", "value"] (defScope s_order_fault) :=
  ⟨rfl, rfl, rfl, by decide +kernel, rfl,
    by decide +kernel, by decide +kernel⟩
abbrev s_check_order : Stmt := topS 13
abbrev N_check_order : List Str := ["base", "order", "fault"]
theorem sc_check_order : FnScope N_check_order
    ["base", "order"] (defScope s_check_order) :=
  ⟨rfl, rfl, rfl, by decide +kernel, rfl,
    by decide +kernel, by decide +kernel⟩
abbrev s_is_order : Stmt := topS 14
abbrev N_is_order : List Str := ["base", "value"]
theorem sc_is_order : FnScope N_is_order
    ["base", "value"] (defScope s_is_order) :=
  ⟨rfl, rfl, rfl, by decide +kernel, rfl,
    by decide +kernel, by decide +kernel⟩
abbrev s_is_inverted : Stmt := topS 15
abbrev N_is_inverted : List Str := ["base", "order", "first", "second", "before_in_base", "before_in_order"]
theorem sc_is_inverted : FnScope N_is_inverted
    ["base", "order", "first", "second"] (defScope s_is_inverted) :=
  ⟨rfl, rfl, rfl, by decide +kernel, rfl,
    by decide +kernel, by decide +kernel⟩
abbrev s_inverted_pairs : Stmt := topS 16
abbrev N_inverted_pairs : List Str := ["base", "order", "places", "name", "at", "names", "first", "second"]
theorem sc_inverted_pairs : FnScope N_inverted_pairs
    ["base", "order"] (defScope s_inverted_pairs) :=
  ⟨rfl, rfl, rfl, by decide +kernel, rfl,
    by decide +kernel, by decide +kernel⟩
abbrev s_Lrng : Stmt := topS 18
abbrev N_Lrng : List Str := ["_law_script", "_law_k", "_law_cell"]
theorem sc_Lrng : FnScope N_Lrng
    ["_law_script", "_law_k"] (defScope s_Lrng) :=
  ⟨rfl, rfl, rfl, by decide +kernel, rfl,
    by decide +kernel, by decide +kernel⟩
abbrev s_Ldraw : Stmt := topS 19
abbrev N_Ldraw : List Str := ["_law_rng_here", "_law_many", "_law_digit"]
theorem sc_Ldraw : FnScope N_Ldraw
    ["_law_rng_here", "_law_many"] (defScope s_Ldraw) :=
  ⟨rfl, rfl, rfl, by decide +kernel, rfl,
    by decide +kernel, by decide +kernel⟩
abbrev s_Lchoice : Stmt := topS 20
abbrev N_Lchoice : List Str := ["_law_rng_here", "_law_options"]
theorem sc_Lchoice : FnScope N_Lchoice
    ["_law_rng_here", "_law_options"] (defScope s_Lchoice) :=
  ⟨rfl, rfl, rfl, by decide +kernel, rfl,
    by decide +kernel, by decide +kernel⟩
abbrev s_Lname : Stmt := topS 21
abbrev N_Lname : List Str := ["_law_rng_here", "_law_used", "_law_letters", "_law_length", "_law_name_here", "_law_k", "_law_fresh", "_law_one"]
theorem sc_Lname : FnScope N_Lname
    ["_law_rng_here", "_law_used"] (defScope s_Lname) :=
  ⟨rfl, rfl, rfl, by decide +kernel, rfl,
    by decide +kernel, by decide +kernel⟩
abbrev s_Lnames : Stmt := topS 22
abbrev N_Lnames : List Str := ["_law_rng_here", "_law_many", "_law_used", "_law_result", "_law_k"]
theorem sc_Lnames : FnScope N_Lnames
    ["_law_rng_here", "_law_many", "_law_used"] (defScope s_Lnames) :=
  ⟨rfl, rfl, rfl, by decide +kernel, rfl,
    by decide +kernel, by decide +kernel⟩
abbrev s_Lshuffled : Stmt := topS 23
abbrev N_Lshuffled : List Str := ["_law_rng_here", "_law_values", "_law_pool", "_law_k"]
theorem sc_Lshuffled : FnScope N_Lshuffled
    ["_law_rng_here", "_law_values"] (defScope s_Lshuffled) :=
  ⟨rfl, rfl, rfl, by decide +kernel, rfl,
    by decide +kernel, by decide +kernel⟩
abbrev s_Lnear_order : Stmt := topS 24
abbrev N_Lnear_order : List Str := ["_law_rng_here", "_law_order", "_law_many", "_law_result", "_law_turn", "_law_k"]
theorem sc_Lnear_order : FnScope N_Lnear_order
    ["_law_rng_here", "_law_order", "_law_many"] (defScope s_Lnear_order) :=
  ⟨rfl, rfl, rfl, by decide +kernel, rfl,
    by decide +kernel, by decide +kernel⟩
abbrev s_Linverted : Stmt := topS 25
abbrev N_Linverted : List Str := ["_law_items", "_law_order", "_law_place", "_law_item", "_law_k", "_law_result", "_law_first", "_law_second"]
theorem sc_Linverted : FnScope N_Linverted
    ["_law_items", "_law_order"] (defScope s_Linverted) :=
  ⟨rfl, rfl, rfl, by decide +kernel, rfl,
    by decide +kernel, by decide +kernel⟩
abbrev s_Lrandom_order : Stmt := topS 26
abbrev N_Lrandom_order : List Str := ["_law_rng_here", "_law_items"]
theorem sc_Lrandom_order : FnScope N_Lrandom_order
    ["_law_rng_here", "_law_items"] (defScope s_Lrandom_order) :=
  ⟨rfl, rfl, rfl, by decide +kernel, rfl,
    by decide +kernel, by decide +kernel⟩
abbrev s_Lpairs_right : Stmt := topS 27
abbrev N_Lpairs_right : List Str := ["_law_rng_here", "_law_base", "_law_items", "_law_order", "_law_due", "_law_turn", "_law_first", "_law_second", "_law_pair", "_law_results"]
theorem sc_Lpairs_right : FnScope N_Lpairs_right
    ["_law_rng_here", "_law_base", "_law_items", "_law_order", "_law_due"] (defScope s_Lpairs_right) :=
  ⟨rfl, rfl, rfl, by decide +kernel, rfl,
    by decide +kernel, by decide +kernel⟩
abbrev s_Lcheck : Stmt := topS 28
abbrev N_Lcheck : List Str := ["_law_rng_here", "_law_base", "_law_items", "_law_order", "_law_due", "_law_kept", "_law_turn", "_law_actual"]
theorem sc_Lcheck : FnScope N_Lcheck
    ["_law_rng_here", "_law_base", "_law_items", "_law_order"] (defScope s_Lcheck) :=
  ⟨rfl, rfl, rfl, by decide +kernel, rfl,
    by decide +kernel, by decide +kernel⟩
abbrev s_law : Stmt := topS 29
abbrev N_law : List Str := ["_law_script", "_law_k", "_law_rng_here", "_law_items", "_law_base", "_law_orders", "_law_order"]
theorem sc_law : FnScope N_law
    ["_law_script"] (defScope s_law) :=
  ⟨rfl, rfl, rfl, by decide +kernel, rfl,
    by decide +kernel, by decide +kernel⟩
end OM
namespace OM
open PySem PySem.Spec PyProof.Rows L2
section
variable {P : Program} {w : World} {K : PySem.W.Frag}
  {mg : Str → Option Value} {base : Heap}
theorem at0 (x y : V) : atI [x, y] 0 = some x := atI_nat (j := 0) rfl
theorem at1 (x y : V) : atI [x, y] 1 = some y := atI_nat (j := 1) rfl
theorem ok_draw {f : Addr} {fd : FuncData} {k : Nat}
    (F : Fun K "_law_draw" "_law_draw" s_Ldraw f fd) (B : Bl mg) :
    FnOk P w K mg base CX0 (k + 1) f fd ["_law_rng_here", "_law_many"]
      spDraw := by
  refine F.ok sc_Ldraw (fun vs H Q E h => ?_)
    (fun cv A outer s H vs Q E hr h => ?_)
  · obtain ⟨p, m, rfl, _⟩ := h
    rfl
  obtain ⟨p, m, rfl, rg, m0, m1, q⟩ := h
  obtain ⟨a, b, hp, a0, b0, b1⟩ := rg
  have nd := sc_Ldraw.nd
  refine ⟨_, pss_cons (ps_if (pt_cmpR op_gt
      (pe_ix ix_list (pv 0) pe_int (fun _ _ => rfl)) pe_int (nomark _))
      (pss_cons (ps_asg (pe_callB call_divmod (by rfl) B.divmod bt_divmod
          (pa_cons (pe_ix ix_list (pv 0) pe_int (fun _ _ => rfl))
            (pa_cons (pv 1) pa_nil)))
        (pg_tup rfl (pgs_cons (pg_sub (pv 0) pe_int set_list)
          (pgs_cons (pg_name (i := 2) nd rfl (.inl rfl)) pgs_nil))))
        (pss_one (ps_ret (pv 2)))) pss_nil)
    (pss_cons (ps_asg (pe_op op_mod (pe_op op_add (pe_op op_mul
        (pe_ix ix_list (pv 0) pe_int (fun _ _ => rfl)) pe_int) pe_int) pe_int)
        (pg_sub (pv 0) pe_int set_list))
    (pss_one (ps_ret (pe_op op_mod (pe_op op_fdiv (pe_op op_mod (pe_op op_mul
        (pe_ix ix_list (pv 0) pe_int (fun _ _ => rfl))
        (pe_ix ix_list (pv 0) pe_int (fun _ _ => rfl))) pe_int) pe_int)
        (pv 1))))), ?_⟩
  refine ⟨_, rfl, p, _, 0, _, rfl, rfl, SqL.of hp, at0 _ _, _, _, rfl, rfl,
    _, rfl, ite2 (fun c => ?_) (fun c => ?_)⟩
  · have c' : 0 < a := of_decide_eq_true c
    refine ⟨_, rfl, p, _, 0, _, rfl, rfl, SqL.of hp, at0 _ _, _, rfl, a, m,
      rfl, ⟨m0, by omega⟩, fun t nt => ?_⟩
    have nt' : p ≠ t := ne_of_none hp nt
    have hp' : (upd H t (.tup [.int (a / m), .int (a % m)])) p =
        some (.lst [.int a, .int b]) := by rw [upd_ne nt']; exact hp
    refine ⟨t, _, rfl, .inl (.inl upd_same), rfl, _, _, rfl, _, rfl, p, _, 0,
      0, rfl, rfl, hp', rfl, _, _, rfl, rfl, _, rfl, ?_⟩
    refine q _ _ (Int.emod_nonneg _ (by omega)) (Int.emod_lt_of_pos _ m0)
      ⟨a / m, b, upd_same, Int.ediv_nonneg a0 (by omega), b0, b1⟩ ?_
    exact ((But.refl H).new nt).at
  · have b2 : 0 ≤ (b * 48271 + 10007) % 2147483587 :=
      Int.emod_nonneg _ (by decide)
    have b3 : (b * 48271 + 10007) % 2147483587 < 2147483587 :=
      Int.emod_lt_of_pos _ (by decide)
    refine ⟨_, rfl, p, _, 1, _, rfl, rfl, SqL.of hp, at1 _ _, _, _, rfl, rfl,
      .inl ⟨by omega, by omega⟩, _, _, rfl, rfl, _, _, rfl, rfl,
      (by show (0 : Int) < 2147483587; decide), _, rfl, p, _, 1, 1, rfl, rfl,
      hp, rfl, ?_⟩
    have hp' : (upd H p (.lst [.int a,
        .int ((b * 48271 + 10007) % 2147483587)])) p = _ := upd_same
    refine ⟨_, rfl, p, _, 1, _, rfl, rfl, SqL.of hp', at1 _ _, _, rfl, p, _,
      1, _, rfl, rfl, SqL.of hp', at1 _ _, _, _, rfl, rfl,
      .inl ⟨by omega, by omega⟩, _, _, rfl, rfl,
      (by show (0 : Int) < 2147483549; decide), _, _, rfl, rfl,
      ⟨by decide, by decide⟩, _, rfl, _, _, rfl, rfl, m0, ?_⟩
    refine q _ _ (Int.emod_nonneg _ (by omega)) (Int.emod_lt_of_pos _ m0)
      ⟨a, _, upd_same, a0, b2, by omega⟩ (But.refl H).at
end
end OM
namespace OM
open PySem PySem.Spec PyProof.Rows L2
section
variable {P : Program} {w : World} {K : PySem.W.Frag}
  {mg : Str → Option Value} {base : Heap}
theorem ifx_cut {tA : TT} {ta tb : TE} {σ : L2.St} {H : Hp} {R : VK}
    (v : V) (h : ∀ R : VK, R v H → tIf tA ta tb σ H R) (k : R v H) :
    tIf tA ta tb σ H R := h R k
theorem ok_rng {f : Addr} {fd : FuncData} {k : Nat}
    (F : Fun K "_law_rng" "_law_rng" s_Lrng f fd) (B : Bl mg) :
    FnOk P w K mg base CX0 (k + 1) f fd ["_law_script", "_law_k"]
      (spRng K) := by
  refine F.ok sc_Lrng (fun vs H Q E h => ?_)
    (fun cv A outer s H vs Q E hr h => ?_)
  · obtain ⟨a, ns, k, rfl, _⟩ := h
    rfl
  obtain ⟨a, ns, n, rfl, hS, hn, q⟩ := h
  have nd := sc_Lrng.nd
  refine ⟨_, pss_cons (ps_set (i := 2) nd rfl (.inl rfl) (pe_ifExp
      (pt_cmpR op_lt (pv 1) (pe_callB call_len_seq (by rfl) B.len
        PySem.boot_len (pa_cons (pv 0) pa_nil)) (nomark _))
      (pe_callB call_abs (by rfl) B.abs bt_abs
        (pa_cons (pe_ix ix_list (pv 0) (pv 1) (fun _ _ => rfl)) pa_nil))
      pe_int))
    (pss_one (ps_ret (pe_lst (pa_cons
      (pe_callB (call_max2 rfl) (by rfl) B.max bt_max
        (pa_cons pe_int (pa_cons (pe_op op_sub (pv 2)
          (pe_op op_pow pe_int pe_int)) pa_nil)))
      (pa_cons (pe_op op_add (pe_op op_mod (pe_op op_pow
        (pe_op op_add (pe_op op_add (pe_op op_mod (pv 2) pe_int)
          (pe_op op_mul pe_int (pv 1))) pe_int) pe_int) pe_int) pe_int)
        pa_nil))))), ?_⟩
  obtain ⟨c, hc⟩ : ∃ c : Int, (n < ns.length → c =
      if ns.getD n 0 < 0 then - ns.getD n 0 else ns.getD n 0) ∧
      (¬ n < ns.length → c = 0) := by
    by_cases h : n < ns.length
    · exact ⟨_, fun _ => rfl, fun z => absurd h z⟩
    · exact ⟨0, fun z => absurd z h, fun _ => rfl⟩
  refine ifx_cut (.int c) (fun R hR => ?_) ?_
  · refine ⟨_, rfl, _, rfl, a, _, rfl, .inl hS, _, _, rfl, rfl, _, rfl,
      ite2 (fun z => ?_) (fun z => ?_)⟩
    · have z' : (n : Int) < ((ns.map V.int).length : Int) :=
        of_decide_eq_true z
      rw [List.length_map] at z'
      have hn' : n < ns.length := by omega
      have g : (ns.map V.int)[n]? = some (.int (ns.getD n 0)) := by
        rw [List.getElem?_map, List.getElem?_eq_getElem hn',
          List.getD_eq_getElem?_getD, List.getElem?_eq_getElem hn']
        rfl
      refine ⟨_, rfl, _, rfl, a, _, n, _, rfl, rfl, hS, atI_nat g, _, rfl, ?_⟩
      rw [← hc.1 hn']
      exact hR
    · have z' : ¬ n < ns.length := fun y => z (decide_eq_true (by
        rw [List.length_map]; omega))
      rw [hc.2 z'] at hR
      exact hR
  · have c0 : 0 ≤ c % 2147483543 := Int.emod_nonneg _ (by decide)
    have c1 : c % 2147483543 < 2147483543 :=
      Int.emod_lt_of_pos _ (by decide)
    refine ⟨_, rfl, _, _, rfl, rfl, ⟨by decide, by decide, by decide⟩, _, _,
      rfl, rfl, _, _, rfl, _, rfl, _, _, rfl, rfl,
      (by show (0 : Int) < 2147483543; decide), _, rfl, _, _, rfl, rfl,
      .inl ⟨by decide, by decide⟩, _, _, rfl, rfl, _, _, rfl, rfl, _, _, rfl,
      rfl, ⟨by decide, by decide, by omega⟩, _, _, rfl, rfl,
      (by show (0 : Int) < 2147483497; decide), _, _, rfl, rfl,
      (by show 2 ≤ sizeLine; decide), fun p np => ?_⟩
    generalize hb : ((c % 2147483543 + 101 * (n : Int) + 7) ^
      (2 : Int).toNat) % 2147483497 = b
    have b0 : 0 ≤ b := by rw [← hb]; exact Int.emod_nonneg _ (by decide)
    have b1 : b < 2147483497 := by
      rw [← hb]; exact Int.emod_lt_of_pos _ (by decide)
    refine q p _ np ⟨_, b + 1, upd_same, ?_, by omega, by omega⟩
      (sameNew np)
    split <;> omega
end
end OM
namespace OM
open PySem PySem.Spec PyProof.Rows L2
abbrev lets : Str := "abcdefghijklmnopqrstuvwxyz"
theorem lets_tl : lets.cps.toList = List.range' 97 26 := by decide +kernel
theorem lets_at {i : Int} (h0 : 0 ≤ i) (h1 : i < 26) :
    atI lets.cps.toList i = some (97 + i.toNat) := by
  have e : i = ((i.toNat : Nat) : Int) := by omega
  rw [e, lets_tl]
  refine atI_nat ?_
  rw [Int.toNat_natCast, List.getElem?_range' (by omega)]
  simp
theorem yes {σ : L2.St} {H : Hp} {A B : Hp → Prop} (h : A H) :
    tYes σ H fun b H' => if b = true then A H' else B H' :=
  iteT (B := B H) h
theorem joinL_ones : ∀ cs : List Nat,
    TL.joinL [] (cs.map fun c => [c]) = cs
  | [] => rfl
  | [c] => rfl
  | c :: d :: r => by
    have ih := joinL_ones (d :: r)
    show [c] ++ [] ++ TL.joinL [] ((d :: r).map fun c => [c]) = _
    rw [ih]
    rfl
def nmB (l : List Nat) : Bool :=
  decide (1 ≤ l.length) && decide (l.length ≤ 8) &&
    l.all fun c => decide (97 ≤ c) && decide (c ≤ 122)
theorem nmB_iff {l : List Nat} : nmB l = true ↔ Nm l := by
  unfold nmB
  simp only [Bool.and_eq_true, decide_eq_true_eq, List.all_eq_true]
  exact ⟨fun ⟨⟨a, b⟩, c⟩ => ⟨a, b, c⟩, fun n => ⟨⟨n.lo, n.hi⟩, n.az⟩⟩
theorem nm_of (x : Str) (h : nmB x.cps.toList = true) :
    ∃ l, (.str x : V) = vS l ∧ Nm l :=
  ⟨x.cps.toList, by rw [vS, SX.S_tl], nmB_iff.mp h⟩
/-- an item of eight written ones -/
theorem at8 {α : Type} {P : α → Prop} {a b c d e f g h : α} {i : Int}
    (h0 : 0 ≤ i) (h1 : i < 8) (pa : P a) (pb : P b) (pc : P c) (pd : P d)
    (pe : P e) (pf : P f) (pg : P g) (ph : P h) :
    ∃ v, atI [a, b, c, d, e, f, g, h] i = some v ∧ P v := by
  have e : i = 0 ∨ i = 1 ∨ i = 2 ∨ i = 3 ∨ i = 4 ∨ i = 5 ∨ i = 6 ∨ i = 7 := by
    omega
  rcases e with rfl | rfl | rfl | rfl | rfl | rfl | rfl | rfl
  · exact ⟨a, rfl, pa⟩
  · exact ⟨b, rfl, pb⟩
  · exact ⟨c, rfl, pc⟩
  · exact ⟨d, rfl, pd⟩
  · exact ⟨_, rfl, pe⟩
  · exact ⟨f, rfl, pf⟩
  · exact ⟨g, rfl, pg⟩
  · exact ⟨h, rfl, ph⟩
theorem at4 {α : Type} {P : α → Prop} {a b c d : α} {i : Int}
    (h0 : 0 ≤ i) (h1 : i < 4) (pa : P a) (pb : P b) (pc : P c) (pd : P d) :
    ∃ v, atI [a, b, c, d] i = some v ∧ P v := by
  have e : i = 0 ∨ i = 1 ∨ i = 2 ∨ i = 3 := by omega
  rcases e with rfl | rfl | rfl | rfl
  · exact ⟨a, rfl, pa⟩
  · exact ⟨b, rfl, pb⟩
  · exact ⟨c, rfl, pc⟩
  · exact ⟨d, rfl, pd⟩
/-- a new name that is not among us -/
def spName (K : PySem.W.Frag) : Sp := fun vs H Q _ =>
  ∃ (p a : Addr) (us : List (List Nat)), vs = [.ref p, .ref a] ∧ Rng H p ∧
  SqL K H a (us.map vS) ∧ a ≠ p ∧ us.length ≤ 600 ∧
  ∀ (l : List Nat) (H' : Hp), Nm l → l ∉ us → Rng H' p → But p H H' →
    Q (vS l) H'
section
variable {P : Program} {w : World} {K : PySem.W.Frag}
  {mg : Str → Option Value} {base : Heap}
abbrev CalDraw (P : Program) (w : World) (K : PySem.W.Frag)
    (mg : Str → Option Value) (base : Heap) (k : Nat) : Prop :=
  Cal P w K mg base k "_law_draw" ["_law_rng_here", "_law_many"] spDraw
theorem ok_name {f : Addr} {fd : FuncData} {k : Nat}
    (F : Fun K "_law_name" "_law_name" s_Lname f fd) (B : Bl mg)
    (C : CalDraw P w K mg base k) :
    FnOk P w K mg base CX0 (k + 1) f fd ["_law_rng_here", "_law_used"]
      (spName K) := by
  refine F.ok sc_Lname (fun vs H Q E h => ?_)
    (fun cv A outer s H vs Q E hr h => ?_)
  · obtain ⟨p, a, us, rfl, _⟩ := h
    rfl
  obtain ⟨p, a, us, rfl, rg, hS, nap, hus, q⟩ := h
  have nd := sc_Lname.nd
  refine ⟨_, C8.pss_cut (ps_set (i := 2) nd rfl (.inr rfl) pe_str)
    (C8.pss_cut (ps_set (i := 3) nd rfl (.inl rfl) (pe_ix ix_list
      (pe_lst (pa_cons pe_int (pa_cons pe_int (pa_cons pe_int (pa_cons
        (pe_op op_add pe_int (pe_cal C hr (pa_cons (pv 0)
          (pa_cons pe_int pa_nil)))) pa_nil)))))
      (pe_cal C hr (pa_cons (pv 0) (pa_cons pe_int pa_nil)))
      (fun _ _ => rfl)))
    (C8.pss_cut (ps_set (i := 4) nd rfl (.inr rfl) (pe_join pe_str
      (pe_lc (own := [("_law_k", 5)]) (g := gName 5) (tt := tYes) rfl nd
        (pi_range1 (by rfl) B.range (pa_cons (pv 3) pa_nil))
        (blkOk_by (N := N_Lname) (sc := defScope s_Lname) (by decide +kernel))
        (fun _ _ _ _ _ => pg_name (i := 5) nd rfl (Or.inl rfl))
        (fun _ _ _ _ _ => pts_nil)
        (fun _ _ _ _ _ => pe_ix ix_str (pv 2)
          (pe_cal C hr (pa_cons (pv 0) (pa_cons pe_int pa_nil)))
          (fun _ _ => rfl)))))
    (C8.pss_cut (ps_if (pt_cmpR op_eq (pe_cal C hr (pa_cons (pv 0)
        (pa_cons pe_int pa_nil))) pe_int (nomark _))
      (pss_one (ps_set (i := 4) nd rfl (.inr rfl) (pe_ix ix_list
        (pe_lst (pa_cons pe_str (pa_cons pe_str (pa_cons pe_str (pa_cons
          pe_str (pa_cons pe_str (pa_cons pe_str (pa_cons pe_str (pa_cons
          pe_str pa_nil)))))))))
        (pe_cal C hr (pa_cons (pv 0) (pa_cons pe_int pa_nil)))
        (fun _ _ => rfl)))) pss_nil)
    (C8.pss_cut (ps_set (i := 6) nd rfl (.inl rfl) (pe_op op_cat
      (pe_lst (pa_cons (pv 4) pa_nil))
      (pe_lc (own := [("_law_k", 5)]) (g := gName 5) (tt := tYes) rfl nd
        (pi_range1 (by rfl) B.range (pa_cons pe_int pa_nil))
        (blkOk_by (N := N_Lname) (sc := defScope s_Lname) (by decide +kernel))
        (fun _ _ _ _ _ => pg_name (i := 5) nd rfl (Or.inl rfl))
        (fun _ _ _ _ _ => pts_nil)
        (fun _ _ _ _ _ => pe_op op_add_str (pe_op op_add_str
          (pe_slice sl_str (pv 4) po_none (po_some pe_int))
          (pe_ix ix_str (pv 2) (pe_op op_fdiv (pv 5) pe_int)
            (fun _ _ => rfl)))
          (pe_ix ix_str (pv 2) (pe_op op_mod (pv 5) pe_int)
            (fun _ _ => rfl))))))
    (pss_one (ps_ret (pe_ix ix_list
      (pe_lc (own := [("_law_one", 7)]) (g := gName 7) rfl nd
        (pi_list (pv 6))
        (blkOk_by (N := N_Lname) (sc := defScope s_Lname) (by decide +kernel))
        (fun _ _ _ _ _ => pg_name (i := 7) nd rfl (Or.inl rfl))
        (fun _ _ _ _ _ => pts_one (pt_cmpR (r := rIn K true) op_notIn_seq (pv 7) (pv 1) (by rfl)))
        (fun _ _ _ _ _ => pv 7))
      pe_int (fun _ _ => rfl)))))))), ?_⟩
  -- letters
  refine ⟨fun σ' H' => σ' = [some (.ref p), some (.ref a), some (.str lets),
    none, none, none, none, none] ∧ H = H', ⟨rfl, rfl⟩, ?_⟩
  rintro _ _ ⟨rfl, rfl⟩
  -- length
  refine ⟨fun σ' H' => ∃ n : Int, 1 ≤ n ∧ n ≤ 8 ∧ σ' = [some (.ref p),
    some (.ref a), some (.str lets), some (.int n), none, none, none, none] ∧
    Rng H' p ∧ But p H H', ?_, ?_⟩
  · refine ⟨_, rfl, p, 8, rfl, rg, by decide, by decide,
      fun d H1 d0 d1 rg1 b1 => ⟨_, _, rfl, rfl, sz (by simp), fun t nt =>
      ⟨_, rfl, p, 4, rfl, rg1.same (sameNew nt), by decide, by decide,
      fun d2 H2 e0 e1 rg2 b2 => ?_⟩⟩⟩
    have ne : t ≠ p := (rg1.ne nt).symm
    obtain ⟨v, hv, n, rfl, n0, n1⟩ := at4 (a := V.int 1) (b := V.int 1)
      (c := V.int 2) (d := V.int (1 + d))
      (P := fun v => ∃ n : Int, v = .int n ∧ 1 ≤ n ∧ n ≤ 8) e0 e1
      ⟨1, rfl, by omega, by omega⟩ ⟨1, rfl, by omega, by omega⟩
      ⟨2, rfl, by omega, by omega⟩ ⟨1 + d, rfl, by omega, by omega⟩
    exact ⟨t, _, d2, _, rfl, rfl, SqL.of (b2 t _ upd_same ne), hv, n, n0, n1,
      rfl, rg2, (b1.put nt ne).trans b2⟩
  rintro _ H1 ⟨n, n0, n1, rfl, rg1, b1⟩
  -- the letters drawn
  refine ⟨fun σ' H' => ∃ l, Nm l ∧ σ' = [some (.ref p), some (.ref a),
    some (.str lets), some (.int n), some (vS l), none, none, none] ∧
    Rng H' p ∧ But p H H', ?_, ?_⟩
  · refine ⟨⟨_, rfl⟩, _, rfl, n, rfl, by omega, by omega, fun D nD => ?_⟩
    have ne : D ≠ p := (rg1.ne nD).symm
    refine lc_range (lo := 0) (n := n.toNat) (fun i H' => ∃ cs : List Nat,
      cs.length = i ∧ (∀ c ∈ cs, 97 ≤ c ∧ c ≤ 122) ∧
      H' D = some (.lst (cs.map fun c => vS [c])) ∧ Rng H' p ∧ But p H H')
      ⟨[], rfl, nofun, upd_same, rg1.same (sameNew nD), b1.put nD ne⟩ ?_ ?_
    · rintro i H2 hi ⟨cs, hl, az, hD, rg2, b2⟩
      refine ⟨rfl, yes ⟨_, rfl, _, rfl, p, 26, rfl, rg2, by decide,
        by decide, fun d H3 d0 d1 rg3 b3 => ⟨_, d, _, rfl, rfl,
        sz (by decide), lets_at d0 d1, _, b3 D _ hD ne, ?_, cs ++
        [97 + d.toNat], ?_, ?_, ?_, ?_, ?_⟩⟩⟩
      · rw [List.length_map]
        exact sz' (by omega)
      · rw [List.length_append, hl]
        rfl
      · intro c hc
        rcases List.mem_append.mp hc with h | h
        · exact az c h
        · rcases List.mem_cons.mp h with h | h
          · omega
          · cases h
      · rw [upd_same, List.map_append]
        rfl
      · exact rg3.but (But.at (p := D) (But.refl H3)) ne.symm
      · exact (b2.trans b3).new (b1.free ne nD)
    · rintro H2 ⟨cs, hl, az, hD, rg2, b2⟩
      refine ⟨_, D, cs.map fun c => SX.S [c], rfl, rfl,
        .inl (SqL.of (by rw [List.map_map]; exact hD)), ?_, cs,
        ⟨by omega, by omega, az⟩, ?_, rg2, b2⟩
      · have e1 : ((cs.map fun c => SX.S [c]).map fun x => x.length).sum =
            cs.length := by
          rw [List.map_map]
          clear hl az hD
          induction cs with
          | nil => rfl
          | cons c cs ih =>
            rw [List.map_cons, List.sum_cons, ih, List.length_cons]
            show 1 + cs.length = cs.length + 1
            omega
        rw [e1, List.length_map, show (Str.ofString "").length = 0 from rfl]
        omega
      · have e2 : Txt.join (Str.ofString "") (cs.map fun c => SX.S [c]) =
            SX.S cs := by
          have := SX.join_S [] (cs.map fun c => [c])
          rw [List.map_map, joinL_ones] at this
          exact this
        rw [e2]
        rfl
  rintro _ H2 ⟨l, nl, rfl, rg2, b2⟩
  -- a command's name
  refine ⟨fun σ' H' => ∃ l, Nm l ∧ σ' = [some (.ref p), some (.ref a),
    some (.str lets), some (.int n), some (vS l), none, none, none] ∧
    Rng H' p ∧ But p H H', ?_, ?_⟩
  · refine ⟨_, rfl, p, 8, rfl, rg2, by decide, by decide,
      fun d H3 d0 d1 rg3 b3 => ⟨rfl, _, rfl, ite2 (fun _ => ?_)
        (fun _ => ⟨l, nl, rfl, rg3, b2.trans b3⟩)⟩⟩
    refine ⟨sz (by decide), fun t nt => ⟨_, rfl, p, 8, rfl,
      rg3.same (sameNew nt), by decide, by decide,
      fun d2 H4 e0 e1 rg4 b4 => ?_⟩⟩
    have ne : t ≠ p := (rg3.ne nt).symm
    obtain ⟨v, hv, l', rfl, nl'⟩ := at8 (P := fun v => ∃ l, v = vS l ∧ Nm l)
      e0 e1 (nm_of "swap" (by decide +kernel)) (nm_of "move" (by decide +kernel))
      (nm_of "base" (by decide +kernel)) (nm_of "users" (by decide +kernel))
      (nm_of "merged" (by decide +kernel)) (nm_of "log" (by decide +kernel))
      (nm_of "ok" (by decide +kernel)) (nm_of "undo" (by decide +kernel))
    exact ⟨t, _, d2, _, rfl, rfl, SqL.of (b4 t _ upd_same ne), hv, l', nl',
      rfl, rg4, ((b2.trans b3).put nt ne).trans b4⟩
  clear nl rg2 b2
  rintro _ H2 ⟨l, nl, rfl, rg2, b2⟩
  -- names to fall back upon
  refine ⟨fun σ' H' => ∃ fr, σ' = [some (.ref p), some (.ref a),
    some (.str lets), some (.int n), some (vS l), none, some (.ref fr), none]
    ∧ fr ≠ p ∧ H' fr = some (.lst ((fresh l).map vS)) ∧
    Rng H' p ∧ But p H H', ?_, ?_⟩
  · refine ⟨_, rfl, sz (by simp), fun t nt => ?_⟩
    have ne : t ≠ p := (rg2.ne nt).symm
    refine ⟨676, rfl, by decide, by decide, fun D nD => ?_⟩
    have rg3 : Rng (upd H2 t (.lst [vS l])) p := rg2.same (sameNew nt)
    have neD : D ≠ p := (rg3.ne nD).symm
    have net : t ≠ D := fun e => by rw [← e, upd_same] at nD; cases nD
    have b3 : But p H (upd H2 t (.lst [vS l])) := b2.put nt ne
    refine lc_range (lo := 0) (n := 676) (fun i H' =>
      H' D = some (.lst (((List.range i).map (frs6 l)).map vS)) ∧
      H' t = some (.lst [vS l]) ∧ Rng H' p ∧ But p H H')
      ⟨upd_same, by rw [upd_ne net, upd_same], rg3.same (sameNew nD),
        b3.put nD neD⟩ ?_ ?_
    · rintro i H4 hi ⟨hD, ht, rg4, b4⟩
      have f1 : 0 ≤ (0 + (i : Int)) / 26 := by omega
      have f2 : (0 + (i : Int)) / 26 < 26 := by omega
      have f3 : 0 ≤ (0 + (i : Int)) % 26 := by omega
      have f4 : (0 + (i : Int)) % 26 < 26 := by omega
      have ll := nl.hi
      have ec : cutS (SX.S l) none (some 6) = SX.S (l.take 6) := by
        rw [C8.cutS_slice, SX.slice_to (by decide)]
        rfl
      refine ⟨rfl, yes ⟨_, rfl, 6, rfl, SX.S l, rfl,
        sz (by rw [SX.S_len]; omega), _, rfl, _, rfl, _, _, rfl, rfl,
        ⟨by decide, by decide⟩, _, _, _, rfl, rfl, sz (by decide),
        lets_at f1 f2, _, _, rfl, rfl, ?_, _, rfl, _, rfl, _, _, rfl, rfl,
        (by show (0 : Int) < 26; decide), _, _, _, rfl, rfl, sz (by decide),
        lets_at f3 f4, _, _, rfl, rfl, ?_, _, hD, ?_, ?_, ?_, ?_, ?_⟩⟩
      · rw [ec, SX.S_len, List.length_take]
        show min 6 l.length + 1 ≤ _
        exact sz (by omega)
      · rw [ec, strLen_append, SX.S_len, List.length_take]
        show min 6 l.length + 1 + 1 ≤ _
        exact sz (by omega)
      · rw [List.length_map, List.length_map, List.length_range]
        exact sz' (by omega)
      · rw [upd_same, ec]
        have e5 : SX.S (l.take 6) ++ (⟨#[97 + ((0 + (i : Int)) / 26).toNat]⟩ :
            Str) ++ ⟨#[97 + ((0 + (i : Int)) % 26).toNat]⟩ =
            SX.S (frs6 l i) := by
          have e6 : ((0 + (i : Int)) / 26).toNat = i / 26 := by omega
          have e7 : ((0 + (i : Int)) % 26).toNat = i % 26 := by omega
          rw [e6, e7]
          show SX.S (l.take 6) ++ SX.S [97 + i / 26] ++ SX.S [97 + i % 26] = _
          rw [SX.S_cat, SX.S_cat]
          unfold frs6
          rw [List.append_assoc]
          rfl
        rw [e5, List.range_succ, List.map_append, List.map_append]
        rfl
      · rw [upd_ne net]
        exact ht
      · exact rg4.but (But.at (p := D) (But.refl H4)) neD.symm
      · exact b4.new (b3.free neD nD)
    · rintro H4 ⟨hD, ht, rg4, b4⟩
      refine ⟨t, D, _, _, rfl, rfl, ht, hD, ?_, fun fr nfr => ⟨fr, rfl,
        (rg4.ne nfr).symm, ?_, rg4.same (sameNew nfr),
        b4.put nfr (rg4.ne nfr).symm⟩⟩
      · rw [List.length_map, List.length_map, List.length_range]
        exact sz (by simp)
      · rw [upd_same]
        rfl
  clear rg2 b2
  rintro _ H3 ⟨fr, rfl, nfp, hfr, rg3, b3⟩
  -- the first one that is free
  refine ⟨_, rfl, fr, rfl, ⟨_, SqL.of hfr⟩, fun D nD => ?_⟩
  have neD : D ≠ p := (rg3.ne nD).symm
  have nfD : fr ≠ D := ne_of_none hfr nD
  have hS3 : SqL K H3 a (us.map vS) := b3.seq hS nap
  have naD : SqL K (upd H3 D (.lst [])) a (us.map vS) := (sameNew nD).seq hS3
  refine lc_list (K := K) (a := fr) (xs := (fresh l).map vS) (fun i H' =>
    H' D = some (.lst ((((fresh l).take i).filter
      (fun y => decide (y ∉ us))).map vS)) ∧
    H' fr = some (.lst ((fresh l).map vS)) ∧ Rng H' p ∧ But p H3 H' ∧
    SqL K H' a (us.map vS))
    ⟨upd_same, by rw [upd_ne nfD]; exact hfr, rg3.same (sameNew nD),
      (But.refl H3).put nD neD, naD⟩ (fun i H' _ z => SqL.of z.2.1) ?_ ?_
  · rintro i y H4 hy ⟨hD, hf, rg4, b4, hS4⟩
    rw [List.getElem?_map] at hy
    obtain ⟨x, hx, rfl⟩ : ∃ x, (fresh l)[i]? = some x ∧ vS x = y := by
      cases e : (fresh l)[i]? with
      | none => rw [e] at hy; cases hy
      | some x => rw [e] at hy; exact ⟨x, rfl, Option.some.inj hy⟩
    have et : (fresh l).take (i + 1) = (fresh l).take i ++ [x] := by
      rw [List.take_add_one, hx]
      rfl
    refine ⟨rfl, _, rfl, _, rfl, a, _, rfl, .inl hS4, rfl, flat_S us, _, rfl,
      ?_⟩
    rw [inV_S]
    have hlen : ((((fresh l).take i).filter
        (fun y => decide (y ∉ us))).map vS).length < sizeLine := by
      rw [List.length_map]
      refine sz' (Nat.lt_of_le_of_lt (List.length_filter_le _ _) ?_)
      rw [List.length_take]
      have : (fresh l).length = 677 := by
        unfold fresh
        rw [List.length_cons, List.length_map, List.length_range]
      omega
    by_cases hm : x ∈ us
    · rw [decide_eq_true hm]
      refine iteF ⟨?_, hf, rg4, b4, hS4⟩
      rw [hD, et, List.filter_append, List.filter_cons_of_neg (by simp [hm]),
        List.filter_nil, List.append_nil]
    · rw [decide_eq_false hm]
      refine iteT ⟨_, rfl, _, hD, hlen, ?_, ?_, ?_, ?_, ?_⟩
      · rw [upd_same, et, List.filter_append,
          List.filter_cons_of_pos (by simp [hm]), List.filter_nil,
          List.map_append]
        rfl
      · rw [upd_ne nfD]
        exact hf
      · exact rg4.but (But.at (p := D) (But.refl H4)) neD.symm
      · exact b4.new nD
      · have naD' : But D H4 (upd H4 D (.lst ((((fresh l).take i).filter
            (fun y => decide (y ∉ us))).map vS ++ [vS x]))) :=
          But.at (But.refl H4)
        by_cases had : a = D
        · subst had
          rcases hS3 with (h | ⟨o, h⟩) | h
          · rw [h] at nD; cases nD
          · rw [h] at nD; cases nD
          · exact .inr h
        · exact naD'.seq hS4 had
  · rintro H4 ⟨hD, hf, rg4, b4, hS4⟩
    obtain ⟨x, r, ex⟩ := fresh_some (l := l) (us := us) (by omega)
    rw [List.take_of_length_le (by rw [List.length_map]; exact Nat.le_refl _),
      ex] at hD
    have mx : x ∈ (fresh l).filter (fun y => decide (y ∉ us)) := by
      rw [ex]; exact List.mem_cons_self
    have mx' := List.mem_filter.mp mx
    exact ⟨D, _, 0, _, rfl, rfl, SqL.of hD, atI_nat (j := 0) rfl,
      q x H4 (fresh_nm nl x mx'.1) (of_decide_eq_true mx'.2) rg4
        (b3.trans b4)⟩
end
end OM
namespace OM
open PySem PySem.Spec PyProof.Rows L2
/-- some new names -/
def spNames : Sp := fun vs H Q _ =>
  ∃ (p u : Addr) (m : Nat) (us : List (List Nat)),
  vs = [.ref p, .int m, .ref u] ∧ Rng H p ∧ H u = some (.lst (us.map vS)) ∧
  u ≠ p ∧ m ≤ 100 ∧ us.length ≤ 400 ∧
  ∀ (q : Addr) (ls : List (List Nat)) (H' : Hp), H q = none →
    ls.length = m → (∀ l ∈ ls, Nm l) → ls.Nodup → (∀ l ∈ ls, l ∉ us) →
    H' q = some (.lst (ls.map vS)) → Rng H' p → But p H H' →
    Q (.ref q) H'
section
variable {P : Program} {w : World} {K : PySem.W.Frag}
  {mg : Str → Option Value} {base : Heap}
theorem ok_names {f : Addr} {fd : FuncData} {k : Nat}
    (F : Fun K "_law_names" "_law_names" s_Lnames f fd) (B : Bl mg)
    (C : Cal P w K mg base k "_law_name" ["_law_rng_here", "_law_used"]
      (spName K)) :
    FnOk P w K mg base CX0 (k + 1) f fd
      ["_law_rng_here", "_law_many", "_law_used"] spNames := by
  refine F.ok sc_Lnames (fun vs H Q E h => ?_)
    (fun cv A outer s H vs Q E hr h => ?_)
  · obtain ⟨p, u, m, us, rfl, _⟩ := h
    rfl
  obtain ⟨p, u, m, us, rfl, rg, hu, nup, hm, hus, q⟩ := h
  have nd := sc_Lnames.nd
  refine ⟨_, pss_cons (ps_set (i := 3) nd rfl (.inl rfl) (pe_lst pa_nil))
    (pss_cons (ps_for PassesOwn.never rfl
      (pi_range1 (by rfl) B.range (pa_cons (pv 1) pa_nil))
      (pg_name (i := 4) nd rfl (.inl rfl))
      (pss_one (ps_expr (pe_bm PySem.F.plainAttrs_list
        PySem.F.slot_list_append PySem.F.type_list_append mt_append (pv 3)
        (pa_cons (pe_cal C hr (pa_cons (pv 0) (pa_cons
          (pe_op op_cat (pv 2) (pv 3)) pa_nil))) pa_nil)))))
    (pss_one (ps_ret (pv 3)))), ?_⟩
  refine ⟨sz (by simp), fun r nr => ?_⟩
  have nrp : r ≠ p := (rg.ne nr).symm
  have nru : u ≠ r := ne_of_none hu nr
  refine ⟨_, rfl, m, rfl, by omega, by omega, ?_⟩
  refine for_range (lo := 0) (n := m) (fun i σ H' => ∃ (ls : List (List Nat))
      (v : Option V), σ = [some (.ref p), some (.int m), some (.ref u),
      some (.ref r), v] ∧ ls.length = i ∧ (∀ l ∈ ls, Nm l) ∧ ls.Nodup ∧
      (∀ l ∈ ls, l ∉ us) ∧ H' r = some (.lst (ls.map vS)) ∧ Rng H' p ∧
      But p H H')
    ⟨[], none, rfl, rfl, nofun, List.nodup_nil, nofun, upd_same,
      rg.same (sameNew nr), (But.refl H).put nr nrp⟩ ?_ ?_
  · rintro i σ H1 hi ⟨ls, v, rfl, hl, nm, nd1, no, h1, rg1, b1⟩
    refine ⟨_, rfl, .inl ⟨rfl, _, SqL.of h1⟩, _, rfl, _, rfl, _, rfl, u, r,
      _, _, rfl, rfl, b1 u _ hu nup, h1, ?_, fun t nt => ?_⟩
    · rw [List.length_map, List.length_map]
      exact sz (by omega)
    have ntp : t ≠ p := (rg1.ne nt).symm
    have ntr : r ≠ t := ne_of_none h1 nt
    refine ⟨p, t, us ++ ls, rfl, rg1.same (sameNew nt), ?_, ntp, ?_,
      fun l H2 nl ni rg2 b2 => ?_⟩
    · rw [List.map_append]
      exact SqL.of upd_same
    · rw [List.length_append]
      omega
    · have h2 : H2 r = some (.lst (ls.map vS)) :=
        b2 r _ (by rw [upd_ne ntr]; exact h1) nrp
      refine ⟨r, _, _, rfl, rfl, h2, ?_, ls ++ [l], _, rfl, ?_, ?_, ?_, ?_, ?_,
        ?_, ?_⟩
      · rw [List.length_map]
        exact sz' (by omega)
      · rw [List.length_append, hl]
        rfl
      · intro x hx
        rcases List.mem_append.mp hx with h | h
        · exact nm x h
        · rw [List.mem_singleton.mp h]
          exact nl
      · refine List.nodup_append.mpr ⟨nd1, by simp, ?_⟩
        intro x hx y hy e
        rw [List.mem_singleton.mp hy] at e
        exact ni (List.mem_append_right _ (e ▸ hx))
      · intro x hx
        rcases List.mem_append.mp hx with h | h
        · exact no x h
        · rw [List.mem_singleton.mp h]
          exact fun z => ni (List.mem_append_left _ z)
      · rw [upd_same, List.map_append]
        rfl
      · exact rg2.but (But.at (p := r) (But.refl H2)) nrp.symm
      · exact ((b1.put nt ntp).trans b2).new nr
  · rintro σ H1 ⟨ls, v, rfl, hl, nm, nd1, no, h1, rg1, b1⟩
    exact ⟨_, rfl, q r ls H1 nr hl nm nd1 no h1 rg1 b1⟩
end
end OM
namespace OM
open PySem PySem.Spec PyProof.Rows L2
theorem erase_perm {α : Type} {l : List α} {i : Nat} (h : i < l.length) :
    (l[i] :: l.eraseIdx i).Perm l := by
  rw [List.eraseIdx_eq_take_drop_succ]
  refine List.perm_middle.symm.trans ?_
  rw [← List.drop_eq_getElem_cons h, List.take_append_drop]
/-- the values in another sequence -/
def spShuf (K : PySem.W.Frag) : Sp := fun vs H Q _ =>
  ∃ (p a : Addr) (xs : List V), vs = [.ref p, .ref a] ∧ Rng H p ∧
  SqL K H a xs ∧ a ≠ p ∧ xs.length ≤ 1000 ∧
  ∀ (q : Addr) (ys : List V) (H' : Hp), H q = none → ys.Perm xs →
    H' q = some (.lst ys) → Rng H' p → But p H H' → Q (.ref q) H'
section
variable {P : Program} {w : World} {K : PySem.W.Frag}
  {mg : Str → Option Value} {base : Heap}
theorem ok_shuf {f : Addr} {fd : FuncData} {k : Nat}
    (F : Fun K "_law_shuffled" "_law_shuffled" s_Lshuffled f fd) (B : Bl mg)
    (C : CalDraw P w K mg base k) :
    FnOk P w K mg base CX0 (k + 1) f fd ["_law_rng_here", "_law_values"]
      (spShuf K) := by
  refine F.ok sc_Lshuffled (fun vs H Q E h => ?_)
    (fun cv A outer s H vs Q E hr h => ?_)
  · obtain ⟨p, a, xs, rfl, _⟩ := h
    rfl
  obtain ⟨p, a, xs, rfl, rg, hS, nap, hx, q⟩ := h
  have nd := sc_Lshuffled.nd
  refine ⟨_, pss_cons (ps_set (i := 2) nd rfl (.inr rfl)
      (pe_callTy call_list_of (by rfl) B.list bt_list (pa_cons (pv 1) pa_nil)))
    (pss_one (ps_ret
      (pe_lc (own := [("_law_k", 3)]) (g := gName 3) (tt := tYes)
        (te := tBM K "list" rPopAt (tVar 2) (tCons (tCall spDraw [] E0
          (tCons (tVar 0) (tCons (tCB (rLenK K) (tCons (tVar 2) tNil)) tNil)))
          tNil)) rfl nd
        (pi_range1 (by rfl) B.range (pa_cons
          (pe_callB call_len_seq (by rfl) B.len PySem.boot_len
            (pa_cons (pv 1) pa_nil)) pa_nil))
        (blkOk_by (N := N_Lshuffled) (sc := defScope s_Lshuffled)
          (by decide +kernel))
        (fun _ _ _ _ _ => pg_name (i := 3) nd rfl (Or.inl rfl))
        (fun _ _ _ _ _ => pts_nil)
        (fun _ _ _ _ _ => pe_bm PySem.F.plainAttrs_list
          PySem.F.slot_list_pop PySem.F.type_list_pop mt_popAt (pv 2)
          (pa_cons (pe_cal C hr (pa_cons (pv 0) (pa_cons
            (pe_callB (r := rLenK K) call_lenK (by rfl) B.len
              PySem.boot_len (pa_cons (pv 2) pa_nil)) pa_nil))) pa_nil))))),
    ?_⟩
  refine ⟨_, rfl, a, _, rfl, .inl hS, fun o no => ?_⟩
  have hS1 := (sameNew (o := .lst xs) no).seq hS
  have rg1 : Rng (upd H o (.lst xs)) p := rg.same (sameNew no)
  have nop : o ≠ p := (rg.ne no).symm
  refine ⟨_, rfl, a, _, rfl, .inl hS1, _, rfl, by omega, by omega,
    fun D nD => ?_⟩
  have nDp : D ≠ p := (rg1.ne nD).symm
  have nDo : D ≠ o := fun e => by rw [e, upd_same] at nD; cases nD
  have fD : H D = none := (upd_ne (H := H) (o := .lst xs) nDo).symm.trans nD
  refine lc_range (lo := 0) (n := xs.length) (fun i H' => ∃ ac rs : List V,
    ac.length = i ∧ (ac ++ rs).Perm xs ∧ H' D = some (.lst ac) ∧
    H' o = some (.lst rs) ∧ Rng H' p ∧ But p H H')
    ⟨[], xs, rfl, List.Perm.refl _, upd_same,
      by rw [upd_ne nDo.symm, upd_same], rg1.same (sameNew nD),
      ((But.refl H).put no nop).put nD nDp⟩ ?_ ?_
  · rintro i H1 hi ⟨ac, rs, hl, pm, hD, ho, rg2, b2⟩
    have len : ac.length + rs.length = xs.length := by
      have := pm.length_eq
      rw [List.length_append] at this
      exact this
    refine ⟨rfl, yes ⟨_, rfl, .inl ⟨rfl, _, SqL.of ho⟩, _, rfl, _, rfl, o, _,
      rfl, .inl (SqL.of ho), p, rs.length, rfl, rg2, by omega, by omega,
      fun d H2 d0 d1 rg3 b3 => ?_⟩⟩
    have hd : d.toNat < rs.length := by omega
    refine ⟨o, rs, d, d.toNat, rs[d.toNat], rfl, rfl, b3 o _ ho nop, by omega,
      by omega, ?_, List.getElem?_eq_getElem hd, ac, ?_, sz' (by omega),
      ac ++ [rs[d.toNat]], rs.eraseIdx d.toNat, ?_, ?_, ?_, ?_, ?_, ?_⟩
    · exact seqIndex_of d0 d1
    · rw [upd_ne nDo]
      exact b3 D _ hD nDp
    · rw [List.length_append, hl]
      rfl
    · refine List.Perm.trans ?_ pm
      rw [List.append_assoc]
      exact List.Perm.append_left _ (erase_perm hd)
    · exact upd_same
    · rw [upd_ne nDo.symm, upd_same]
    · exact (rg3.but (But.at (p := o) (But.refl H2)) nop.symm).but
        (But.at (p := D) (But.refl _)) nDp.symm
    · exact ((b2.trans b3).new no).new fD
  · rintro H1 ⟨ac, rs, hl, pm, hD, ho, rg2, b2⟩
    have len : ac.length + rs.length = xs.length := by
      have := pm.length_eq
      rw [List.length_append] at this
      exact this
    have e : rs = [] := List.length_eq_zero_iff.mp (by omega)
    rw [e, List.append_nil] at pm
    exact q D ac H1 fD pm hD rg2 b2
end
end OM
namespace OM
open PySem PySem.Spec PyProof.Rows L2
theorem lt1 (c d : Nat) : decide (([c] : List Nat) < [d]) = decide (c < d) := by
  by_cases h : c < d
  · rw [decide_eq_true h]
    refine decide_eq_true ?_
    rw [List.cons_lt_cons_iff]
    exact Or.inl h
  · rw [decide_eq_false h]
    refine decide_eq_false fun z => ?_
    rw [List.cons_lt_cons_iff] at z
    rcases z with z | ⟨_, z⟩
    · exact h z
    · exact absurd z (by simp)
def azB (c : Nat) : Bool := decide (97 ≤ c) && decide (c ≤ 122)
theorem all_az (l : List Nat) :
    ((l.map azB).all id) = l.all azB := by
  rw [List.all_map]
  rfl
/-- is it a name: a text, or a value of another type -/
def spIsName (K : PySem.W.Frag) : Sp := fun vs H Q _ => ∃ v, vs = [v] ∧
  ((∃ x : Str, v = .str x ∧ x.length ≤ sizeLine ∧ ∀ H', Same H H' →
      Q (.bl (nmB x.cps.toList)) H') ∨
   (∃ t, TyX K H v t ∧ PySem.W.kitOne K t (.type "str") = some false ∧
      Q (.bl false) H))
section
variable {P : Program} {w : World} {K : PySem.W.Frag}
  {mg : Str → Option Value} {base : Heap}
theorem ok_isname {f : Addr} {fd : FuncData} {k : Nat}
    (F : Fun K "is_name" "is_name" s_is_name f fd) (B : Bl mg)
    {t8 : Tok} (m8 : mg "MAX_NAME_LENGTH" = some (.int 8 t8)) :
    FnOk P w K mg base CX0 (k + 1) f fd ["value"] (spIsName K) := by
  refine F.ok sc_is_name (fun vs H Q E h => ?_)
    (fun cv A outer s H vs Q E hr h => ?_)
  · obtain ⟨v, rfl, _⟩ := h
    rfl
  obtain ⟨v, rfl, h⟩ := h
  have nd := sc_is_name.nd
  refine ⟨_, pss_cons (ps_if (pt_mid (PW.pt (pw_or (pt_not (pt_val
      (pe_callB call_isi (by rfl) B.isi bt_isi (pa_cons (pv 0) (pa_cons
        (pe_bltn (v := .ty "str") (by rfl) B.str bt_str rfl) pa_nil)))))
      (pw_or1 (pt_not (pt_chain op_le op_le pe_int
        (pe_callB call_len_str (by rfl) B.len PySem.boot_len
          (pa_cons (pv 0) pa_nil))
        (pe_glob (v := .int 8) (by rfl) m8 ⟨_, rfl⟩)))))))
      (pss_one (ps_ret pe_bl)) pss_nil)
    (pss_one (ps_ret (pe_callB (cr_all rfl) (by rfl) B.all bt_all (pa_cons
      (pe_lc (own := [("letter", 1)]) (g := gName 1) (tt := tYes) rfl nd
        (pi_str (pv 0))
        (blkOk_by (N := N_is_name) (sc := defScope s_is_name)
          (by decide +kernel))
        (fun _ _ _ _ _ => pg_name (i := 1) nd rfl (Or.inl rfl))
        (fun _ _ _ _ _ => pts_nil)
        (fun _ _ _ _ _ => pe_mid (pe_chain op_le_str op_le_str pe_str
          (pv 1) pe_str))) pa_nil)))), ?_⟩
  rcases h with ⟨x, rfl, hx, q⟩ | ⟨t, ty, kt, q⟩
  · refine ⟨fun b H' => b = !(decide (1 ≤ x.length) && decide (x.length ≤ 8)) ∧
      H = H', ?_, ?_⟩
    · refine ⟨_, rfl, _, _, _, _, true, rfl, .ty "str", .base (.str x),
        kit_ty (by decide +kernel), _, rfl, iteF ?_⟩
      refine ⟨_, rfl, x, rfl, hx, _, _, rfl, rfl, _, rfl, ite2 (fun c => ?_)
        (fun c => ?_)⟩
      · have c' : (1 : Int) ≤ x.length := of_decide_eq_true c
        refine ⟨_, _, rfl, rfl, _, rfl, ?_, rfl⟩
        rw [decide_eq_true (show 1 ≤ x.length by omega), Bool.true_and]
        congr 1
        exact decide_eq_decide.mpr ⟨fun z => by omega, fun z => by omega⟩
      · refine ⟨_, rfl, ?_, rfl⟩
        rw [decide_eq_false (show ¬ 1 ≤ x.length from fun z =>
          c (decide_eq_true (by omega)))]
        rfl
    · rintro b _ ⟨rfl, rfl⟩
      by_cases c : 1 ≤ x.length ∧ x.length ≤ 8
      · rw [decide_eq_true c.1, decide_eq_true c.2]
        refine iteF ⟨_, rfl, x, rfl, fun D nD => ?_⟩
        refine lc_it walk_str (fun i H' => H' D = some (.lst
          (((x.cps.toList.take i).map azB).map V.bl)) ∧ Same H H')
          ⟨upd_same, sameNew nD⟩ (fun _ _ _ _ => trivial) ?_ ?_
        · rintro i v _ H1 hi ⟨hD, sm⟩ ⟨rfl, c0, hc, rfl⟩
          have hc' : x.cps.toList[i]? = some c0 := by
            rw [Array.getElem?_toList]; exact hc
          refine ⟨rfl, yes ⟨fun v H' => v = .bl (azB c0) ∧ H1 = H', ?_, ?_⟩⟩
          · refine ⟨_, rfl, _, _, rfl, rfl, _, rfl, ite2 (fun z => ?_)
              (fun z => ?_)⟩
            · refine ⟨_, _, rfl, rfl, ?_, rfl⟩
              have z' : ¬ c0 < 97 := by
                rw [show (Str.ofString "a").cps.toList = [97] by
                  decide +kernel, lt1] at z
                simpa using z
              rw [show (Str.ofString "z").cps.toList = [122] by
                decide +kernel, lt1]
              unfold azB
              rw [decide_eq_true (show 97 ≤ c0 by omega), Bool.true_and]
              congr 1
              by_cases y : c0 ≤ 122
              · rw [decide_eq_true y, decide_eq_false (by omega)]
                rfl
              · rw [decide_eq_false y, decide_eq_true (by omega)]
                rfl
            · refine ⟨?_, rfl⟩
              have z' : c0 < 97 := by
                rw [show (Str.ofString "a").cps.toList = [97] by
                  decide +kernel, lt1] at z
                simpa using z
              unfold azB
              rw [decide_eq_false (show ¬ 97 ≤ c0 by omega)]
              rfl
          · rintro v _ ⟨rfl, rfl⟩
            refine ⟨_, hD, ?_, ?_, ?_⟩
            · rw [List.length_map, List.length_map, List.length_take]
              refine sz' ?_
              have : x.length = x.cps.toList.length := TL.len_tl x
              omega
            · rw [upd_same, List.take_add_one, hc', List.map_append,
                List.map_append]
              rfl
            · exact OM.Same.put sm nD
        · rintro H1 ⟨hD, sm⟩
          rw [List.take_of_length_le (by
            rw [Array.length_toList]; exact Nat.le_refl _)] at hD
          refine ⟨D, _, rfl, SqL.of hD, ?_⟩
          rw [all_az]
          have := q H1 sm
          unfold nmB at this
          rw [← TL.len_tl x] at this
          rw [decide_eq_true c.1, decide_eq_true c.2, Bool.true_and,
            Bool.true_and] at this
          exact this
      · have e : (decide (1 ≤ x.length) && decide (x.length ≤ 8)) = false := by
          by_cases c1 : 1 ≤ x.length
          · rw [decide_eq_false (show ¬ x.length ≤ 8 from fun z => c ⟨c1, z⟩)]
            exact Bool.and_false _
          · rw [decide_eq_false c1]
            exact Bool.false_and _
        rw [e]
        refine iteT ?_
        have := q H (Same.refl H)
        unfold nmB at this
        rw [← TL.len_tl x, e, Bool.false_and] at this
        exact this
  · refine ⟨fun b H' => b = true ∧ H = H', ?_, ?_⟩
    · exact ⟨_, rfl, _, _, _, _, false, rfl, .ty "str", ty, kt, _, rfl,
        iteT ⟨rfl, rfl⟩⟩
    · rintro b _ ⟨rfl, rfl⟩
      exact iteT q
end
end OM
namespace OM
open PySem PySem.Spec PyProof.Rows L2
/-- what makes a base -/
structure Good (ls : List (List Nat)) : Prop where
  nm : ∀ l ∈ ls, Nm l
  nd : ls.Nodup
  lo : 1 ≤ ls.length
  hi : ls.length ≤ 40
theorem Nm.len {l : List Nat} (n : Nm l) : (SX.S l).length ≤ sizeLine := by
  rw [SX.S_len]
  have := n.hi
  exact sz (by omega)
theorem Nm.b {l : List Nat} (n : Nm l) : nmB (SX.S l).cps.toList = true :=
  nmB_iff.mpr n
theorem get_map {ls : List (List Nat)} {i : Nat} {v : V}
    (h : (ls.map vS)[i]? = some v) : ∃ l, ls[i]? = some l ∧ v = vS l := by
  rw [List.getElem?_map] at h
  cases e : ls[i]? with
  | none => rw [e] at h; cases h
  | some l => rw [e] at h; exact ⟨l, rfl, (Option.some.inj h).symm⟩
theorem nodup_take {α : Type} {ls : List α} {i : Nat} {l : α}
    (nd : ls.Nodup) (h : ls[i]? = some l) : l ∉ ls.take i := by
  intro hm
  obtain ⟨j, hj, e⟩ := List.getElem_of_mem hm
  rw [List.length_take] at hj
  rw [List.getElem_take] at e
  obtain ⟨hi, e2⟩ := List.getElem?_eq_some_iff.mp h
  have := (List.getElem_inj nd).mp (e.trans e2.symm)
  omega
def spCheckOk : Sp := fun vs H Q _ => ∃ (a : Addr) (ls : List (List Nat)),
  vs = [.ref a] ∧ H a = some (.lst (ls.map vS)) ∧ Good ls ∧
  ∀ H', Same H H' → Q .non H'
def spNFaultOk : Sp := fun vs H Q _ => ∃ (a : Addr) (ls : List (List Nat)),
  vs = [.ref a, .int 40] ∧ H a = some (.lst (ls.map vS)) ∧ Good ls ∧
  ∀ H', Same H H' → Q .non H'
section
variable {P : Program} {w : World} {K : PySem.W.Frag}
  {mg : Str → Option Value} {base : Heap}
abbrev CalIsName (P : Program) (w : World) (K : PySem.W.Frag)
    (mg : Str → Option Value) (base : Heap) (k : Nat) : Prop :=
  Cal P w K mg base k "is_name" ["value"] (spIsName K)
theorem ok_nfault {f : Addr} {fd : FuncData} {k : Nat}
    (F : Fun K "names_fault" "names_fault" s_names_fault f fd) (B : Bl mg)
    (C : CalIsName P w K mg base k) :
    FnOk P w K mg base CX0 (k + 1) f fd ["value", "most"] spNFaultOk := by
  refine F.ok sc_names_fault (fun vs H Q E h => ?_)
    (fun cv A outer s H vs Q E hr h => ?_)
  · obtain ⟨a, ls, rfl, _⟩ := h
    rfl
  obtain ⟨a, ls, rfl, ha, gd, q⟩ := h
  have nd := sc_names_fault.nd
  refine ⟨_, pss_cons (ps_if (pt_not (pt_val
      (pe_callB call_isi (by rfl) B.isi bt_isi (pa_cons (pv 0) (pa_cons
        (pe_bltn (v := .ty "list") (by rfl) B.list bt_list rfl) pa_nil)))))
      (pss_one ps_never) pss_nil)
    (pss_cons (ps_set (i := 2) nd rfl (.inl rfl)
      (pe_callTy0 cr_set0K (by rfl) B.set bt_set))
    (pss_cons (ps_for PassesOwn.never rfl
      (pi_enum (by rfl) B.enum (pa_cons (pv 0) pa_nil))
      (pg_tup rfl (pgs_cons (pg_name (i := 3) nd rfl (.inl rfl))
        (pgs_cons (pg_name (i := 4) nd rfl (.inl rfl)) pgs_nil)))
      (pss_cons (ps_if (pt_not (pt_val (pe_cal C hr (pa_cons (pv 4) pa_nil))))
        (pss_one ps_never) pss_nil)
      (pss_cons (ps_if (pt_cmpR or_sinK (pv 4) (pv 2) (by rfl))
        (pss_one ps_never) pss_nil)
      (pss_one (ps_expr (pe_saddK (pv 2) (pa_cons (pv 4) pa_nil)))))))
    (pss_cons (ps_if (pt_not (pt_chain op_le op_le pe_int
        (pe_callB call_len_seq (by rfl) B.len PySem.boot_len
          (pa_cons (pv 0) pa_nil)) (pv 1)))
      (pss_one ps_never) pss_nil)
    (pss_one (ps_ret pe_non))))), ?_⟩
  refine ⟨_, rfl, _, _, _, _, true, rfl, .ty "list", .base (.lst ha),
    kit_ty (by decide +kernel), _, rfl, iteF ?_⟩
  refine ⟨rfl, fun sn nsn => ?_⟩
  have nas : a ≠ sn := ne_of_none ha nsn
  have ha1 : (upd H sn (SetK P w sn (fun _ => false) 0)) a =
      some (.lst (ls.map vS)) := by rw [upd_ne nas]; exact ha
  refine ⟨_, rfl, a, _, rfl, SqL.of ha1, ?_⟩
  refine for_it (walk_enum (K := K) (a := a) (xs := ls.map vS))
    (fun i σ H' => ∃ (S : Key → Bool) (n : Nat) (y z : Option V),
      σ = [some (.ref a), some (.int 40), some (.ref sn), y, z] ∧ n ≤ i ∧
      (∀ l, S (Sum.inr (SX.S l)) = decide (l ∈ ls.take i)) ∧
      H' sn = some (SetK P w sn S n) ∧ H' a = some (.lst (ls.map vS)) ∧
      Same H H')
    ⟨fun _ => false, 0, none, none, rfl, Nat.le_refl _, fun l => by simp,
      upd_same, ha1, sameNew nsn⟩
    (fun i σ H' _ z => by obtain ⟨_, _, _, _, _, _, _, _, h, _⟩ := z; exact SqL.of h)
    ?_ ?_
  · rintro i v σ H1 H2 hi ⟨S, n, y, z, rfl, hn, hS, hs, ha2, sm⟩
      ⟨T, x1, x2, rfl, nT, rfl, e1, e2⟩
    obtain ⟨l, hl, rfl⟩ := get_map e2
    cases Option.some.inj e1
    rw [List.length_map] at hi
    have nl : Nm l := gd.nm l (List.mem_of_getElem? hl)
    have nTs : sn ≠ T := ne_of_none hs nT
    have nTa : a ≠ T := ne_of_none ha2 nT
    have sm1 : Same H (upd H1 T (.tup [.int (i : Nat), vS l])) :=
      sm.trans (sameNew nT)
    have nin : l ∉ ls.take i := nodup_take gd.nd hl
    refine ⟨T, _, rfl, .inl (.inl upd_same), rfl, _, _, rfl, _, _, rfl, rfl,
      ?_⟩
    refine ⟨_, rfl, _, rfl, .inl ⟨_, rfl, nl.len, fun H3 sm3 => ?_⟩⟩
    rw [nl.b]
    have hs3 : H3 sn = some (SetK P w sn S n) :=
      sm3 _ _ (by rw [upd_ne nTs]; exact hs)
    have ha3 : H3 a = some (.lst (ls.map vS)) :=
      sm3 _ _ (by rw [upd_ne nTa]; exact ha2)
    refine ⟨_, rfl, iteF ?_⟩
    refine ⟨_, rfl, _, rfl, Sum.inr (SX.S l), sn, S, n, rfl, rfl, hs3, _, rfl,
      ?_⟩
    have sf : S (Sum.inr (SX.S l)) = false := by
      rw [hS]; exact decide_eq_false nin
    rw [sf]
    refine iteF ?_
    refine ⟨_, rfl, ⟨sn, S, n, rfl, hs3⟩, _, rfl, sn, Sum.inr (SX.S l), S, n,
      rfl, rfl, hs3, ?_, ?_⟩
    · have := gd.hi
      show n + 1 < 4096
      omega
    refine ⟨_, _, _, _, rfl, ?_, ?_, upd_same, ?_, ?_⟩
    · rw [sf]
      show n + 1 ≤ i + 1
      omega
    · intro l'
      show (S (Sum.inr (SX.S l')) || decide ((Sum.inr (SX.S l') : Key) =
        Sum.inr (SX.S l))) = _
      rw [hS, List.take_add_one, hl]
      by_cases e : l' = l
      · subst e
        simp
      · have : ¬ ((Sum.inr (SX.S l') : Key) = Sum.inr (SX.S l)) :=
          fun z => e (SX.S_inj (Sum.inr.inj z))
        rw [decide_eq_false this, Bool.or_false]
        refine decide_eq_decide.mpr ?_
        rw [List.mem_append]
        constructor
        · exact Or.inl
        · rintro (z | z)
          · exact z
          · exact absurd (by simpa using z) e
    · rw [upd_ne nas]
      exact ha3
    · exact OM.Same.put (sm1.trans sm3) nsn
  · rintro σ H1 ⟨S, n, y, z, rfl, hn, hS, hs, ha2, sm⟩
    have h1 := gd.lo
    have h2 := gd.hi
    refine ⟨_, rfl, a, _, rfl, .inl (SqL.of ha2), _, _, rfl, rfl, _, rfl, ?_⟩
    rw [List.length_map, decide_eq_true (show (1 : Int) ≤ ls.length by omega)]
    refine iteT ⟨_, rfl, _, _, rfl, rfl, _, rfl, ?_⟩
    rw [decide_eq_true (show (ls.length : Int) ≤ 40 by omega)]
    exact iteF (q H1 sm)
theorem ok_check {f : Addr} {fd : FuncData} {k : Nat}
    (F : Fun K "check_items" "check_items" s_check_items f fd)
    (Cf : Cal P w K mg base k "names_fault" ["value", "most"] spNFaultOk)
    {t40 : Tok} (m40 : mg "MAX_ITEMS" = some (.int 40 t40)) :
    FnOk P w K mg base CX0 (k + 1) f fd ["items"] spCheckOk := by
  refine F.ok sc_check_items (fun vs H Q E h => ?_)
    (fun cv A outer s H vs Q E hr h => ?_)
  · obtain ⟨a, ls, rfl, _⟩ := h
    rfl
  obtain ⟨a, ls, rfl, ha, gd, q⟩ := h
  have nd := sc_check_items.nd
  refine ⟨_, pss_cons (ps_set (i := 1) nd rfl (.inl rfl)
      (pe_cal Cf hr (pa_cons (pv 0) (pa_cons
        (pe_glob (v := .int 40) (by rfl) m40 ⟨_, rfl⟩) pa_nil))))
    (pss_one (ps_if (pt_cmpR op_notN (pv 1) pe_non (nomark _))
      (pss_cons ps_never (pss_one ps_never)) pss_nil)), ?_⟩
  exact ⟨_, rfl, a, ls, rfl, ha, gd, fun H1 s1 =>
    ⟨_, rfl, rfl, _, rfl, iteF (q H1 s1)⟩⟩
end
end OM
namespace OM
open PySem PySem.Spec PyProof.Rows L2
/-! ### what a base holds -/
def prs : Nat → List (List Nat) → List (Key × V)
  | _, [] => []
  | n, l :: r => (Sum.inr (SX.S l), .int (n : Int)) :: prs (n + 1) r
theorem prs_len : ∀ (n : Nat) (ls : List (List Nat)),
    (prs n ls).length = ls.length
  | _, [] => rfl
  | n, _ :: r => congrArg (· + 1) (prs_len (n + 1) r)
theorem prs_snoc : ∀ (n : Nat) (ls : List (List Nat)) (l : List Nat),
    prs n (ls ++ [l]) =
      prs n ls ++ [(Sum.inr (SX.S l), .int ((n + ls.length : Nat) : Int))]
  | n, [], l => rfl
  | n, x :: r, l => by
    have ih := prs_snoc (n + 1) r l
    show (Sum.inr (SX.S x), V.int (n : Int)) :: prs (n + 1) (r ++ [l]) = _
    rw [ih, List.length_cons, show n + 1 + r.length = n + (r.length + 1) by
      omega]
    rfl
theorem val_prs (l : List Nat) : ∀ (n : Nat) (ls : List (List Nat)),
    valV (prs n ls) (Sum.inr (SX.S l) : Key) =
      if l ∈ ls then some (.int ((n + ls.idxOf l : Nat) : Int)) else none
  | n, [] => rfl
  | n, x :: r => by
    have ih := val_prs l (n + 1) r
    by_cases e : x = l
    · subst e
      rw [if_pos List.mem_cons_self, List.idxOf_cons_self]
      show Option.map _ (List.find? _ ((Sum.inr (SX.S x), _) :: _)) = _
      rw [List.find?_cons_of_pos (by simp)]
      rfl
    · have ne : ¬ ((Sum.inr (SX.S x) : Key) = Sum.inr (SX.S l)) :=
        fun z => e (SX.S_inj (Sum.inr.inj z))
      have hv : valV (prs n (x :: r)) (Sum.inr (SX.S l) : Key) =
          valV (prs (n + 1) r) (Sum.inr (SX.S l)) := by
        show Option.map _ (List.find? _ ((Sum.inr (SX.S x), _) :: _)) = _
        rw [List.find?_cons_of_neg (by simpa using ne)]
        rfl
      rw [hv, ih]
      by_cases m : l ∈ r
      · rw [if_pos m, if_pos (List.mem_cons_of_mem _ m),
          List.idxOf_cons, show (x == l) = false from
            beq_eq_false_iff_ne.mpr e]
        show some (V.int ((n + 1 + r.idxOf l : Nat) : Int)) =
          some (V.int ((n + (r.idxOf l + 1) : Nat) : Int))
        rw [show n + 1 + r.idxOf l = n + (r.idxOf l + 1) by omega]
      · rw [if_neg m, if_neg fun z => ?_]
        rcases List.mem_cons.mp z with z | z
        · exact e z.symm
        · exact m z
/-- the attributes -/
def bf (lo d : Addr) : List (Str × V) :=
  putF "places" (.ref d) (putF "listed" (.ref lo) [])
theorem ne_pl : ¬ (("listed" : Str) = "places") := by decide +kernel
theorem bf_listed (lo d : Addr) :
    (bf lo d).lookup ("listed" : Str) = some (.ref lo) := by
  unfold bf
  rw [lookup_putF, if_neg ne_pl, lookup_putF, if_pos rfl]
theorem bf_places (lo d : Addr) :
    (bf lo d).lookup ("places" : Str) = some (.ref d) := by
  unfold bf
  rw [lookup_putF, if_pos rfl]
theorem bf_no (lo d : Addr) {m : Str} (h1 : ¬ m = "places")
    (h2 : ¬ m = "listed") : (bf lo d).lookup m = none := by
  unfold bf
  rw [lookup_putF, if_neg h1, lookup_putF, if_neg h2]
  rfl
structure BaseAt (C : Addr) (H : Hp) (b : Addr) (ls : List (List Nat)) :
    Prop where
  ob : ∃ dx lo d, H b = some (.ins C dx (bf lo d)) ∧
    H lo = some (.lst (ls.map vS)) ∧ H d = some (.dK (prs 0 ls))
theorem BaseAt.same {C b : Addr} {H H' : Hp} {ls : List (List Nat)}
    (x : BaseAt C H b ls) (s : Same H H') : BaseAt C H' b ls := by
  obtain ⟨dx, lo, d, h1, h2, h3⟩ := x.ob
  exact ⟨dx, lo, d, s _ _ h1, s _ _ h2, s _ _ h3⟩
theorem neRng {H : Hp} {p q : Addr} {ls : List (List Nat)} (r : Rng H p)
    (h : H q = some (.lst (ls.map vS))) : q ≠ p := by
  obtain ⟨a, b, e, _⟩ := r
  refine ne_of h e fun z => ?_
  have z' := HO.lst.inj z
  cases ls with
  | nil => cases z'
  | cons l r =>
    rw [List.map_cons] at z'
    cases (List.cons.inj z').1
theorem BaseAt.but {C b p : Addr} {H H' : Hp} {ls : List (List Nat)}
    (x : BaseAt C H b ls) (r : Rng H p) (s : But p H H') :
    BaseAt C H' b ls := by
  obtain ⟨dx, lo, d, h1, h2, h3⟩ := x.ob
  have n2 := neRng r h2
  obtain ⟨i, j, e, _⟩ := r
  exact ⟨dx, lo, d, s _ _ h1 (ne_of h1 e nofun), s _ _ h2 n2,
    s _ _ h3 (ne_of h3 e nofun)⟩
theorem BaseAt.ne {C b p : Addr} {H : Hp} {ls : List (List Nat)}
    (x : BaseAt C H b ls) (n : H p = none) : b ≠ p := by
  obtain ⟨dx, lo, d, h1, h2, h3⟩ := x.ob
  exact ne_of_none h1 n
structure BC (K : PySem.W.Frag) (mg : Str → Option Value) (C : Addr) :
    Prop where
  ic : C8.InsC K C
  nL : NoAttr K C "listed"
  nP : NoAttr K C "places"
  mgC : mg "Base" = some (.ref C)
  kC : PySem.W.keepIn K (.ref C) = true
theorem BC.cl {K : PySem.W.Frag} {mg : Str → Option Value} {C : Addr}
    (x : BC K mg C) : Cls K C := x.ic.cl
/-- Base(items), the items being right -/
def spInitOk (C : Addr) : Sp := fun vs H Q _ =>
  ∃ (b a dx : Addr) (ls : List (List Nat)), vs = [.ref b, .ref a] ∧
  H b = some (.ins C dx []) ∧ H a = some (.lst (ls.map vS)) ∧ Good ls ∧
  ∀ H', BaseAt C H' b ls → But b H H' → Q .non H'
/-- a walk of a dict comprehension -/
theorem dc_walk {J : It} {n : Nat} {G : Hp → Prop}
    {Y : Nat → Hp → V → Hp → Prop} (wk : Walk J n G Y) {g : TG} {tt : TT}
    {tk tv : TE} {vs : List Nat} {σ : L2.St} {H1 : Hp} {D : Addr}
    {Qd : Hp → Prop} (Pv : Nat → Hp → Prop)
    (h0 : Pv 0 (upd H1 D (.dK []))) (hG : ∀ i H, i ≤ n → Pv i H → G H)
    (hs : ∀ i x H H', i < n → Pv i H → Y i H x H' →
      g x (wipe σ vs) H' fun σ2 H2 => wipe σ2 vs = wipe σ vs ∧
        tt σ2 H2 fun b H3 => if b = true then tk σ2 H3 fun y H4 =>
          tv σ2 H4 fun z H5 => ∃ kvs k, y = kV k ∧ H5 D = some (.dK kvs) ∧
            kvs.length < sizeLine ∧ Pv (i + 1) (upd H5 D (.dK (putK kvs k z)))
          else Pv (i + 1) H3)
    (hd : ∀ H, Pv n H → Qd H) :
    ∃ W : Nat → Nat → Hp → Prop, (∃ m, W 0 m (upd H1 D (.dK []))) ∧
      ∀ i m H, W i m H → (J.stop i H ∧ Qd H) ∨ (J.go i H ∧
        ∃ Nx : Hp → Prop, (∀ H', Nx H' → ∃ m', m' < m ∧ W (i + 1) m' H') ∧
        ∀ x H', J.yld i H x H' → g x (wipe σ vs) H' fun σ2 H2 =>
          wipe σ2 vs = wipe σ vs ∧ tt σ2 H2 fun b H3 => if b = true then
            tk σ2 H3 fun y H4 => tv σ2 H4 fun z H5 => ∃ kvs k, y = kV k ∧
              H5 D = some (.dK kvs) ∧ kvs.length < sizeLine ∧
              Nx (upd H5 D (.dK (putK kvs k z))) else Nx H3) := by
  refine ⟨fun i m H => m + i = n ∧ Pv i H, ⟨n, rfl, h0⟩, ?_⟩
  rintro i m H ⟨e, p⟩
  have q := hG i H (by omega) p
  rcases Nat.lt_or_ge i n with lt | ge
  · exact .inr ⟨wk.goes i H lt q, Pv (i + 1),
      fun H' p' => ⟨m - 1, by omega, by omega, p'⟩,
      fun x H' y => hs i x H H' lt p (wk.yields i H x H' lt q y)⟩
  · have e' : i = n := by omega
    subst e'
    exact .inl ⟨wk.stops H q, hd H p⟩
section
variable {P : Program} {w : World} {K : PySem.W.Frag}
  {mg : Str → Option Value} {base : Heap} {C : Addr}
theorem ok_init {f : Addr} {fd : FuncData} {k : Nat}
    (F : Fun K "__init__" "Base.__init__" s_Base_init f fd) (B : Bl mg)
    (T : BC K mg C)
    (Ck : Cal P w K mg base k "check_items" ["items"] spCheckOk) :
    FnOk P w K mg base CX0 (k + 1) f fd ["self", "items"] (spInitOk C) := by
  refine F.ok sc_Base_init (fun vs H Q E h => ?_)
    (fun cv A outer s H vs Q E hr h => ?_)
  · obtain ⟨b, a, dx, ls, rfl, _⟩ := h
    rfl
  obtain ⟨b, a, dx, ls, rfl, hb, ha, gd, q⟩ := h
  have nd := sc_Base_init.nd
  refine ⟨_, pss_cons (ps_expr (pe_cal Ck hr (pa_cons (pv 1) pa_nil)))
    (pss_cons (ps_fld (pv 0) (pe_callTy call_list_of (by rfl) B.list bt_list
      (pa_cons (pv 1) pa_nil)) rfl)
    (pss_one (ps_fld (pv 0)
      (pe_dc (own := [("name", 2), ("at", 3)])
        (g := gTup K 2 (gCons (gName 3) (gCons (gName 2) gNil)))
        (tt := tYes) rfl nd
        (pi_enum (by rfl) B.enum (pa_cons (pv 1) pa_nil))
        (blkOk_by (N := N_Base_init) (sc := defScope s_Base_init)
          (by decide +kernel))
        (fun _ _ _ _ _ => pg_tup rfl (pgs_cons (pg_name (i := 3) nd rfl
          (Or.inl rfl)) (pgs_cons (pg_name (i := 2) nd rfl (Or.inl rfl))
          pgs_nil)))
        (fun _ _ _ _ _ => pts_nil) (fun _ _ _ _ _ => pv 2)
        (fun _ _ _ _ _ => pv 3)) rfl))), ?_⟩
  refine ⟨_, rfl, a, ls, rfl, ha, gd, fun H1 s1 => ?_⟩
  have nba : b ≠ a := ne_of hb ha nofun
  have hb1 := s1 _ _ hb
  have ha1 := s1 _ _ ha
  refine ⟨_, rfl, a, _, rfl, .inl (SqL.of ha1), fun lo nlo => ?_⟩
  have nbl : b ≠ lo := ne_of_none hb1 nlo
  have nal : a ≠ lo := ne_of_none ha1 nlo
  refine ⟨_, rfl, b, C, dx, [], rfl, by rw [upd_ne nbl]; exact hb1, T.cl, T.nL,
    by decide, ?_⟩
  generalize eH2 : upd (upd H1 lo (.lst (ls.map vS))) b
    (.ins C dx (putF "listed" (.ref lo) [])) = H2
  have hb2 : H2 b = some (.ins C dx (putF "listed" (.ref lo) [])) := by
    rw [← eH2]; exact upd_same
  have ha2 : H2 a = some (.lst (ls.map vS)) := by
    rw [← eH2, upd_ne nba.symm, upd_ne nal]; exact ha1
  have hl2 : H2 lo = some (.lst (ls.map vS)) := by
    rw [← eH2, upd_ne nbl.symm, upd_same]
  have b2 : But b H H2 := by
    rw [← eH2]
    exact ((But.of s1).new (s1.free nlo)).at
  refine ⟨_, rfl, a, _, rfl, SqL.of ha2, fun d nd' => ?_⟩
  have ndb : b ≠ d := ne_of_none hb2 nd'
  have nda : a ≠ d := ne_of_none ha2 nd'
  have ndl : lo ≠ d := ne_of_none hl2 nd'
  refine dc_walk (walk_enum (K := K) (a := a) (xs := ls.map vS))
    (fun i H' => H' d = some (.dK (prs 0 (ls.take i))) ∧
      H' b = some (.ins C dx (putF "listed" (.ref lo) [])) ∧
      H' a = some (.lst (ls.map vS)) ∧ H' lo = some (.lst (ls.map vS)) ∧
      But b H H')
    ⟨upd_same, by rw [upd_ne ndb]; exact hb2, by rw [upd_ne nda]; exact ha2,
      by rw [upd_ne ndl]; exact hl2, b2.put nd' ndb.symm⟩
    (fun i H' _ z => SqL.of z.2.2.1) ?_ ?_
  · rintro i v H3 H4 hi ⟨hd, h1, h2, h3, b3⟩ ⟨T', x1, x2, rfl, nT, rfl, e1, e2⟩
    obtain ⟨l, hl, rfl⟩ := get_map e2
    cases Option.some.inj e1
    rw [List.length_map] at hi
    have hhi := gd.hi
    refine ⟨T', _, rfl, .inl (.inl upd_same), rfl, _, _, rfl, _, _, rfl, rfl,
      rfl, yes ⟨_, rfl, _, rfl, prs 0 (ls.take i), Sum.inr (SX.S l), rfl, ?_, ?_,
      ?_, ?_, ?_, ?_, ?_⟩⟩
    · rw [upd_ne (ne_of_none hd nT)]
      exact hd
    · rw [prs_len, List.length_take]
      exact sz' (by omega)
    · rw [upd_same, putK_new _ (by
        rw [val_prs, if_neg (nodup_take gd.nd hl)]),
        List.take_add_one, hl]
      show _ = some (HO.dK (prs 0 (ls.take i ++ [l])))
      rw [prs_snoc, List.length_take, Nat.min_eq_left (by omega),
        Nat.zero_add]
    · rw [upd_ne ndb, upd_ne (ne_of_none h1 nT)]
      exact h1
    · rw [upd_ne nda, upd_ne (ne_of_none h2 nT)]
      exact h2
    · rw [upd_ne ndl, upd_ne (ne_of_none h3 nT)]
      exact h3
    · exact (b3.put nT (ne_of_none h1 nT).symm).new (b2.free ndb.symm nd')
  · rintro H3 ⟨hd, h1, h2, h3, b3⟩
    rw [List.take_of_length_le (by rw [List.length_map]; exact Nat.le_refl _)]
      at hd
    refine ⟨_, rfl, b, C, dx, _, rfl, h1, T.cl, T.nP,
      by show 1 < 1000; decide, ?_⟩
    refine q _ ⟨dx, lo, d, upd_same, ?_, ?_⟩ b3.at
    · rw [upd_ne nbl.symm]
      exact h3
    · rw [upd_ne ndb.symm]
      exact hd
end
end OM
namespace OM
open PySem PySem.Spec PyProof.Rows L2
/-! ### a method, in one word -/
structure CalM (P : Program) (w : World) (K : PySem.W.Frag)
    (mg : Str → Option Value) (base : Heap) (C : Addr) (k : Nat) (x : Str)
    (ps : List Str) (sp : Sp) : Prop where
  cl : Cls K C
  ex : ∃ f fd, FnOk P w K mg base CX0 k f fd ps sp ∧ Meth K C x f ∧
    Binds K fd ps []
section
variable {X : Cx} {k : Nat} {ps : List Str} {sp : Sp} {x : Str} {C : Addr}
  {p pos : Pos} {o e : Expr} {es : List Expr} {t : TA} {to : TE}
theorem pe_calM {pl : Sem Bool} (M : CalM X.prog X.w X.K X.mg X.base C k x ps sp)
    (room : Room k X.A) (ho : PE X o to) (ha : PA X (e :: es) t)
    (h1 : starEach (e :: es) X.env =
      (false, eval e X.env) :: starEach es X.env := by rfl)
    (h2 : (backTo pos (starEach es X.env)).any (·.1) = false := by rfl)
    (h3 : eval (.Call (.Attribute o x p) (e :: es) [] pos) X.env = (do
      let ov ← eval o X.env
      standAt p.atName
      let (f, first) ← holding [ov] (getMethod ov x pl)
      callWith pos f first (backTo pos (starEach (e :: es) X.env))
        (backToKw pos (keywordEach [] X.env))) := by rfl) :
    PE X (.Call (.Attribute o x p) (e :: es) [] pos)
      (tMeth C x sp [] E0 to t) := by
  obtain ⟨f, fd, F, m, b⟩ := M.ex
  exact pe_meth (pl := pl) ho M.cl m F room b .nil pass0 ha h1 h2 h3
theorem pe_calM0 {pl : Sem Bool} (M : CalM X.prog X.w X.K X.mg X.base C k x ps sp)
    (room : Room k X.A) (ho : PE X o to)
    (h3 : eval (.Call (.Attribute o x p) [] [] pos) X.env = (do
      let ov ← eval o X.env
      standAt p.atName
      let (f, first) ← holding [ov] (getMethod ov x pl)
      callWith pos f first (backTo pos (starEach [] X.env))
        (backToKw pos (keywordEach [] X.env))) := by rfl) :
    PE X (.Call (.Attribute o x p) [] [] pos)
      (tMeth C x sp [] E0 to tNil) := by
  obtain ⟨f, fd, F, m, b⟩ := M.ex
  exact pe_meth0 (pl := pl) ho M.cl m F room b .nil pass0 h3
end
def spGetNames (C : Addr) : Sp := fun vs H Q _ =>
  ∃ (b : Addr) (ls : List (List Nat)), vs = [.ref b] ∧ BaseAt C H b ls ∧
  ∀ q H', H q = none → H' q = some (.lst (ls.map vS)) → Same H H' →
    Q (.ref q) H'
def spLenB (C : Addr) : Sp := fun vs H Q _ =>
  ∃ (b : Addr) (ls : List (List Nat)), vs = [.ref b] ∧ BaseAt C H b ls ∧
  Q (.int ls.length) H
/-- == of two bases -/
def spEqB (C : Addr) : Sp := fun vs H Q _ =>
  ∃ (b o : Addr) (ls ms : List (List Nat)), vs = [.ref b, .ref o] ∧
  BaseAt C H b ls ∧ BaseAt C H o ms ∧ Uni ls ∧ Uni ms ∧
  Q (.bl (decide (ls = ms))) H
def baseText (ls : List (List Nat)) : Str :=
  Str.empty ++ Str.ofString "Base(" ++ (PyData.list (dN ls)).shown ++
    Str.ofString ")"
/-- repr of a base -/
def spReprB (C : Addr) : Sp := fun vs H Q _ =>
  ∃ (b : Addr) (ls : List (List Nat)), vs = [.ref b] ∧ BaseAt C H b ls ∧
  Good ls ∧ Q (.str (baseText ls)) H
theorem Nm.uni {l : List Nat} (n : Nm l) : ∀ c ∈ l, c < 1114112 := fun c h => by
  have := n.az c h
  omega
theorem Good.uni {ls : List (List Nat)} (g : Good ls) : Uni ls :=
  fun l h => (g.nm l h).uni
theorem Good.shown {ls : List (List Nat)} (g : Good ls) :
    (PyData.list (dN ls)).shown.length ≤ sizeLine := by
  have := g.hi
  exact shown_L (m := 8) (by omega) (by omega) fun l h =>
    ⟨(g.nm l h).hi, (g.nm l h).uni⟩
section
variable {P : Program} {w : World} {K : PySem.W.Frag}
  {mg : Str → Option Value} {base : Heap} {C : Addr}
theorem ok_getnames {f : Addr} {fd : FuncData} {k : Nat}
    (F : Fun K "names" "Base.names" s_Base_names f fd) (B : Bl mg)
    (T : BC K mg C) :
    FnOk P w K mg base CX0 (k + 1) f fd ["self"] (spGetNames C) := by
  refine F.ok sc_Base_names (fun vs H Q E h => ?_)
    (fun cv A outer s H vs Q E hr h => ?_)
  · obtain ⟨b, ls, rfl, _⟩ := h
    rfl
  obtain ⟨b, ls, rfl, hb, q⟩ := h
  obtain ⟨dx, lo, d, h1, h2, h3⟩ := hb.ob
  refine ⟨_, pss_one (ps_ret (pe_callTy call_list_of (by rfl) B.list bt_list
    (pa_cons (pe_fld (pv 0) rfl) pa_nil))), ?_⟩
  exact ⟨_, rfl, b, C, dx, _, _, rfl, h1, T.cl, T.nL, bf_listed _ _, lo, _, rfl,
    .inl (SqL.of h2), fun l nl => q l _ nl upd_same (sameNew nl)⟩
theorem ok_lenB {f : Addr} {fd : FuncData} {k : Nat}
    (F : Fun K "__len__" "Base.__len__" s_Base_len f fd) (B : Bl mg)
    (T : BC K mg C) :
    FnOk P w K mg base CX0 (k + 1) f fd ["self"] (spLenB C) := by
  refine F.ok sc_Base_len (fun vs H Q E h => ?_)
    (fun cv A outer s H vs Q E hr h => ?_)
  · obtain ⟨b, ls, rfl, _⟩ := h
    rfl
  obtain ⟨b, ls, rfl, hb, q⟩ := h
  obtain ⟨dx, lo, d, h1, h2, h3⟩ := hb.ob
  refine ⟨_, pss_one (ps_ret (pe_callB call_len_seq (by rfl) B.len
    PySem.boot_len (pa_cons (pe_fld (pv 0) rfl) pa_nil))), ?_⟩
  refine ⟨_, rfl, b, C, dx, _, _, rfl, h1, T.cl, T.nL, bf_listed _ _, lo, _,
    rfl, .inl (SqL.of h2), ?_⟩
  rw [List.length_map]
  exact q
theorem ok_eqB {f : Addr} {fd : FuncData} {k : Nat}
    (F : Fun K "__eq__" "Base.__eq__" s_Base_eq f fd) (B : Bl mg)
    (T : BC K mg C) :
    FnOk P w K mg base CX0 (k + 1) f fd ["self", "other"] (spEqB C) := by
  refine F.ok sc_Base_eq (fun vs H Q E h => ?_)
    (fun cv A outer s H vs Q E hr h => ?_)
  · obtain ⟨b, o, ls, ms, rfl, _⟩ := h
    rfl
  obtain ⟨b, o, ls, ms, rfl, hb, ho, u1, u2, q⟩ := h
  obtain ⟨dx, lo, d, h1, h2, h3⟩ := hb.ob
  obtain ⟨dy, mo, e, g1, g2, g3⟩ := ho.ob
  refine ⟨_, pss_one (ps_ret (pe_and
    (pe_callB (C8.call_isC T.ic) (by rfl) B.isi bt_isi (pa_cons (pv 1)
      (pa_cons (pe_glob (v := .ref C) (by rfl) T.mgC rfl) pa_nil)))
    (pe_one (pe_cmpR (op_eqD hr.units) (pe_fld (pv 0) rfl) (pe_fld (pv 1) rfl)
      (nomark _))))), ?_⟩
  refine ⟨_, rfl, o, dy, _, rfl, g1, _, rfl, iteT ?_⟩
  refine ⟨_, rfl, b, C, dx, _, _, rfl, h1, T.cl, T.nL, bf_listed _ _, _, rfl, o,
    C, dy, _, _, rfl, g1, T.cl, T.nL, bf_listed _ _, _, _, dp_N (SqL.of h2),
    dp_N (SqL.of g2), shaped_L u1, shaped_L u2, ?_⟩
  rw [eqv_L]
  exact q
theorem ok_reprB {f : Addr} {fd : FuncData} {k : Nat}
    (F : Fun K "__repr__" "Base.__repr__" s_Base_repr f fd)
    (T : BC K mg C) :
    FnG P w K mg base CX0 (k + 1) f fd ["self"] (spReprB C) := by
  refine okG F sc_Base_repr (fun vs H Q E h => ?_)
    (fun cv A outer s H vs Q E hr gd h => ?_)
  · obtain ⟨b, ls, rfl, _⟩ := h
    rfl
  obtain ⟨b, ls, rfl, hb, good, q⟩ := h
  obtain ⟨dx, lo, d, h1, h2, h3⟩ := hb.ob
  refine ⟨_, pss_one (ps_ret (pe_joined (.cons pe_str (.cons
    (pe_fmtD hr gd (pe_fld (pv 0) rfl)) (.cons pe_str .nil))))), ?_⟩
  have l1 := good.shown
  have l2 : (PyData.list (dN ls)).shown.length ≤ 10004003 := by
    have e : (PyData.list (dN ls)).shown =
        listText (PyData.shownAll (dN ls)) := by simp only [PyData.shown]
    have p := piled_N ls 8 fun l h => ⟨(good.nm l h).hi, (good.nm l h).uni⟩
    have q := listText_len_le (PyData.shownAll (dN ls))
    rw [e]
    have r : ((PyData.shownAll (dN ls)).map (·.length)).sum +
        2 * (PyData.shownAll (dN ls)).length =
        piled (PyData.shownAll (dN ls)) := by
      generalize PyData.shownAll (dN ls) = ts
      induction ts with
      | nil => rfl
      | cons t ts ih =>
        rw [piled_cons, List.map_cons, List.sum_cons, List.length_cons]
        omega
    have s : ls.length * (10 * 8 + 4) ≤ 40 * 84 :=
      Nat.mul_le_mul good.hi (Nat.le_refl _)
    omega
  have l3 : (Str.ofString "Base(").length = 5 := by decide +kernel
  have l4 : (Str.ofString ")").length = 1 := by decide +kernel
  have l5 : (Str.empty).length = 0 := by decide +kernel
  have l6 : 10005000 ≤ sizeLine := by decide
  refine ⟨_, rfl, ?_, _, rfl, b, C, dx, _, _, rfl, h1, T.cl, T.nL,
    bf_listed _ _, lo, _, rfl, dp_N (SqL.of h2), showable_L ls,
    Nat.le_trans (depth_L ls) (by decide), l1, _, rfl, ?_, _, rfl, ?_, q⟩
  · rw [strLen_append]
    omega
  · rw [strLen_append, strLen_append]
    omega
  · rw [strLen_append, strLen_append, strLen_append]
    omega
end
end OM
namespace OM
open PySem PySem.Spec PyProof.Rows L2
/-- is it an item -/
def spHas (K : PySem.W.Frag) (C : Addr) : Sp := fun vs H Q _ =>
  ∃ (b : Addr) (ls : List (List Nat)) (v : V), vs = [.ref b, v] ∧
  BaseAt C H b ls ∧ (∀ l ∈ ls, Nm l) ∧
  ((∃ x : Str, v = .str x ∧ x.length ≤ sizeLine ∧ ∀ H', Same H H' →
      Q (.bl (decide (x.cps.toList ∈ ls))) H') ∨
   (∃ t, TyX K H v t ∧ PySem.W.kitOne K t (.type "str") = some false ∧
      ∀ H', Same H H' → Q (.bl false) H'))
section
variable {P : Program} {w : World} {K : PySem.W.Frag}
  {mg : Str → Option Value} {base : Heap} {C : Addr}
theorem ok_has {f : Addr} {fd : FuncData} {k : Nat}
    (F : Fun K "has_item" "Base.has_item" s_Base_has_item f fd) (B : Bl mg)
    (T : BC K mg C) (Ci : CalIsName P w K mg base k) :
    FnOk P w K mg base CX0 (k + 1) f fd ["self", "value"] (spHas K C) := by
  refine F.ok sc_Base_has_item (fun vs H Q E h => ?_)
    (fun cv A outer s H vs Q E hr h => ?_)
  · obtain ⟨b, ls, v, rfl, _⟩ := h
    rfl
  obtain ⟨b, ls, v, rfl, hb, nm, h⟩ := h
  have hu := hu_of hr
  refine ⟨_, pss_one (ps_ret (pe_and (pe_cal Ci hr (pa_cons (pv 1) pa_nil))
    (pe_one (pe_cmp (pc_din hu (pv 1) (pe_fld (pv 0) rfl)) rfl)))), ?_⟩
  rcases h with ⟨x, rfl, hx, q⟩ | ⟨t, ty, kt, q⟩
  · refine ⟨_, rfl, _, rfl, .inl ⟨x, rfl, hx, fun H1 s1 => ?_⟩⟩
    obtain ⟨dx, lo, d, h1, h2, h3⟩ := (hb.same s1).ob
    refine ⟨_, rfl, ?_⟩
    by_cases hm : x.cps.toList ∈ ls
    · have e : nmB x.cps.toList = true := nmB_iff.mpr (nm _ hm)
      rw [e]
      refine iteT ⟨_, rfl, _, rfl, b, C, dx, _, _, rfl, h1, T.cl, T.nP,
        bf_places _ _, d, _, rfl, DGet.k (k := Sum.inr x) h3, ?_⟩
      have ex : x = SX.S x.cps.toList := (SX.S_tl x).symm
      rw [ex, val_prs, if_pos hm]
      have := q H1 s1
      rw [decide_eq_true hm] at this
      exact this
    · have qf := q H1 s1
      rw [decide_eq_false hm] at qf
      cases e : nmB x.cps.toList with
      | false => exact iteF qf
      | true =>
        refine iteT ⟨_, rfl, _, rfl, b, C, dx, _, _, rfl, h1, T.cl, T.nP,
          bf_places _ _, d, _, rfl, DGet.k (k := Sum.inr x) h3, ?_⟩
        have ex : x = SX.S x.cps.toList := (SX.S_tl x).symm
        rw [ex, val_prs, if_neg hm]
        exact qf
  · exact ⟨_, rfl, _, rfl, .inr ⟨t, ty, kt, _, rfl, iteF (q H (Same.refl H))⟩⟩
end
end OM
namespace OM
open PySem PySem.Spec PyProof.Rows L2
/-! ### a class that is made, in one word -/
structure CalC (P : Program) (w : World) (K : PySem.W.Frag)
    (mg : Str → Option Value) (base : Heap) (C : Addr) (k : Nat) (x : Str)
    (ps : List Str) (sp : Sp) : Prop where
  mgC : mg x = some (.ref C)
  ex : ∃ f fd, FnOk P w K mg base CX0 k f fd ps sp ∧ Mk K C f ∧
    Binds K fd ps []
section
variable {X : Cx} {k : Nat} {ps : List Str} {sp : Sp} {x : Str} {C : Addr}
  {p pos : Pos} {e : Expr} {es : List Expr} {t : TA}
theorem pe_calC (M : CalC X.prog X.w X.K X.mg X.base C k x ps sp)
    (room : Room (k + 1) X.A) (ha : PA X (e :: es) t)
    (hg : Gl X x := by rfl)
    (h1 : (x == ("__debug__" : Str)) = false := by decide)
    (h2 : starEach (e :: es) X.env =
      (false, eval e X.env) :: starEach es X.env := by rfl)
    (h3 : (backTo pos (starEach es X.env)).any (·.1) = false := by rfl) :
    PE X (.Call (.Name x p) (e :: es) [] pos) (tMake C sp [] E0 t) := by
  obtain ⟨f, fd, F, m, b⟩ := M.ex
  exact pe_make m F room hg M.mgC b .nil pass0 ha h1 h2 h3
end
theorem cut_to (xs : List V) {n : Nat} (h : n ≤ xs.length) :
    cutV xs none (some (n : Int)) = xs.take n := by
  unfold cutV
  rw [HT.sIx_nat, HT.sIx_none, Nat.min_eq_left h, Nat.sub_zero,
    List.drop_zero]
theorem cut_from (xs : List V) {n : Nat} (h : n ≤ xs.length) :
    cutV xs (some (n : Int)) none = xs.drop n := by
  unfold cutV
  rw [HT.sIx_nat, HT.sIx_none, Nat.min_eq_left h]
  exact List.take_of_length_le (by rw [List.length_drop]; exact Nat.le_refl _)
/-- os is an order of the base -/
structure Ord (C : Addr) (H : Hp) (b a : Addr) (ls os : List (List Nat)) :
    Prop where
  ba : BaseAt C H b ls
  good : Good ls
  li : H a = some (.lst (os.map vS))
  pm : os.Perm ls
theorem Ord.same {C b a : Addr} {H H' : Hp} {ls os : List (List Nat)}
    (x : Ord C H b a ls os) (s : Same H H') : Ord C H' b a ls os :=
  ⟨x.ba.same s, x.good, s _ _ x.li, x.pm⟩
theorem Good.perm {ls os : List (List Nat)} (g : Good ls)
    (p : os.Perm ls) : Good os :=
  ⟨fun l h => g.nm l (p.mem_iff.mp h), p.nodup_iff.mpr g.nd,
    by rw [p.length_eq]; exact g.lo, by rw [p.length_eq]; exact g.hi⟩
end OM
namespace OM
open PySem PySem.Spec PyProof.Rows L2
def spFaultOk (C : Addr) : Sp := fun vs H Q _ =>
  ∃ (b a : Addr) (ls os : List (List Nat)), vs = [.ref b, .ref a] ∧
  Ord C H b a ls os ∧ ∀ H', Same H H' → Q .non H'
def spIsOrderOk (C : Addr) : Sp := fun vs H Q _ =>
  ∃ (b a : Addr) (ls os : List (List Nat)), vs = [.ref b, .ref a] ∧
  Ord C H b a ls os ∧ ∀ H', Same H H' → Q (.bl true) H'
section
variable {P : Program} {w : World} {K : PySem.W.Frag}
  {mg : Str → Option Value} {base : Heap} {C : Addr}
theorem ok_fault {f fl : Addr} {fd fdl : FuncData} {k n : Nat}
    (F : Fun K "order_fault" "order_fault" s_order_fault f fd) (B : Bl mg)
    (T : BC K mg C)
    (Mh : CalM P w K mg base C k "has_item" ["self", "value"] (spHas K C))
    (Sl : Spec1 K C "__len__" fl fdl ["self"])
    (Gl : FnOk P w K mg base CX0 n fl fdl ["self"] (spLenB C))
    (hn : n + 1 ≤ k) :
    FnOk P w K mg base CX0 (k + 1) f fd ["base", "value"] (spFaultOk C) := by
  refine F.ok sc_order_fault (fun vs H Q E h => ?_)
    (fun cv A outer s H vs Q E hr h => ?_)
  · obtain ⟨b, a, ls, os, rfl, _⟩ := h
    rfl
  obtain ⟨b, a, ls, os, rfl, o, q⟩ := h
  have nd := sc_order_fault.nd
  have hrn := hr.mono hn
  refine ⟨_, pss_cons (ps_if (pt_not (pt_val
      (pe_callB call_isi (by rfl) B.isi bt_isi (pa_cons (pv 1) (pa_cons
        (pe_bltn (v := .ty "list") (by rfl) B.list bt_list rfl) pa_nil)))))
      (pss_one ps_never) pss_nil)
    (pss_cons (ps_for PassesOwn.never rfl
      (pi_enum (by rfl) B.enum (pa_cons (pv 1) pa_nil))
      (pg_tup rfl (pgs_cons (pg_name (i := 2) nd rfl (.inl rfl))
        (pgs_cons (pg_name (i := 3) nd rfl (.inl rfl)) pgs_nil)))
      (pss_one (ps_if (PW.pt (pw_or (pt_not (pt_val
          (pe_calM Mh hr (pv 0) (pa_cons (pv 3) pa_nil))))
          (pw_or1 (pt_cmpR op_in_seq (pv 3)
            (pe_slice sl_list (pv 1) po_none (po_some (pv 2))) (by rfl)))))
        (pss_one ps_never) pss_nil)))
    (pss_cons (ps_if (pt_cmpR op_lt
        (pe_callB call_len_seq (by rfl) B.len PySem.boot_len
          (pa_cons (pv 1) pa_nil))
        (pe_callB (call_lenOwn Sl Gl hrn) (by rfl) B.len PySem.boot_len
          (pa_cons (pv 0) pa_nil)) (nomark _))
      (pss_one ps_never) pss_nil)
    (pss_one (ps_ret pe_non)))), ?_⟩
  refine ⟨_, rfl, _, _, _, _, true, rfl, .ty "list", .base (.lst o.li),
    kit_ty (by decide +kernel), _, rfl, iteF ?_⟩
  refine ⟨_, rfl, a, _, rfl, SqL.of o.li, ?_⟩
  have go := o.good.perm o.pm
  refine for_it (walk_enum (K := K) (a := a) (xs := os.map vS))
    (fun i σ H' => ∃ (y z : Option V),
      σ = [some (.ref b), some (.ref a), y, z] ∧ Same H H')
    ⟨none, none, rfl, Same.refl H⟩
    (fun i σ H' _ z => by
      obtain ⟨_, _, _, sm⟩ := z
      exact SqL.of (sm _ _ o.li))
    ?_ ?_
  · rintro i v σ H1 H2 hi ⟨y, z, rfl, sm⟩ ⟨T', x1, x2, rfl, nT, rfl, e1, e2⟩
    obtain ⟨l, hl, rfl⟩ := get_map e2
    cases Option.some.inj e1
    rw [List.length_map] at hi
    have o1 := o.same sm
    have o2 := o1.same (sameNew (o := .tup [.int (i : Nat), vS l]) nT)
    obtain ⟨dx, lo, d, h1, h2, h3⟩ := o2.ba.ob
    have ml : l ∈ os := List.mem_of_getElem? hl
    have nl : Nm l := go.nm l ml
    refine ⟨T', _, rfl, .inl (.inl upd_same), rfl, _, _, rfl, _, _, rfl, rfl,
      ?_⟩
    refine ⟨_, rfl, b, dx, _, rfl, h1, bf_no _ _ (by decide +kernel)
      (by decide +kernel), _, rfl, b, ls, _, rfl, o2.ba, o.good.nm, .inl ⟨_, rfl,
      nl.len, fun H3 s3 => ?_⟩⟩
    have o3 := o2.same s3
    rw [decide_eq_true (show (SX.S l).cps.toList ∈ ls from
      o.pm.mem_iff.mp ml)]
    refine ⟨_, rfl, iteF ?_⟩
    refine ⟨_, rfl, _, rfl, _, rfl, i, rfl, a, _, rfl, SqL.of o3.li,
      fun t nt => ?_⟩
    rw [cut_to _ (by rw [List.length_map]; omega), ← List.map_take]
    refine ⟨t, _, rfl, .inl (SqL.of upd_same), rfl, flat_S _, _, rfl, ?_⟩
    rw [inV_S, decide_eq_false (nodup_take go.nd hl)]
    refine iteF ⟨_, _, rfl, ?_⟩
    exact ((sm.trans (sameNew nT)).trans s3).trans (sameNew nt)
  · rintro σ H1 ⟨y, z, rfl, sm⟩
    have o1 := o.same sm
    obtain ⟨dx, lo, d, h1, h2, h3⟩ := o1.ba.ob
    refine ⟨_, rfl, a, _, rfl, .inl (SqL.of o1.li), _, rfl, b, dx, _, rfl, h1,
      b, ls, rfl, o1.ba, ls.length, rfl, ?_, _, _, rfl, rfl, _, rfl, ?_⟩
    · have := o.good.hi
      omega
    · rw [List.length_map, o.pm.length_eq, decide_eq_false (by omega)]
      exact iteF (q H1 sm)
theorem ok_checkorder {f : Addr} {fd : FuncData} {k : Nat}
    (F : Fun K "check_order" "check_order" s_check_order f fd)
    (Cf : Cal P w K mg base k "order_fault" ["base", "value"]
      (spFaultOk C)) :
    FnOk P w K mg base CX0 (k + 1) f fd ["base", "order"] (spFaultOk C) := by
  refine F.ok sc_check_order (fun vs H Q E h => ?_)
    (fun cv A outer s H vs Q E hr h => ?_)
  · obtain ⟨b, a, ls, os, rfl, _⟩ := h
    rfl
  obtain ⟨b, a, ls, os, rfl, o, q⟩ := h
  have nd := sc_check_order.nd
  refine ⟨_, pss_cons (ps_set (i := 2) nd rfl (.inl rfl)
      (pe_cal Cf hr (pa_cons (pv 0) (pa_cons (pv 1) pa_nil))))
    (pss_one (ps_if (pt_cmpR op_notN (pv 2) pe_non (nomark _))
      (pss_one ps_never) pss_nil)), ?_⟩
  exact ⟨_, rfl, _, rfl, b, a, ls, os, rfl, o, fun H1 s1 =>
    ⟨_, rfl, rfl, _, rfl, iteF (q H1 s1)⟩⟩
end
end OM
namespace OM
open PySem PySem.Spec PyProof.Rows L2
section
variable {P : Program} {w : World} {K : PySem.W.Frag}
  {mg : Str → Option Value} {base : Heap} {C : Addr}
theorem ok_isorder {f : Addr} {fd : FuncData} {k : Nat}
    (F : Fun K "is_order" "is_order" s_is_order f fd)
    (Cf : Cal P w K mg base k "order_fault" ["base", "value"]
      (spFaultOk C)) :
    FnOk P w K mg base CX0 (k + 1) f fd ["base", "value"]
      (spIsOrderOk C) := by
  refine F.ok sc_is_order (fun vs H Q E h => ?_)
    (fun cv A outer s H vs Q E hr h => ?_)
  · obtain ⟨b, a, ls, os, rfl, _⟩ := h
    rfl
  obtain ⟨b, a, ls, os, rfl, o, q⟩ := h
  refine ⟨_, pss_one (ps_ret (pe_cmpR op_isN
    (pe_cal Cf hr (pa_cons (pv 0) (pa_cons (pv 1) pa_nil))) pe_non
    (nomark _))), ?_⟩
  exact ⟨_, rfl, _, rfl, b, a, ls, os, rfl, o, fun H1 s1 => ⟨rfl, q H1 s1⟩⟩
end
end OM
namespace OM
open PySem PySem.Spec PyProof.Rows L2
/-- one of the options -/
def spChoice (K : PySem.W.Frag) : Sp := fun vs H Q _ =>
  ∃ (p a : Addr) (xs : List V), vs = [.ref p, .ref a] ∧ Rng H p ∧
  SqL K H a xs ∧ a ≠ p ∧ 0 < xs.length ∧ xs.length ≤ 1000 ∧
  ∀ (x : V) (H' : Hp), x ∈ xs → Rng H' p → But p H H' → Q x H'
section
variable {P : Program} {w : World} {K : PySem.W.Frag}
  {mg : Str → Option Value} {base : Heap}
theorem ok_choice {f : Addr} {fd : FuncData} {k : Nat}
    (F : Fun K "_law_choice" "_law_choice" s_Lchoice f fd) (B : Bl mg)
    (Cd : CalDraw P w K mg base k) :
    FnOk P w K mg base CX0 (k + 1) f fd ["_law_rng_here", "_law_options"]
      (spChoice K) := by
  refine F.ok sc_Lchoice (fun vs H Q E h => ?_)
    (fun cv A outer s H vs Q E hr h => ?_)
  · obtain ⟨p, a, xs, rfl, _⟩ := h
    rfl
  obtain ⟨p, a, xs, rfl, rg, hS, nap, h0, h1, q⟩ := h
  refine ⟨_, pss_one (ps_ret (pe_ix ix_list (pv 1) (pe_cal Cd hr
    (pa_cons (pv 0) (pa_cons (pe_callB call_len_seq (by rfl) B.len
      PySem.boot_len (pa_cons (pv 1) pa_nil)) pa_nil))) (fun _ _ => rfl))), ?_⟩
  refine ⟨_, rfl, _, rfl, _, rfl, a, _, rfl, .inl hS, p, xs.length, rfl, rg,
    by omega, by omega, fun d H1 d0 d1 rg1 b1 => ?_⟩
  have hd : d.toNat < xs.length := by omega
  have ed : d = ((d.toNat : Nat) : Int) := by omega
  refine ⟨a, xs, d, xs[d.toNat], rfl, rfl, b1.seq hS nap, ?_,
    q _ H1 (List.getElem_mem hd) rg1 b1⟩
  have := atI_nat (List.getElem?_eq_getElem hd)
  rw [← ed] at this
  exact this
end
end OM
namespace OM
open PySem PySem.Spec PyProof.Rows L2
/-- an item's place -/
def spPos (C : Addr) : Sp := fun vs H Q _ =>
  ∃ (b : Addr) (ls : List (List Nat)) (l : List Nat), vs = [.ref b, vS l] ∧
  BaseAt C H b ls ∧ (∀ l ∈ ls, Nm l) ∧ l ∈ ls ∧
  ∀ H', Same H H' → Q (.int ((ls.idxOf l : Nat) : Int)) H'
def spPrec (C : Addr) : Sp := fun vs H Q _ =>
  ∃ (b : Addr) (ls : List (List Nat)) (l m : List Nat),
  vs = [.ref b, vS l, vS m] ∧
  BaseAt C H b ls ∧ (∀ l ∈ ls, Nm l) ∧ l ∈ ls ∧ m ∈ ls ∧
  ∀ H', Same H H' → Q (.bl (decide (ls.idxOf l < ls.idxOf m))) H'
theorem idx_get {ls : List (List Nat)} {l : List Nat} (h : l ∈ ls) :
    (ls.map vS)[ls.idxOf l]? = some (vS l) := by
  have hl := List.idxOf_lt_length_of_mem h
  rw [List.getElem?_map, List.getElem?_eq_getElem hl, List.getElem_idxOf hl]
  rfl
theorem idx_first {ls : List (List Nat)} {l : List Nat} (m : Nat) (z : V)
    (hm : m < ls.idxOf l) (hz : (ls.map vS)[m]? = some z) :
    eqV z (vS l) = false := by
  rw [List.getElem?_map] at hz
  cases e : ls[m]? with
  | none => rw [e] at hz; cases hz
  | some x =>
    rw [e] at hz
    cases Option.some.inj hz
    have ne : x ≠ l := by
      rintro rfl
      obtain ⟨hl, e2⟩ := List.getElem?_eq_some_iff.mp e
      have := List.not_of_lt_findIdx hm
      simp [e2] at this
    unfold eqV
    simp
    exact ne
theorem eqV_self (l : List Nat) : eqV (vS l) (vS l) = true := by
  unfold eqV
  simp
section
variable {P : Program} {w : World} {K : PySem.W.Frag}
  {mg : Str → Option Value} {base : Heap} {C : Addr}
theorem ok_pos {f : Addr} {fd : FuncData} {k : Nat}
    (F : Fun K "position_of" "Base.position_of" s_Base_position_of f fd)
    (T : BC K mg C)
    (Mh : CalM P w K mg base C k "has_item" ["self", "value"] (spHas K C)) :
    FnOk P w K mg base CX0 (k + 1) f fd ["self", "item"] (spPos C) := by
  refine F.ok sc_Base_position_of (fun vs H Q E h => ?_)
    (fun cv A outer s H vs Q E hr h => ?_)
  · obtain ⟨b, ls, l, rfl, _⟩ := h
    rfl
  obtain ⟨b, ls, l, rfl, hb, nm, hm, q⟩ := h
  have hu := hu_of hr
  refine ⟨_, pss_cons (ps_if (pt_not (pt_val
      (pe_calM Mh hr (pv 0) (pa_cons (pv 1) pa_nil)))) (pss_one ps_never)
      pss_nil)
    (pss_one (ps_ret (pe_dget hu (pe_fld (pv 0) rfl) (pv 1)
      (fun _ _ => rfl)))), ?_⟩
  obtain ⟨dx, lo, d, h1, h2, h3⟩ := hb.ob
  refine ⟨_, rfl, b, dx, _, rfl, h1, bf_no _ _ (by decide +kernel)
    (by decide +kernel), _, rfl, b, ls, _, rfl, hb, nm, .inl ⟨_, rfl,
    (nm l hm).len, fun H1 s1 => ?_⟩⟩
  rw [decide_eq_true (show (SX.S l).cps.toList ∈ ls from hm)]
  refine ⟨_, rfl, iteF ?_⟩
  refine ⟨_, rfl, b, C, dx, _, _, rfl, s1 _ _ h1, T.cl, T.nP, bf_places _ _, _,
    rfl, d, _, rfl, ?_, q H1 s1⟩
  have g := DGet.k (k := Sum.inr (SX.S l)) (s1 _ _ h3)
  rw [val_prs, if_pos hm, Nat.zero_add] at g
  exact g
theorem ok_prec {f : Addr} {fd : FuncData} {k : Nat}
    (F : Fun K "precedes" "Base.precedes" s_Base_precedes f fd)
    (Mp : CalM P w K mg base C k "position_of" ["self", "item"] (spPos C)) :
    FnOk P w K mg base CX0 (k + 1) f fd ["self", "first", "second"]
      (spPrec C) := by
  refine F.ok sc_Base_precedes (fun vs H Q E h => ?_)
    (fun cv A outer s H vs Q E hr h => ?_)
  · obtain ⟨b, ls, l, m, rfl, _⟩ := h
    rfl
  obtain ⟨b, ls, l, m, rfl, hb, nm, hl, hm, q⟩ := h
  refine ⟨_, pss_one (ps_ret (pe_cmpR op_lt
    (pe_calM Mp hr (pv 0) (pa_cons (pv 1) pa_nil))
    (pe_calM Mp hr (pv 0) (pa_cons (pv 2) pa_nil)) (nomark _))), ?_⟩
  obtain ⟨dx, lo, d, h1, h2, h3⟩ := hb.ob
  refine ⟨_, rfl, b, dx, _, rfl, h1, bf_no _ _ (by decide +kernel)
    (by decide +kernel), _, rfl, b, ls, l, rfl, hb, nm, hl, fun H1 s1 => ?_⟩
  refine ⟨_, rfl, b, dx, _, rfl, s1 _ _ h1, bf_no _ _ (by decide +kernel)
    (by decide +kernel), _, rfl, b, ls, m, rfl, hb.same s1, nm, hm,
    fun H2 s2 => ⟨_, _, rfl, rfl, ?_⟩⟩
  have := q H2 (s1.trans s2)
  show Q (.bl (decide (((ls.idxOf l : Nat) : Int) <
    ((ls.idxOf m : Nat) : Int)))) H2
  rw [show decide (((ls.idxOf l : Nat) : Int) < ((ls.idxOf m : Nat) : Int)) =
    decide (ls.idxOf l < ls.idxOf m) from decide_eq_decide.mpr
      ⟨fun z => by omega, fun z => by omega⟩]
  exact this
end
end OM
namespace OM
open PySem PySem.Spec PyProof.Rows L2
/-- do two items stand the other way round -/
def invB (ls os : List (List Nat)) (l m : List Nat) : Bool :=
  !decide (V.bl (decide (ls.idxOf l < ls.idxOf m)) =
    V.bl (decide (os.idxOf l < os.idxOf m)))
def spInv (C : Addr) : Sp := fun vs H Q _ =>
  ∃ (b a : Addr) (ls os : List (List Nat)) (l m : List Nat),
  vs = [.ref b, .ref a, vS l, vS m] ∧ Ord C H b a ls os ∧ l ∈ ls ∧ m ∈ ls ∧
  ∀ H', Same H H' → Q (.bl (invB ls os l m)) H'
section
variable {P : Program} {w : World} {K : PySem.W.Frag}
  {mg : Str → Option Value} {base : Heap} {C : Addr}
theorem ok_inv {f : Addr} {fd : FuncData} {k : Nat}
    (F : Fun K "is_inverted" "is_inverted" s_is_inverted f fd)
    (Cc : Cal P w K mg base k "check_order" ["base", "order"] (spFaultOk C))
    (Mp : CalM P w K mg base C k "precedes" ["self", "first", "second"]
      (spPrec C)) :
    FnOk P w K mg base CX0 (k + 1) f fd ["base", "order", "first", "second"]
      (spInv C) := by
  refine F.ok sc_is_inverted (fun vs H Q E h => ?_)
    (fun cv A outer s H vs Q E hr h => ?_)
  · obtain ⟨b, a, ls, os, l, m, rfl, _⟩ := h
    rfl
  obtain ⟨b, a, ls, os, l, m, rfl, o, hl, hm, q⟩ := h
  have nd := sc_is_inverted.nd
  refine ⟨_, pss_cons (ps_expr (pe_cal Cc hr (pa_cons (pv 0)
      (pa_cons (pv 1) pa_nil))))
    (pss_cons (ps_set (i := 4) nd rfl (.inl rfl) (pe_calM Mp hr (pv 0)
      (pa_cons (pv 2) (pa_cons (pv 3) pa_nil))))
    (pss_cons (ps_set (i := 5) nd rfl (.inl rfl) (pe_cmpR op_lt
      (pe_bm PySem.F.plainAttrs_list PySem.F.slot_list_index
        PySem.F.type_list_index mt_index (pv 1) (pa_cons (pv 2) pa_nil))
      (pe_bm PySem.F.plainAttrs_list PySem.F.slot_list_index
        PySem.F.type_list_index mt_index (pv 1) (pa_cons (pv 3) pa_nil))
      (nomark _)))
    (pss_one (ps_ret (pe_cmpR op_ne (pv 4) (pv 5) (nomark _)))))), ?_⟩
  refine ⟨_, rfl, _, rfl, b, a, ls, os, rfl, o, fun H1 s1 => ?_⟩
  have o1 := o.same s1
  obtain ⟨dx, lo, d, h1, h2, h3⟩ := o1.ba.ob
  refine ⟨_, rfl, b, dx, _, rfl, h1, bf_no _ _ (by decide +kernel)
    (by decide +kernel), _, rfl, _, rfl, b, ls, l, m, rfl, o1.ba, o.good.nm, hl,
    hm, fun H2 s2 => ?_⟩
  have hL := SqL.of (K := K) ((o1.same s2).li)
  have ml : l ∈ os := o.pm.mem_iff.mpr hl
  have mm : m ∈ os := o.pm.mem_iff.mpr hm
  refine ⟨_, rfl, .inl ⟨rfl, _, hL⟩, _, rfl, a, _, _, os.idxOf l, vS l, rfl, rfl,
    hL, rfl, flat_S os, idx_get ml, eqV_self l, idx_first, _, rfl,
    .inl ⟨rfl, _, hL⟩, _, rfl, a, _, _, os.idxOf m, vS m, rfl, rfl,
    hL, rfl, flat_S os, idx_get mm, eqV_self m, idx_first, _, _, rfl, rfl, _,
    rfl, _, rfl, rfl, ?_⟩
  have := q H2 (s1.trans s2)
  unfold invB at this
  show Q (.bl (!decide (V.bl (decide (ls.idxOf l < ls.idxOf m)) =
    V.bl (decide (((os.idxOf l : Nat) : Int) <
      ((os.idxOf m : Nat) : Int)))))) H2
  rw [show decide (((os.idxOf l : Nat) : Int) < ((os.idxOf m : Nat) : Int)) =
    decide (os.idxOf l < os.idxOf m) from decide_eq_decide.mpr
      ⟨fun z => by omega, fun z => by omega⟩]
  exact this
end
end OM
namespace OM
open PySem PySem.Spec PyProof.Rows L2
/-- the inverted pairs, new tuples in a new list -/
def spPairs (C : Addr) : Sp := fun vs H Q _ =>
  ∃ (b a : Addr) (ls os : List (List Nat)), vs = [.ref b, .ref a] ∧
  Ord C H b a ls os ∧ ∀ (q : Addr) (rs : List Addr) (H' : Hp), H q = none →
    H' q = some (.lst (rs.map V.ref)) → PrsAt H' rs (invAll ls os) →
    Same H H' → Q (.ref q) H'
/-- the same by the law -/
def spLInv : Sp := fun vs H Q _ =>
  ∃ (it a : Addr) (ls os : List (List Nat)), vs = [.ref it, .ref a] ∧
  H it = some (.lst (ls.map vS)) ∧ H a = some (.lst (os.map vS)) ∧ Good ls ∧
  os.Perm ls ∧ ∀ (q : Addr) (rs : List Addr) (H' : Hp), H q = none →
    H' q = some (.lst (rs.map V.ref)) → PrsAt H' rs (invAll ls os) →
    Same H H' → Q (.ref q) H'
theorem invF_snoc (os : List (List Nat)) (f : List Nat) (r : List (List Nat))
    (s : List Nat) : invF os f (r ++ [s]) = invF os f r ++
      if os.idxOf s < os.idxOf f then [(f, s)] else [] := by
  unfold invF
  rw [List.filter_append, List.map_append]
  congr 1
  by_cases h : os.idxOf s < os.idxOf f
  · rw [List.filter_cons_of_pos (by simpa using h), if_pos h]
    rfl
  · rw [List.filter_cons_of_neg (by simpa using h), if_neg h]
    rfl
theorem take_snoc {α : Type} {r : List α} {j : Nat} {s : α}
    (h : r[j]? = some s) : r.take (j + 1) = r.take j ++ [s] := by
  rw [List.take_add_one, h]
  rfl
theorem Good.many {ls : List (List Nat)} (g : Good ls) (os : List (List Nat))
    {i : Nat} (hi : i ≤ ls.length) : (invTo ls os i).length ≤ 1600 := by
  have a := invTo_len ls os i hi
  have b := g.hi
  have : i * ls.length ≤ 40 * 40 := Nat.mul_le_mul (by omega) b
  omega
theorem SqL.up {K : PySem.W.Frag} {H H' : Hp} {a : Addr} {xs : List V}
    (h : H a = some (.lst xs)) (s : Same H H') : SqL K H' a xs :=
  SqL.of (s _ _ h)
theorem PrsAt.put {H : Hp} {D : Addr} {o : HO} {xs : List V} :
    ∀ {rs : List Addr} {ps : List Pr}, PrsAt H rs ps →
      H D = some (.lst xs) → PrsAt (upd H D o) rs ps
  | _, _, .nil, _ => .nil
  | _, _, .cons h t, hD => .cons (by
      rw [upd_ne (ne_of h hD nofun)]; exact h) (PrsAt.put t hD)
end OM
namespace OM
open PySem PySem.Spec PyProof.Rows L2
section
variable {P : Program} {w : World} {K : PySem.W.Frag}
  {mg : Str → Option Value} {base : Heap} {C : Addr}
theorem ok_pairs {f : Addr} {fd : FuncData} {k : Nat}
    (F : Fun K "inverted_pairs" "inverted_pairs" s_inverted_pairs f fd)
    (B : Bl mg)
    (Cc : Cal P w K mg base k "check_order" ["base", "order"] (spFaultOk C))
    (Mn : CalM P w K mg base C k "names" ["self"] (spGetNames C)) :
    FnOk P w K mg base CX0 (k + 1) f fd ["base", "order"] (spPairs C) := by
  refine F.ok sc_inverted_pairs (fun vs H Q E h => ?_)
    (fun cv A outer s H vs Q E hr h => ?_)
  · obtain ⟨b, a, ls, os, rfl, _⟩ := h
    rfl
  obtain ⟨b, a, ls, os, rfl, o, q⟩ := h
  have nd := sc_inverted_pairs.nd
  have hu := hu_of hr
  refine ⟨_, pss_cons (ps_expr (pe_cal Cc hr (pa_cons (pv 0)
      (pa_cons (pv 1) pa_nil))))
    (pss_cons (ps_set (i := 2) nd rfl (.inr rfl)
      (pe_dc (own := [("name", 3), ("at", 4)])
        (g := gTup K 2 (gCons (gName 4) (gCons (gName 3) gNil)))
        (tt := tYes) rfl nd
        (pi_enum (by rfl) B.enum (pa_cons (pv 1) pa_nil))
        (blkOk_by (N := N_inverted_pairs) (sc := defScope s_inverted_pairs)
          (by decide +kernel))
        (fun _ _ _ _ _ => pg_tup rfl (pgs_cons (pg_name (i := 4) nd rfl
          (Or.inl rfl)) (pgs_cons (pg_name (i := 3) nd rfl (Or.inl rfl))
          pgs_nil)))
        (fun _ _ _ _ _ => pts_nil) (fun _ _ _ _ _ => pv 3)
        (fun _ _ _ _ _ => pv 4)))
    (pss_cons (ps_set (i := 5) nd rfl (.inr rfl) (pe_calM0 Mn hr (pv 0)))
    (pss_one (ps_ret
      (pe_lc2 (own := [("at", 4), ("first", 6), ("second", 7)]) (vs1 := [7])
        (g := gTup K 2 (gCons (gName 4) (gCons (gName 6) gNil)))
        (tt := tYes) (g1 := gName 7)
        (wi1 := iList K (tSl (rSlL K) (tVar 5) (tPart (tOp
          (rI0 fun i j => .int (i + j)) (tVar 4) (tC (.int 1)))) tNoPart))
        rfl nd
        (pi_enum (by rfl) B.enum (pa_cons (pv 5) pa_nil))
        (blkOk_by (N := N_inverted_pairs) (sc := defScope s_inverted_pairs)
          (by decide +kernel))
        (by decide)
        (fun _ _ _ _ _ => pg_tup rfl (pgs_cons (pg_name (i := 4) nd rfl
          (Or.inl rfl)) (pgs_cons (pg_name (i := 6) nd rfl (Or.inl rfl))
          pgs_nil)))
        (fun _ _ _ _ _ => pts_nil)
        (fun _ _ _ _ _ => pi_list (pe_slice sl_list (pv 5)
          (po_some (pe_op op_add (pv 4) pe_int)) po_none))
        (fun _ _ _ _ _ => pg_name (i := 7) nd rfl (Or.inl rfl))
        (fun _ _ _ _ _ => pts_one (pt_cmpR op_lt
          (pe_dget hu (pv 2) (pv 7) (fun _ _ => rfl))
          (pe_dget hu (pv 2) (pv 6) (fun _ _ => rfl)) (nomark _)))
        (fun _ _ _ _ _ => pe_tup (pa_cons (pv 6)
          (pa_cons (pv 7) pa_nil)))))))), ?_⟩
  have go := o.good.perm o.pm
  refine ⟨_, rfl, _, rfl, b, a, ls, os, rfl, o, fun H1 s1 => ?_⟩
  have o1 := o.same s1
  -- places
  refine ⟨_, rfl, a, _, rfl, SqL.of o1.li, fun d nd' => ?_⟩
  refine walkW (walk_enum (K := K) (a := a) (xs := os.map vS))
    (fun i H' => H' d = some (.dK (prs 0 (os.take i))) ∧ Same H1 H')
    ⟨upd_same, sameNew nd'⟩ (fun i H' _ z => SqL.up o1.li z.2) ?_ ?_
  · rintro i v H3 H4 hi ⟨hd, s3⟩ ⟨T', x1, x2, rfl, nT, rfl, e1, e2⟩
    obtain ⟨l, hl, rfl⟩ := get_map e2
    cases Option.some.inj e1
    rw [List.length_map] at hi
    have hhi := go.hi
    refine ⟨T', _, rfl, .inl (.inl upd_same), rfl, _, _, rfl, _, _, rfl, rfl,
      rfl, yes ⟨_, rfl, _, rfl, prs 0 (os.take i), Sum.inr (SX.S l), rfl, ?_, ?_,
      ?_, ?_⟩⟩
    · rw [upd_ne (ne_of_none hd nT)]
      exact hd
    · rw [prs_len, List.length_take]
      exact sz' (by omega)
    · rw [upd_same, putK_new _ (by
        rw [val_prs, if_neg (nodup_take go.nd hl)]), take_snoc hl, prs_snoc,
        List.length_take, Nat.min_eq_left (by omega), Nat.zero_add]
    · exact OM.Same.put (s3.trans (sameNew nT)) nd'
  rintro H2 ⟨hd, s2⟩
  rw [List.take_of_length_le (by rw [List.length_map]; exact Nat.le_refl _)]
    at hd
  have o2 := o1.same s2
  -- names
  obtain ⟨dx, lo, e, h1, h2, h3⟩ := o2.ba.ob
  refine ⟨_, rfl, b, dx, _, rfl, h1, bf_no _ _ (by decide +kernel)
    (by decide +kernel), b, ls, rfl, o2.ba, fun nm H3 nn hn s3 => ?_⟩
  have hd3 := s3 _ _ hd
  -- the pairs
  refine ⟨_, rfl, nm, _, rfl, SqL.of hn, fun D nD => ?_⟩
  refine walkW (walk_enum (K := K) (a := nm) (xs := ls.map vS))
    (fun i H' => ∃ rs, H' D = some (.lst (rs.map V.ref)) ∧
      PrsAt H' rs (invTo ls os i) ∧ Same H3 H')
    ⟨[], upd_same, .nil, sameNew nD⟩ (fun i H' _ z => by
      obtain ⟨_, _, _, s⟩ := z; exact SqL.up hn s) ?_ ?_
  · rintro i v H4 H5 hi ⟨rs, hD, pr, s4⟩ ⟨T', x1, x2, rfl, nT, rfl, e1, e2⟩
    obtain ⟨g, hg, rfl⟩ := get_map e2
    cases Option.some.inj e1
    rw [List.length_map] at hi
    have mg' : g ∈ os := o.pm.mem_iff.mpr (List.mem_of_getElem? hg)
    have s5 : Same H3 (upd H4 T' (.tup [.int (i : Nat), vS g])) :=
      s4.trans (sameNew nT)
    have hD5 : (upd H4 T' (.tup [.int (i : Nat), vS g])) D =
        some (.lst (rs.map V.ref)) := by rw [upd_ne (ne_of_none hD nT)]; exact hD
    have pr5 := pr.same (sameNew (o := .tup [.int (i : Nat), vS g]) nT)
    refine ⟨T', _, rfl, .inl (.inl upd_same), rfl, _, _, rfl, _, _, rfl, rfl,
      rfl, yes ⟨_, rfl, _, rfl, _, _, rfl, rfl, _, rfl, nm, _, rfl,
      SqL.up hn s5, fun t nt => ?_⟩⟩
    have ec : cutV (ls.map vS) (some ((i : Int) + 1)) none =
        (ls.drop (i + 1)).map vS := by
      have := cut_from (ls.map vS) (n := i + 1) (by
        rw [List.length_map]; omega)
      rw [← List.map_drop] at this
      exact this
    rw [ec]
    refine ⟨t, rfl, ⟨_, SqL.of upd_same⟩, ?_⟩
    have ntD : D ≠ t := ne_of_none hD5 nt
    refine walkW (walk_list (K := K) (a := t)
      (xs := (ls.drop (i + 1)).map vS))
      (fun j H' => ∃ rs, H' D = some (.lst (rs.map V.ref)) ∧
        PrsAt H' rs (invTo ls os i ++ invF os g ((ls.drop (i + 1)).take j)) ∧
        Same H3 H' ∧ H' t = some (.lst ((ls.drop (i + 1)).map vS)))
      ⟨rs, by rw [upd_ne ntD]; exact hD5, ?_, s5.trans (sameNew nt), upd_same⟩
      (fun j H' _ z => by obtain ⟨_, _, _, _, h⟩ := z; exact SqL.of h) ?_ ?_
    · rw [List.take_zero, show invF os g [] = [] from rfl, List.append_nil]
      exact pr5.same (sameNew nt)
    · rintro j v H6 H7 hj ⟨rs, hD6, pr6, s6, ht⟩ ⟨rfl, ex⟩
      obtain ⟨c, hc, rfl⟩ := get_map ex
      have mc : c ∈ os := o.pm.mem_iff.mpr (List.mem_of_mem_drop
        (List.mem_of_getElem? hc))
      have g1 := DGet.k (k := Sum.inr (SX.S c)) (s6 _ _ hd3)
      have g2 := DGet.k (k := Sum.inr (SX.S g)) (s6 _ _ hd3)
      rw [val_prs, if_pos mc, Nat.zero_add] at g1
      rw [val_prs, if_pos mg', Nat.zero_add] at g2
      refine ⟨rfl, _, rfl, _, rfl, d, _, rfl, g1, _, rfl, _, rfl, d, _, rfl, g2,
        _, _, rfl, rfl, _, rfl, ?_⟩
      have m1 := o.good.many os (show i ≤ ls.length by omega)
      have m2 := invF_len os g ((ls.drop (i + 1)).take j)
      rw [List.length_take, List.length_drop] at m2
      have hhi := o.good.hi
      have lrs := pr6.len
      rw [List.length_append] at lrs
      refine ite2 (fun z => ?_) (fun z => ?_)
      · have z' : os.idxOf c < os.idxOf g := by
          have : ((os.idxOf c : Nat) : Int) < ((os.idxOf g : Nat) : Int) :=
            of_decide_eq_true z
          omega
        refine ⟨_, rfl, _, rfl, sz (by simp), fun r nr => ⟨rs.map V.ref, ?_, ?_,
          rs ++ [r], ?_, ?_, ?_, ?_⟩⟩
        · rw [upd_ne (ne_of_none hD6 nr)]
          exact hD6
        · rw [List.length_map]
          exact sz' (by omega)
        · rw [upd_same, List.map_append]
          rfl
        · rw [take_snoc hc, invF_snoc, if_pos z', ← List.append_assoc]
          refine (PrsAt.snoc (p := (g, c)) upd_same (pr6.same (sameNew nr))).put
            (xs := rs.map V.ref) ?_
          rw [upd_ne (ne_of_none hD6 nr)]
          exact hD6
        · exact OM.Same.put (s6.trans (sameNew nr)) nD
        · rw [upd_ne (ne_of ht hD6 (fun y => ?_)), upd_ne (ne_of_none ht nr)]
          · exact ht
          · exact absurd y (fun y => by
              have y' := HO.lst.inj y
              have : 0 < (ls.drop (i + 1)).length := by
                have := (List.getElem?_eq_some_iff.mp hc).1
                omega
              cases e : ls.drop (i + 1) with
              | nil => rw [e] at this; exact absurd this (by decide)
              | cons x r =>
                rw [e] at y'
                cases rs with
                | nil => cases y'
                | cons r0 rr => cases (List.cons.inj y').1)
      · have z' : ¬ os.idxOf c < os.idxOf g := fun y => z (decide_eq_true
          (show ((os.idxOf c : Nat) : Int) < ((os.idxOf g : Nat) : Int) by
            omega))
        refine ⟨rs, hD6, ?_, s6, ht⟩
        rw [take_snoc hc, invF_snoc, if_neg z', List.append_nil]
        exact pr6
    · rintro H6 ⟨rs, hD6, pr6, s6, ht⟩
      refine ⟨rs, hD6, ?_, s6⟩
      rw [List.take_of_length_le (by rw [List.length_map]; exact Nat.le_refl _)]
        at pr6
      show PrsAt H6 rs (invTo ls os i ++ _)
      rw [hg]
      exact pr6
  · rintro H4 ⟨rs, hD, pr, s4⟩
    rw [List.length_map] at pr
    refine q D rs H4 ?_ hD pr (((s1.trans s2).trans s3).trans s4)
    exact ((s1.trans s2).trans s3).free nD
end
end OM
namespace OM
open PySem PySem.Spec PyProof.Rows L2
structure Bl2 (mg : Str → Option Value) : Prop where
  dict : mg "dict" = none
  int : mg "int" = none
theorem bt_dict : bootBuiltins "dict" = some (.type "dict") := by
  decide +kernel
theorem bt_int : bootBuiltins "int" = some (.type "int") := by
  decide +kernel
theorem merge_prs {ls : List (List Nat)} (nd : ls.Nodup) : ∀ i, i ≤ ls.length →
    mergeK [] (prs 0 (ls.take i)) = prs 0 (ls.take i)
  | 0, _ => rfl
  | i + 1, h => by
    have ih := merge_prs nd i (by omega)
    have hi : ls[i]? = some ls[i] := List.getElem?_eq_getElem (by omega)
    rw [take_snoc hi, prs_snoc]
    unfold mergeK at ih ⊢
    rw [List.foldl_append, ih]
    show putK (prs 0 (ls.take i)) (Sum.inr (SX.S ls[i])) _ = _
    rw [putK_new _ (by rw [val_prs, if_neg (nodup_take nd hi)])]
/-- the tuples (item, place) -/
def KvAt (K : PySem.W.Frag) (H : Hp) (rs : List Addr)
    (kvs : List (Key × V)) : Prop :=
  Paired (fun p (kv : Key × V) => SqT K H p [kV kv.1, kv.2]) rs kvs
theorem KvAt.snoc {K : PySem.W.Frag} {H : Hp} {r : Addr} {kv : Key × V}
    (h : SqT K H r [kV kv.1, kv.2]) : ∀ {rs : List Addr}
    {kvs : List (Key × V)}, KvAt K H rs kvs → KvAt K H (rs ++ [r]) (kvs ++ [kv])
  | _, _, .nil => .cons h .nil
  | _, _, .cons a t => .cons a (KvAt.snoc h t)
theorem KvAt.len {K : PySem.W.Frag} {H : Hp} : ∀ {rs : List Addr}
    {kvs : List (Key × V)}, KvAt K H rs kvs → rs.length = kvs.length
  | _, _, .nil => rfl
  | _, _, .cons _ t => congrArg (· + 1) (KvAt.len t)
theorem SqT.put {K : PySem.W.Frag} {H : Hp} {r D : Addr} {o : HO}
    {xs ys : List V} (h : SqT K H r xs) (hD : H D = some (.lst ys)) :
    SqT K (upd H D o) r xs := by
  rcases h with (h | ⟨ob, h⟩) | h
  · exact .inl (.inl (by rw [upd_ne (ne_of h hD nofun)]; exact h))
  · exact .inl (.inr ⟨ob, by rw [upd_ne (ne_of h hD nofun)]; exact h⟩)
  · exact .inr h
theorem SqT.same {K : PySem.W.Frag} {H H' : Hp} {r : Addr} {xs : List V}
    (h : SqT K H r xs) (s : Same H H') : SqT K H' r xs := by
  rcases h with (h | ⟨ob, h⟩) | h
  · exact .inl (.inl (s _ _ h))
  · exact .inl (.inr ⟨ob, s _ _ h⟩)
  · exact .inr h
theorem KvAt.put {K : PySem.W.Frag} {H : Hp} {D : Addr} {o : HO} {ys : List V}
    (hD : H D = some (.lst ys)) : ∀ {rs : List Addr} {kvs : List (Key × V)},
    KvAt K H rs kvs → KvAt K (upd H D o) rs kvs
  | _, _, .nil => .nil
  | _, _, .cons h t => .cons (OM.SqT.put h hD) (KvAt.put hD t)
theorem KvAt.same {K : PySem.W.Frag} {H H' : Hp} (s : Same H H') :
    ∀ {rs : List Addr} {kvs : List (Key × V)},
    KvAt K H rs kvs → KvAt K H' rs kvs
  | _, _, .nil => .nil
  | _, _, .cons h t => .cons (OM.SqT.same h s) (KvAt.same s t)
section
variable {P : Program} {w : World} {K : PySem.W.Frag}
  {mg : Str → Option Value} {base : Heap} {C : Addr}
theorem ok_linv {f : Addr} {fd : FuncData} {k : Nat}
    (F : Fun K "_law_inverted" "_law_inverted" s_Linverted f fd)
    (B : Bl mg) (B2 : Bl2 mg) :
    FnOk P w K mg base CX0 (k + 1) f fd ["_law_items", "_law_order"]
      spLInv := by
  refine F.ok sc_Linverted (fun vs H Q E h => ?_)
    (fun cv A outer s H vs Q E hr h => ?_)
  · obtain ⟨it, a, ls, os, rfl, _⟩ := h
    rfl
  obtain ⟨it, a, ls, os, rfl, hit, ha, gl, pm, q⟩ := h
  have nd := sc_Linverted.nd
  have hu := hu_of hr
  refine ⟨_, pss_cons (ps_set (i := 2) nd rfl (.inr rfl)
      (pe_callTy (call_dictP rfl) (by rfl) B2.dict bt_dict (pa_cons
        (pe_lc (own := [("_law_k", 4), ("_law_item", 3)])
          (g := gTup K 2 (gCons (gName 4) (gCons (gName 3) gNil)))
          (tt := tYes) rfl nd
          (pi_enum (by rfl) B.enum (pa_cons (pv 1) pa_nil))
          (blkOk_by (N := N_Linverted) (sc := defScope s_Linverted)
            (by decide +kernel))
          (fun _ _ _ _ _ => pg_tup rfl (pgs_cons (pg_name (i := 4) nd rfl
            (Or.inl rfl)) (pgs_cons (pg_name (i := 3) nd rfl (Or.inl rfl))
            pgs_nil)))
          (fun _ _ _ _ _ => pts_nil)
          (fun _ _ _ _ _ => pe_tup (pa_cons (pv 3) (pa_cons (pv 4) pa_nil))))
        pa_nil)))
    (pss_cons (ps_set (i := 5) nd rfl (.inl rfl) (pe_lst pa_nil))
    (pss_cons (ps_for PassesOwn.never rfl
      (pi_enum (by rfl) B.enum (pa_cons (pv 0) pa_nil))
      (pg_tup rfl (pgs_cons (pg_name (i := 4) nd rfl (.inl rfl))
        (pgs_cons (pg_name (i := 6) nd rfl (.inr rfl)) pgs_nil)))
      (pss_one (ps_set (i := 5) nd rfl (.inl rfl) (pe_op op_cat (pv 5)
        (pe_lc (own := [("_law_second", 7)]) (g := gName 7) rfl nd
          (pi_list (pe_slice sl_list (pv 0)
            (po_some (pe_op op_add (pv 4) pe_int)) po_none))
          (blkOk_by (N := N_Linverted) (sc := defScope s_Linverted)
            (by decide +kernel))
          (fun _ _ _ _ _ => pg_name (i := 7) nd rfl (Or.inl rfl))
          (fun _ _ _ _ _ => pts_one (pt_cmpR op_lt
            (pe_dget hu (pv 2) (pv 7) (fun _ _ => rfl))
            (pe_dget hu (pv 2) (pv 6) (fun _ _ => rfl)) (nomark _)))
          (fun _ _ _ _ _ => pe_tup (pa_cons (pv 6)
            (pa_cons (pv 7) pa_nil))))))))
    (pss_one (ps_ret (pv 5))))), ?_⟩
  have go := gl.perm pm
  -- the places
  refine ⟨_, rfl, a, _, rfl, SqL.of ha, fun L nL => ?_⟩
  refine walkW (walk_enum (K := K) (a := a) (xs := os.map vS))
    (fun i H' => ∃ rs, H' L = some (.lst (rs.map V.ref)) ∧
      KvAt K H' rs (prs 0 (os.take i)) ∧ Same H H')
    ⟨[], upd_same, .nil, sameNew nL⟩ (fun i H' _ z => by
      obtain ⟨_, _, _, s⟩ := z; exact SqL.up ha s) ?_ ?_
  · rintro i v H3 H4 hi ⟨rs, hL, kv, s3⟩ ⟨T', x1, x2, rfl, nT, rfl, e1, e2⟩
    obtain ⟨l, hl, rfl⟩ := get_map e2
    cases Option.some.inj e1
    rw [List.length_map] at hi
    have hhi := go.hi
    have lk := kv.len
    rw [prs_len, List.length_take] at lk
    refine ⟨T', _, rfl, .inl (.inl upd_same), rfl, _, _, rfl, _, _, rfl, rfl,
      rfl, yes ⟨_, rfl, _, rfl, sz (by simp), fun r nr => ⟨rs.map V.ref, ?_, ?_,
      rs ++ [r], ?_, ?_, ?_⟩⟩⟩
    · rw [upd_ne (ne_of_none (sameNew nT _ _ hL) nr), upd_ne (ne_of_none hL nT)]
      exact hL
    · rw [List.length_map]
      exact sz' (by omega)
    · rw [upd_same, List.map_append]
      rfl
    · rw [take_snoc hl, prs_snoc, List.length_take, Nat.min_eq_left (by omega),
        Nat.zero_add]
      refine KvAt.put (ys := rs.map V.ref) ?_ (KvAt.snoc
        (kv := (Sum.inr (SX.S l), .int (i : Nat))) (.inl (.inl upd_same))
        (KvAt.same (sameNew nr) (KvAt.same (sameNew nT) kv)))
      rw [upd_ne (ne_of_none (sameNew nT _ _ hL) nr), upd_ne (ne_of_none hL nT)]
      exact hL
    · exact OM.Same.put ((s3.trans (sameNew nT)).trans (sameNew nr)) nL
  rintro H1 ⟨rs0, hL, kv, s1⟩
  rw [List.length_map] at kv
  refine ⟨L, rs0, prs 0 (os.take os.length), rfl, SqL.of hL, kv,
    fun d nd' => ?_⟩
  rw [merge_prs go.nd _ (Nat.le_refl _), List.take_length]
  have s2 : Same H (upd H1 d (.dK (prs 0 os))) := s1.trans (sameNew nd')
  have hd2 : (upd H1 d (.dK (prs 0 os))) d = some (.dK (prs 0 os)) := upd_same
  generalize upd H1 d (.dK (prs 0 os)) = H2 at s2 hd2 ⊢
  -- the pairs
  refine ⟨sz (by simp), fun r0 nr0 => ?_⟩
  have s3 : Same H2 (upd H2 r0 (.lst [])) := sameNew nr0
  refine ⟨_, rfl, it, _, rfl, SqL.up hit (s2.trans s3), ?_⟩
  refine for_it (walk_enum (K := K) (a := it) (xs := ls.map vS))
    (fun i σ H' => ∃ (rr : Addr) (rs : List Addr) (y z : Option V),
      σ = [some (.ref it), some (.ref a), some (.ref d), none, y,
        some (.ref rr), z, none] ∧ H2 rr = none ∧
      H' rr = some (.lst (rs.map V.ref)) ∧
      PrsAt H' rs (invTo ls os i) ∧ Same H2 H')
    ⟨r0, [], none, none, rfl, nr0, upd_same, .nil, s3⟩
    (fun i σ H' _ z => by
      obtain ⟨_, _, _, _, _, _, _, _, s⟩ := z
      exact SqL.up hit (s2.trans s)) ?_ ?_
  · rintro i v σ H4 H5 hi ⟨rr, rs, y, z, rfl, nrr, hrr, pr, s4⟩
      ⟨T', x1, x2, rfl, nT, rfl, e1, e2⟩
    obtain ⟨g, hg, rfl⟩ := get_map e2
    cases Option.some.inj e1
    rw [List.length_map] at hi
    have mg' : g ∈ os := pm.mem_iff.mpr (List.mem_of_getElem? hg)
    have s5 : Same H2 (upd H4 T' (.tup [.int (i : Nat), vS g])) :=
      s4.trans (sameNew nT)
    have hr5 : (upd H4 T' (.tup [.int (i : Nat), vS g])) rr =
        some (.lst (rs.map V.ref)) := by
      rw [upd_ne (ne_of_none hrr nT)]; exact hrr
    have pr5 := pr.same (sameNew (o := .tup [.int (i : Nat), vS g]) nT)
    have hT5 : (upd H4 T' (.tup [.int (i : Nat), vS g])) T' =
      some (.tup [.int (i : Nat), vS g]) := upd_same
    generalize upd H4 T' (.tup [.int (i : Nat), vS g]) = H5
      at s5 hr5 pr5 hT5 ⊢
    refine ⟨T', _, rfl, .inl (.inl hT5), rfl, _, _, rfl, _, _, rfl, rfl, ?_⟩
    refine ⟨_, rfl, _, rfl, _, rfl, _, _, rfl, rfl, _, rfl, it, _, rfl,
      SqL.up hit (s2.trans s5), fun t nt => ?_⟩
    have ec : cutV (ls.map vS) (some ((i : Int) + 1)) none =
        (ls.drop (i + 1)).map vS := by
      have := cut_from (ls.map vS) (n := i + 1) (by
        rw [List.length_map]; omega)
      rw [← List.map_drop] at this
      exact this
    rw [ec]
    refine ⟨t, rfl, ⟨_, SqL.of upd_same⟩, fun D nD => ?_⟩
    have s6 : Same H5 (upd H5 t (.lst ((ls.drop (i + 1)).map vS))) :=
      sameNew nt
    have ht6 : (upd H5 t (.lst ((ls.drop (i + 1)).map vS))) t =
      some (.lst ((ls.drop (i + 1)).map vS)) := upd_same
    generalize upd H5 t (.lst ((ls.drop (i + 1)).map vS)) = H6
      at s6 ht6 nD ⊢
    refine walkW (walk_list (K := K) (a := t)
      (xs := (ls.drop (i + 1)).map vS))
      (fun j H' => ∃ ns, H' D = some (.lst (ns.map V.ref)) ∧
        PrsAt H' ns (invF os g ((ls.drop (i + 1)).take j)) ∧ Same H6 H')
      ⟨[], upd_same, .nil, sameNew nD⟩
      (fun j H' _ z => by
        obtain ⟨_, _, _, s⟩ := z; exact SqL.up ht6 s) ?_ ?_
    · rintro j v H7 H8 hj ⟨ns, hD7, pr7, s7⟩ ⟨rfl, ex⟩
      obtain ⟨c, hc, rfl⟩ := get_map ex
      have mc : c ∈ os := pm.mem_iff.mpr (List.mem_of_mem_drop
        (List.mem_of_getElem? hc))
      have hdd := s7 _ _ (s6 _ _ (s5 _ _ hd2))
      have g1 := DGet.k (k := Sum.inr (SX.S c)) hdd
      have g2 := DGet.k (k := Sum.inr (SX.S g)) hdd
      rw [val_prs, if_pos mc, Nat.zero_add] at g1
      rw [val_prs, if_pos mg', Nat.zero_add] at g2
      refine ⟨rfl, _, rfl, _, rfl, d, _, rfl, g1, _, rfl, _, rfl, d, _, rfl, g2,
        _, _, rfl, rfl, _, rfl, ?_⟩
      have m2 := invF_len os g ((ls.drop (i + 1)).take j)
      rw [List.length_take, List.length_drop] at m2
      have hhi := gl.hi
      have lrs := pr7.len
      refine ite2 (fun z => ?_) (fun z => ?_)
      · have z' : os.idxOf c < os.idxOf g := by
          have : ((os.idxOf c : Nat) : Int) < ((os.idxOf g : Nat) : Int) :=
            of_decide_eq_true z
          omega
        refine ⟨_, rfl, _, rfl, sz (by simp), fun r nr => ⟨ns.map V.ref, ?_, ?_,
          ns ++ [r], ?_, ?_, ?_⟩⟩
        · rw [upd_ne (ne_of_none hD7 nr)]
          exact hD7
        · rw [List.length_map]
          exact sz' (by omega)
        · rw [upd_same, List.map_append]
          rfl
        · rw [take_snoc hc, invF_snoc, if_pos z']
          refine (PrsAt.snoc (p := (g, c)) upd_same
            (pr7.same (sameNew nr))).put (xs := ns.map V.ref) ?_
          rw [upd_ne (ne_of_none hD7 nr)]
          exact hD7
        · exact OM.Same.put (s7.trans (sameNew nr)) nD
      · have z' : ¬ os.idxOf c < os.idxOf g := fun y => z (decide_eq_true
          (show ((os.idxOf c : Nat) : Int) < ((os.idxOf g : Nat) : Int) by
            omega))
        refine ⟨ns, hD7, ?_, s7⟩
        rw [take_snoc hc, invF_snoc, if_neg z', List.append_nil]
        exact pr7
    · rintro H7 ⟨ns, hD7, pr7, s7⟩
      rw [List.take_of_length_le (by rw [List.length_map]; exact Nat.le_refl _)]
        at pr7
      have hr7 := s7 _ _ (s6 _ _ hr5)
      have pr8 := (pr5.same s6).same s7
      have m1 := gl.many os (show i ≤ ls.length by omega)
      have m2 := invF_len os g (ls.drop (i + 1))
      rw [List.length_drop] at m2
      have hhi := gl.hi
      have l1 := pr8.len
      have l2 := pr7.len
      refine ⟨rr, D, _, _, rfl, rfl, hr7, hD7, ?_, fun n0 nn => ?_⟩
      · rw [List.length_map, List.length_map]
        exact sz (by omega)
      refine ⟨n0, rs ++ ns, _, _, rfl, ?_, ?_, ?_, ?_⟩
      · exact ((s5.trans s6).trans s7).free nn
      · rw [upd_same, List.map_append]
      · show PrsAt _ _ (invTo ls os i ++ _)
        rw [hg]
        exact (PrsAt.app pr7 pr8).same (sameNew nn)
      · exact ((s5.trans s6).trans s7).trans (sameNew nn)
  · rintro σ H4 ⟨rr, rs, y, z, rfl, nrr, hrr, pr, s4⟩
    rw [List.length_map] at pr
    exact ⟨_, rfl, q rr rs H4 (s2.free nrr) hrr pr (s2.trans s4)⟩
end
end OM
namespace OM
open PySem PySem.Spec PyProof.Rows L2
theorem swap_perm {α : Type} : ∀ (xs : List α) (k : Nat) (h : k + 1 < xs.length),
    ((xs.set k xs[k + 1]).set (k + 1) xs[k]).Perm xs
  | [], k, h => absurd h (by simp)
  | [x], k, h => absurd h (by simp)
  | x :: y :: r, 0, h => List.Perm.swap x y r
  | x :: y :: r, k + 1, h => by
    have ih := swap_perm (y :: r) k (by simpa using h)
    exact List.Perm.cons x ih
/-- swaps of neighbours -/
def spNear (K : PySem.W.Frag) : Sp := fun vs H Q _ =>
  ∃ (p a : Addr) (m : Nat) (xs : List V), vs = [.ref p, .ref a, .int m] ∧
  Rng H p ∧ SqL K H a xs ∧ a ≠ p ∧ xs.length ≤ 1000 ∧ m ≤ 1000 ∧
  ∀ (q : Addr) (ys : List V) (H' : Hp), H q = none → ys.Perm xs →
    H' q = some (.lst ys) → Rng H' p → But p H H' → Q (.ref q) H'
theorem ixN_nat {n j : Nat} (h : j < n) : ixN n (j : Int) = some j := by
  unfold ixN
  rw [if_pos (by omega), if_pos (by omega), Int.toNat_natCast]
section
variable {P : Program} {w : World} {K : PySem.W.Frag}
  {mg : Str → Option Value} {base : Heap} {C : Addr}
theorem ok_near {f : Addr} {fd : FuncData} {k : Nat}
    (F : Fun K "_law_near_order" "_law_near_order" s_Lnear_order f fd)
    (B : Bl mg) (B2 : Bl2 mg) (Cd : CalDraw P w K mg base k) :
    FnOk P w K mg base CX0 (k + 1) f fd
      ["_law_rng_here", "_law_order", "_law_many"] (spNear K) := by
  refine F.ok sc_Lnear_order (fun vs H Q E h => ?_)
    (fun cv A outer s H vs Q E hr h => ?_)
  · obtain ⟨p, a, m, xs, rfl, _⟩ := h
    rfl
  obtain ⟨p, a, m, xs, rfl, rg, hS, nap, hx, hm, q⟩ := h
  have nd := sc_Lnear_order.nd
  refine ⟨_, pss_cons (ps_set (i := 3) nd rfl (.inl rfl)
      (pe_callTy call_list_of (by rfl) B.list bt_list (pa_cons (pv 1) pa_nil)))
    (pss_cons (ps_for PassesOwn.never rfl
      (pi_range1 (by rfl) B.range (pa_cons (pe_op op_mul
        (pe_cal Cd hr (pa_cons (pv 0) (pa_cons (pe_op op_add (pv 2) pe_int)
          pa_nil)))
        (pe_callTy call_int1 (by rfl) B2.int bt_int (pa_cons
          (pe_cmpR op_gt (pe_callB call_len_seq (by rfl) B.len PySem.boot_len
            (pa_cons (pv 3) pa_nil)) pe_int (nomark _)) pa_nil))) pa_nil))
      (pg_name (i := 4) nd rfl (.inl rfl))
      (pss_cons (ps_set (i := 5) nd rfl (.inl rfl)
        (pe_cal Cd hr (pa_cons (pv 0) (pa_cons (pe_op op_sub
          (pe_callB call_len_seq (by rfl) B.len PySem.boot_len
            (pa_cons (pv 3) pa_nil)) pe_int) pa_nil))))
      (pss_one (ps_asg (pe_tup (pa_cons
          (pe_ix ix_list (pv 3) (pe_op op_add (pv 5) pe_int) (fun _ _ => rfl))
          (pa_cons (pe_ix ix_list (pv 3) (pv 5) (fun _ _ => rfl)) pa_nil)))
        (pg_tup rfl (pgs_cons (pg_sub (pv 3) (pv 5) set_list)
          (pgs_cons (pg_sub (pv 3) (pe_op op_add (pv 5) pe_int) set_list)
            pgs_nil)))))))
    (pss_one (ps_ret (pv 3)))), ?_⟩
  refine ⟨_, rfl, a, _, rfl, .inl hS, fun r nr => ?_⟩
  have nrp : r ≠ p := (rg.ne nr).symm
  have rg1 : Rng (upd H r (.lst xs)) p := rg.same (sameNew nr)
  refine ⟨_, rfl, _, rfl, _, _, rfl, rfl, p, m + 1, rfl, rg1, by omega, by omega,
    fun d H2 d0 d1 rg2 b2 => ?_⟩
  have b2' : But p H H2 := ((But.refl H).put nr nrp).trans b2
  have hr2 := b2 r _ upd_same nrp
  refine ⟨_, rfl, r, _, rfl, .inl (SqL.of hr2), _, _, rfl, rfl,
    .inr ⟨_, rfl, d, _, rfl, rfl, .inl ⟨by omega, by omega⟩, _, rfl, ?_, ?_, ?_⟩⟩
  · show -(2 ^ 62) ≤ d * (if decide ((1 : Int) < xs.length) = true then 1 else 0)
    split <;> omega
  · show d * (if decide ((1 : Int) < xs.length) = true then 1 else 0) < 2 ^ 62
    split <;> omega
  generalize ht : (d * (if decide ((1 : Int) < (xs.length : Int)) = true then 1
    else 0)).toNat = t
  have two : 0 < t → 1 < xs.length := by
    intro h
    rw [← ht] at h
    split at h
    · rename_i z
      have := of_decide_eq_true z
      omega
    · simp at h
  refine for_range (lo := 0) (n := t) (fun i σ H' => ∃ (ys : List V)
      (y z : Option V), σ = [some (.ref p), some (.ref a), some (.int m),
      some (.ref r), y, z] ∧ ys.Perm xs ∧ H' r = some (.lst ys) ∧ Rng H' p ∧
      But p H H')
    ⟨xs, none, none, rfl, List.Perm.refl _, hr2, rg2, b2'⟩ ?_ ?_
  · rintro i σ H3 hi ⟨ys, y, z, rfl, pm, h3, rg3, b3⟩
    have l1 := two (by omega)
    have l2 := pm.length_eq
    refine ⟨_, rfl, _, rfl, r, _, rfl, .inl (SqL.of h3), _, _, rfl, rfl, p,
      ys.length - 1, rfl, rg3, by omega, by omega, fun e H4 e0 e1 rg4 b4 => ?_⟩
    have h4 := b4 r _ h3 nrp
    have he : e = ((e.toNat : Nat) : Int) := by omega
    generalize e.toNat = j at he
    subst he
    have hj : j + 1 < ys.length := by omega
    refine ⟨_, rfl, _, rfl, _, _, rfl, rfl, r, _, _, ys[j + 1], rfl, rfl,
      SqL.of h4, atI_nat (j := j + 1) (List.getElem?_eq_getElem hj), _, rfl, _,
      rfl, r, _, _, ys[j], rfl, rfl, SqL.of h4, atI_nat (j := j)
      (List.getElem?_eq_getElem (by omega)), sz (by simp), fun t2 nt => ?_⟩
    have ntp : t2 ≠ p := (rg4.ne nt).symm
    have ntr : r ≠ t2 := ne_of_none h4 nt
    have h5 : (upd H4 t2 (.tup [ys[j + 1], ys[j]])) r = some (.lst ys) := by
      rw [upd_ne ntr]; exact h4
    refine ⟨t2, _, rfl, .inl (.inl upd_same), rfl, _, _, rfl, _, rfl, _, rfl, r,
      ys, j, j, rfl, rfl, h5, ixN_nat (by omega), _, _, rfl, _, rfl, _, rfl, _,
      _, rfl, rfl, r, _, j + 1, j + 1, rfl, rfl, upd_same, ?_, rfl, ?_⟩
    · exact ixN_nat (by rw [List.length_set]; omega)
    refine ⟨_, _, _, rfl, ?_, upd_same, ?_, ?_⟩
    · exact (swap_perm ys j hj).trans pm
    · exact ((rg4.same (sameNew nt)).but (But.at (p := r) (But.refl _))
        nrp.symm).but (But.at (p := r) (But.refl _)) nrp.symm
    · exact (((b3.trans b4).put nt ntp).new nr).new nr
  · rintro σ H3 ⟨ys, y, z, rfl, pm, h3, rg3, b3⟩
    exact ⟨_, rfl, q r ys H3 nr pm h3 rg3 b3⟩
end
end OM
namespace OM
open PySem PySem.Spec PyProof.Rows L2
section
variable {P : Program} {w : World} {K : PySem.W.Frag}
  {mg : Str → Option Value} {base : Heap} {C : Addr}
theorem ok_rand {f : Addr} {fd : FuncData} {k : Nat}
    (F : Fun K "_law_random_order" "_law_random_order" s_Lrandom_order f fd)
    (Cd : CalDraw P w K mg base k)
    (Cs : Cal P w K mg base k "_law_shuffled"
      ["_law_rng_here", "_law_values"] (spShuf K))
    (Cn : Cal P w K mg base k "_law_near_order"
      ["_law_rng_here", "_law_order", "_law_many"] (spNear K)) :
    FnOk P w K mg base CX0 (k + 1) f fd ["_law_rng_here", "_law_items"]
      (spShuf K) := by
  refine F.ok sc_Lrandom_order (fun vs H Q E h => ?_)
    (fun cv A outer s H vs Q E hr h => ?_)
  · obtain ⟨p, a, xs, rfl, _⟩ := h
    rfl
  obtain ⟨p, a, xs, rfl, rg, hS, nap, hx, q⟩ := h
  refine ⟨_, pss_one (ps_ret (pe_ifExp (pt_cmpR op_eq (pe_cal Cd hr
      (pa_cons (pv 0) (pa_cons pe_int pa_nil))) pe_int (nomark _))
    (pe_cal Cs hr (pa_cons (pv 0) (pa_cons (pv 1) pa_nil)))
    (pe_cal Cn hr (pa_cons (pv 0) (pa_cons (pv 1) (pa_cons pe_int pa_nil)))))),
    ?_⟩
  refine ⟨_, rfl, p, 3, rfl, rg, by decide, by decide, fun d H1 d0 d1 rg1 b1 =>
    ⟨rfl, _, rfl, ite2 (fun _ => ?_) (fun _ => ?_)⟩⟩
  · refine ⟨_, rfl, _, rfl, p, a, xs, rfl, rg1, b1.seq hS nap, nap, hx,
      fun r ys H2 nr pm hr2 rg2 b2 => ?_⟩
    exact q r ys H2 (b1.free ((rg1.ne nr).symm) nr) pm hr2 rg2 (b1.trans b2)
  · refine ⟨_, rfl, _, rfl, p, a, 14, xs, rfl, rg1, b1.seq hS nap, nap, hx,
      by decide, fun r ys H2 nr pm hr2 rg2 b2 => ?_⟩
    exact q r ys H2 (b1.free ((rg1.ne nr).symm) nr) pm hr2 rg2 (b1.trans b2)
end
end OM
namespace OM
open PySem PySem.Spec PyProof.Rows L2
theorem idx_of {α : Type} [BEq α] [LawfulBEq α] {l : List α} {i : Nat} {x : α}
    (nd : l.Nodup) (h : l[i]? = some x) : l.idxOf x = i := by
  have hm := List.mem_of_getElem? h
  have hl := List.idxOf_lt_length_of_mem hm
  obtain ⟨hi, e⟩ := List.getElem?_eq_some_iff.mp h
  have e2 := List.getElem_idxOf hl
  exact (List.getElem_inj nd).mp (e2.trans e.symm)
theorem idx_inj {l : List (List Nat)} {x y : List Nat} (hx : x ∈ l)
    (h : l.idxOf x = l.idxOf y) (hy : y ∈ l) : x = y := by
  have a := List.getElem_idxOf (List.idxOf_lt_length_of_mem hx)
  have b := List.getElem_idxOf (List.idxOf_lt_length_of_mem hy)
  rw [← a, ← b]
  congr 1
theorem mem_drop_idx {l : List (List Nat)} (nd : l.Nodup) {j : Nat}
    {s : List Nat} : s ∈ l.drop j ↔ s ∈ l ∧ j ≤ l.idxOf s := by
  constructor
  · intro h
    obtain ⟨i, hi⟩ := List.mem_iff_getElem?.mp h
    rw [List.getElem?_drop] at hi
    rw [idx_of nd hi]
    exact ⟨List.mem_of_getElem? hi, by omega⟩
  · rintro ⟨h, hj⟩
    have hl := List.idxOf_lt_length_of_mem h
    refine List.mem_iff_getElem?.mpr ⟨l.idxOf s - j, ?_⟩
    rw [List.getElem?_drop, show j + (l.idxOf s - j) = l.idxOf s by omega,
      List.getElem?_eq_getElem hl, List.getElem_idxOf hl]
theorem invAll_mem {ls os : List (List Nat)} (nd : ls.Nodup) {p : Pr} :
    p ∈ invAll ls os ↔ p.1 ∈ ls ∧ p.2 ∈ ls ∧ ls.idxOf p.1 < ls.idxOf p.2 ∧
      os.idxOf p.2 < os.idxOf p.1 := by
  unfold invAll
  rw [invTo_mem]
  constructor
  · rintro ⟨j, hj, h1, h2, h3⟩
    have e := idx_of nd h1
    have d := (mem_drop_idx nd).mp h2
    exact ⟨List.mem_of_getElem? h1, d.1, by omega, h3⟩
  · rintro ⟨h1, h2, h3, h4⟩
    have hl := List.idxOf_lt_length_of_mem h1
    refine ⟨ls.idxOf p.1, hl, ?_, (mem_drop_idx nd).mpr ⟨h2, h3⟩, h4⟩
    rw [List.getElem?_eq_getElem hl, List.getElem_idxOf hl]
theorem Good.uniP {ls os : List (List Nat)} (g : Good ls) :
    UniP (invAll ls os) := fun p hp => by
  have h := (invAll_mem g.nd).mp hp
  exact ⟨⟨(g.nm _ h.1).hi, (g.nm _ h.1).uni⟩,
    ⟨(g.nm _ h.2.1).hi, (g.nm _ h.2.1).uni⟩⟩
theorem Good.ne {ls : List (List Nat)} (g : Good ls) : ls ≠ [] := fun e => by
  have := g.lo
  rw [e] at this
  exact absurd this (by decide)
theorem ne_no {x : V} {A B : Prop} (h : B) :
    if (!decide (x = x)) = true then A else B := iteNS rfl h
/-- the pair of two items, by their places -/
def pairOf (ls : List (List Nat)) (l m : List Nat) : Pr :=
  if ls.idxOf l < ls.idxOf m then (l, m) else (m, l)
end OM
namespace OM
open PySem PySem.Spec PyProof.Rows L2
theorem bl_eq (a b : Bool) : decide (V.bl a = V.bl b) = decide (a = b) := by
  by_cases e : a = b
  · subst e; simp
  · have : ¬ (V.bl a = V.bl b) := fun z => e (V.bl.inj z)
    rw [decide_eq_false e, decide_eq_false this]
theorem inv_pair {ls os : List (List Nat)} (nd : ls.Nodup) {l m : List Nat}
    (hl : l ∈ ls) (hm : m ∈ ls) (ol : l ∈ os) (om : m ∈ os) :
    invB ls os l m = decide (pairOf ls l m ∈ invAll ls os) ∧
    invB ls os m l = decide (pairOf ls l m ∈ invAll ls os) := by
  unfold invB pairOf
  rw [bl_eq, bl_eq]
  by_cases h : ls.idxOf l < ls.idxOf m
  · have ne : os.idxOf l ≠ os.idxOf m := fun e => by
      rw [idx_inj ol e om] at h
      omega
    rw [if_pos h, decide_eq_true h,
      decide_eq_false (show ¬ ls.idxOf m < ls.idxOf l by omega)]
    by_cases k : os.idxOf m < os.idxOf l
    · rw [decide_eq_true k, decide_eq_false (show ¬ os.idxOf l < os.idxOf m by
        omega), decide_eq_true ((invAll_mem nd).mpr ⟨hl, hm, h, k⟩)]
      exact ⟨rfl, rfl⟩
    · rw [decide_eq_false k, decide_eq_true (show os.idxOf l < os.idxOf m by
        omega), decide_eq_false fun z => k ((invAll_mem nd).mp z).2.2.2]
      exact ⟨rfl, rfl⟩
  · rw [if_neg h, decide_eq_false h]
    by_cases e : ls.idxOf m < ls.idxOf l
    · rw [decide_eq_true e]
      by_cases k : os.idxOf l < os.idxOf m
      · rw [decide_eq_true k, decide_eq_false (show ¬ os.idxOf m < os.idxOf l by
          omega), decide_eq_true ((invAll_mem nd).mpr ⟨hm, hl, e, k⟩)]
        exact ⟨rfl, rfl⟩
      · have ne : os.idxOf l ≠ os.idxOf m := fun z => by
          rw [idx_inj ol z om] at e
          omega
        rw [decide_eq_false k, decide_eq_true (show os.idxOf m < os.idxOf l by
          omega), decide_eq_false fun z => k ((invAll_mem nd).mp z).2.2.2]
        exact ⟨rfl, rfl⟩
    · have z : l = m := idx_inj hl (by omega) hm
      subst z
      rw [decide_eq_false e, decide_eq_false (Nat.lt_irrefl _),
        decide_eq_false fun z => e ((invAll_mem nd).mp z).2.2.1]
      exact ⟨rfl, rfl⟩
/-- pairs drawn -/
def spPR (C : Addr) : Sp := fun vs H Q _ =>
  ∃ (p b it a du : Addr) (rs : List Addr) (ls os : List (List Nat)),
  vs = [.ref p, .ref b, .ref it, .ref a, .ref du] ∧ Rng H p ∧
  Ord C H b a ls os ∧ H it = some (.lst (ls.map vS)) ∧
  H du = some (.lst (rs.map V.ref)) ∧ PrsAt H rs (invAll ls os) ∧
  ∀ H', Rng H' p → But p H H' → Q (.bl true) H'
def spChk (C : Addr) : Sp := fun vs H Q _ =>
  ∃ (p b it a : Addr) (ls os : List (List Nat)),
  vs = [.ref p, .ref b, .ref it, .ref a] ∧ Rng H p ∧
  Ord C H b a ls os ∧ H it = some (.lst (ls.map vS)) ∧
  ∀ H', Rng H' p → But p H H' → Q (.bl true) H'
theorem neRngR {H : Hp} {p q : Addr} {rs : List Addr} (r : Rng H p)
    (h : H q = some (.lst (rs.map V.ref))) : q ≠ p := by
  obtain ⟨a, b, e, _⟩ := r
  refine ne_of h e fun z => ?_
  have z' := HO.lst.inj z
  cases rs with
  | nil => cases z'
  | cons l r =>
    rw [List.map_cons] at z'
    cases (List.cons.inj z').1
theorem PrsAt.but {H H' : Hp} {p : Addr} (r : Rng H p) (b : But p H H') :
    ∀ {rs : List Addr} {ps : List Pr}, PrsAt H rs ps → PrsAt H' rs ps
  | _, _, .nil => .nil
  | _, _, .cons h t => .cons (by
      obtain ⟨x, y, e, _⟩ := r
      exact b _ _ h (ne_of h e nofun)) (PrsAt.but r b t)
theorem Ord.but {C b a p : Addr} {H H' : Hp} {ls os : List (List Nat)}
    (x : Ord C H b a ls os) (r : Rng H p) (s : But p H H') :
    Ord C H' b a ls os :=
  ⟨x.ba.but r s, x.good, s _ _ x.li (neRng r x.li), x.pm⟩
section
variable {P : Program} {w : World} {K : PySem.W.Frag}
  {mg : Str → Option Value} {base : Heap} {C : Addr}
theorem ok_pr {f : Addr} {fd : FuncData} {k : Nat}
    (F : Fun K "_law_pairs_right" "_law_pairs_right" s_Lpairs_right f fd)
    (B : Bl mg)
    (Cc : Cal P w K mg base k "_law_choice" ["_law_rng_here", "_law_options"]
      (spChoice K))
    (Ci : Cal P w K mg base k "is_inverted"
      ["base", "order", "first", "second"] (spInv C)) :
    FnG P w K mg base CX0 (k + 1) f fd ["_law_rng_here", "_law_base",
      "_law_items", "_law_order", "_law_due"] (spPR C) := by
  refine okG F sc_Lpairs_right (fun vs H Q E h => ?_)
    (fun cv A outer s H vs Q E hr gd h => ?_)
  · obtain ⟨p, b, it, a, du, rs, ls, os, rfl, _⟩ := h
    rfl
  obtain ⟨p, b, it, a, du, rs, ls, os, rfl, rg, o, hi, hdu, pr, q⟩ := h
  have nd := sc_Lpairs_right.nd
  have hu65 : ∀ {Y : Around}, Room k Y → Y.units + 65 < cLine := fun r => by
    have := r.un; omega
  refine ⟨_, pss_cons (ps_for PassesOwn.never rfl
      (pi_range1 (by rfl) B.range (pa_cons pe_int pa_nil))
      (pg_name (i := 5) nd rfl (.inl rfl))
      (C8.pss_cut (ps_par (i := 6) (j := 7) (by rfl) nd rfl rfl (by decide) rfl
        rfl (pa_cons (pe_cal Cc hr (pa_cons (pv 0) (pa_cons (pv 2) pa_nil)))
          (pa_cons (pe_cal Cc hr (pa_cons (pv 0) (pa_cons (pv 2) pa_nil)))
            pa_nil)) (by rfl))
      (C8.pss_cut (ps_set (i := 8) nd rfl (.inl rfl) (pe_ifExp
        (pt_cmpR op_lt
          (pe_bm PySem.F.plainAttrs_list PySem.F.slot_list_index
            PySem.F.type_list_index mt_index (pv 2) (pa_cons (pv 6) pa_nil))
          (pe_bm PySem.F.plainAttrs_list PySem.F.slot_list_index
            PySem.F.type_list_index mt_index (pv 2) (pa_cons (pv 7) pa_nil))
          (nomark _))
        (pe_tup (pa_cons (pv 6) (pa_cons (pv 7) pa_nil)))
        (pe_tup (pa_cons (pv 7) (pa_cons (pv 6) pa_nil)))))
      (C8.pss_cut (ps_set (i := 9) nd rfl (.inl rfl) (pe_lst (pa_cons
        (pe_cal Ci hr (pa_cons (pv 1) (pa_cons (pv 3) (pa_cons (pv 6)
          (pa_cons (pv 7) pa_nil)))))
        (pa_cons (pe_cal Ci hr (pa_cons (pv 1) (pa_cons (pv 3) (pa_cons (pv 7)
          (pa_cons (pv 6) pa_nil))))) pa_nil))))
      (pss_one (ps_if (pt_cmpR op_ne
        (pe_callB (call_reprD hr gd) (by rfl) B.repr bt_repr
          (pa_cons (pv 9) pa_nil))
        (pe_callB (call_reprD hr gd) (by rfl) B.repr bt_repr (pa_cons
          (pe_op op_rep (pe_lst (pa_cons
            (pe_cmpR (op_inD (hu65 hr)) (pv 8) (pv 4) (by rfl)) pa_nil))
            pe_int) pa_nil)) (nomark _))
        (pss_one ps_never) pss_nil))))))
    (pss_one (ps_ret (pe_cmpR op_isBl (pe_cal Ci hr (pa_cons (pv 1)
      (pa_cons (pv 3) (pa_cons
        (pe_ix ix_list (pv 2) pe_int (fun _ _ => rfl))
        (pa_cons (pe_ix ix_list (pv 2) pe_int (fun _ _ => rfl)) pa_nil)))))
      pe_bl (nomark _)))), ?_⟩
  have nip := neRng rg hi
  have ndp := neRngR rg hdu
  have nda := o.good
  refine ⟨12, rfl, by decide, by decide, ?_⟩
  refine for_range (lo := 0) (n := 12) (fun i σ H' => ∃ x5 x6 x7 x8 x9,
      σ = [some (.ref p), some (.ref b), some (.ref it), some (.ref a),
        some (.ref du), x5, x6, x7, x8, x9] ∧ Rng H' p ∧ But p H H')
    ⟨none, none, none, none, none, rfl, rg, But.refl H⟩ ?_ ?_
  · rintro i σ H1 hi1 ⟨x5, x6, x7, x8, x9, rfl, rg1, b1⟩
    have it1 := b1 _ _ hi nip
    have hlo := o.good.lo
    have hhi := o.good.hi
    -- two items
    refine ⟨fun σ' H' => ∃ l m y5, l ∈ ls ∧ m ∈ ls ∧ σ' = [some (.ref p),
      some (.ref b), some (.ref it), some (.ref a), some (.ref du), y5,
      some (vS l), some (vS m), x8, x9] ∧ Rng H' p ∧ But p H H', ?_, ?_⟩
    · refine ⟨_, rfl, _, rfl, p, it, _, rfl, rg1, SqL.of it1, nip,
        by rw [List.length_map]; omega, by rw [List.length_map]; omega,
        fun x H2 hx rg2 b2 => ?_⟩
      obtain ⟨l, hl, rfl⟩ := List.mem_map.mp hx
      have it2 := b2 _ _ it1 nip
      refine ⟨_, rfl, _, rfl, p, it, _, rfl, rg2, SqL.of it2, nip,
        by rw [List.length_map]; omega, by rw [List.length_map]; omega,
        fun y H3 hy rg3 b3 => ?_⟩
      obtain ⟨m, hm, rfl⟩ := List.mem_map.mp hy
      exact ⟨_, _, rfl, l, m, _, hl, hm, rfl, rg3, (b1.trans b2).trans b3⟩
    clear rg1 b1 it1
    rintro _ H2 ⟨l, m, y5, hl, hm, rfl, rg2, b2⟩
    have it2 := b2 _ _ hi nip
    have hL := SqL.of (K := K) it2
    have o2 := o.but rg b2
    -- their pair
    refine ⟨fun σ' H' => ∃ t, σ' = [some (.ref p),
      some (.ref b), some (.ref it), some (.ref a), some (.ref du), y5,
      some (vS l), some (vS m), some (.ref t), x9] ∧
      H' t = some (.tup (vT (pairOf ls l m))) ∧ Same H2 H', ?_, ?_⟩
    · refine ⟨_, rfl, .inl ⟨rfl, _, hL⟩, _, rfl, it, _, _, ls.idxOf l, vS l, rfl,
        rfl, hL, rfl, flat_S ls, idx_get hl, eqV_self l, idx_first, _, rfl,
        .inl ⟨rfl, _, hL⟩, _, rfl, it, _, _, ls.idxOf m, vS m, rfl, rfl,
        hL, rfl, flat_S ls, idx_get hm, eqV_self m, idx_first, _, _, rfl, rfl,
        _, rfl, ite2 (fun z => ?_) (fun z => ?_)⟩
      · have z' : ((ls.idxOf l : Nat) : Int) < ((ls.idxOf m : Nat) : Int) :=
          of_decide_eq_true z
        refine ⟨_, rfl, _, rfl, sz (by simp), fun t nt => ⟨t, rfl, ?_,
          sameNew nt⟩⟩
        rw [upd_same]
        unfold pairOf
        rw [if_pos (by omega)]
      · have z' : ¬ ls.idxOf l < ls.idxOf m := fun y => z (decide_eq_true
          (show ((ls.idxOf l : Nat) : Int) < ((ls.idxOf m : Nat) : Int) by
            omega))
        refine ⟨_, rfl, _, rfl, sz (by simp), fun t nt => ⟨t, rfl, ?_,
          sameNew nt⟩⟩
        rw [upd_same]
        unfold pairOf
        rw [if_neg z']
    rintro _ H3 ⟨t, rfl, ht, s3⟩
    have o3 := o2.same s3
    have ol : l ∈ os := o.pm.mem_iff.mpr hl
    have om : m ∈ os := o.pm.mem_iff.mpr hm
    obtain ⟨iv1, iv2⟩ := inv_pair (os := os) o.good.nd hl hm ol om
    generalize ec : decide (pairOf ls l m ∈ invAll ls os) = c at iv1 iv2
    -- what the program says
    refine ⟨fun σ' H' => ∃ r, σ' = [some (.ref p),
      some (.ref b), some (.ref it), some (.ref a), some (.ref du), y5,
      some (vS l), some (vS m), some (.ref t), some (.ref r)] ∧
      H' r = some (.lst [.bl c, .bl c]) ∧ Same H3 H', ?_, ?_⟩
    · refine ⟨_, rfl, _, rfl, _, rfl, _, rfl, b, a, ls, os, l, m, rfl, o3, hl,
        hm, fun H4 s4 => ?_⟩
      refine ⟨_, rfl, _, rfl, _, rfl, _, rfl, b, a, ls, os, m, l, rfl,
        o3.same s4, hm, hl, fun H5 s5 => ⟨sz (by simp), fun r nr => ⟨r, rfl, ?_,
        (s4.trans s5).trans (sameNew nr)⟩⟩⟩
      rw [upd_same, iv1, iv2]
    rintro _ H4 ⟨r, rfl, hr4, s4⟩
    have s24 := s3.trans s4
    have du4 := s24 _ _ (b2 _ _ hdu ndp)
    have pr4 := (pr.but rg b2).same s24
    have pu := (invAll_mem (os := os) (p := pairOf ls l m) o.good.nd)
    have hpl : (∀ x ∈ (pairOf ls l m).1, x < 1114112) ∧
        ∀ x ∈ (pairOf ls l m).2, x < 1114112 := by
      unfold pairOf
      split
      · exact ⟨(o.good.nm l hl).uni, (o.good.nm m hm).uni⟩
      · exact ⟨(o.good.nm m hm).uni, (o.good.nm l hl).uni⟩
    refine ⟨_, rfl, _, .list [.bool c, .bool c], rfl, .lst (SqL.of hr4) (.cons (.bl c) (.cons (.bl c) .nil)),
      rfl, ?_, ?_, ?_⟩
    · simp [PyData.depth, PyData.depthAll]
    · cases c <;> exact sz (by decide +kernel)
    refine ⟨_, rfl, _, rfl, _, _, dp_T (s4 _ _ ht), dp_P (SqL.of du4) pr4,
      shaped_T hpl.1 hpl.2, shaped_P o.good.uniP, ?_⟩
    rw [any_P, ec]
    refine ⟨sz (by simp), fun u nu => ⟨u, 2, _, rfl, rfl, upd_same, by decide,
      by decide, sz (by simp), fun v nv => ?_⟩⟩
    refine ⟨_, .list [.bool c, .bool c], rfl, .lst (SqL.of upd_same) (.cons (.bl c) (.cons (.bl c) .nil)),
      rfl, ?_, ?_, rfl, _, rfl, ne_no ?_⟩
    · simp [PyData.depth, PyData.depthAll]
    · cases c <;> exact sz (by decide +kernel)
    have rg4 := rg2.same s24
    have nup : u ≠ p := (rg4.ne nu).symm
    have rg5 := rg4.same (sameNew (o := .lst [.bl c]) nu)
    have nvp : v ≠ p := (rg5.ne nv).symm
    refine ⟨_, _, _, _, _, rfl, rg5.same (sameNew nv), ?_⟩
    exact ((b2.trans (But.of s24)).put nu nup).put nv nvp
  · rintro σ H1 ⟨x5, x6, x7, x8, x9, rfl, rg1, b1⟩
    have it1 := b1 _ _ hi nip
    obtain ⟨x, r, rfl⟩ : ∃ x r, ls = x :: r := by
      cases ls with
      | nil => exact absurd rfl o.good.ne
      | cons x r => exact ⟨x, r, rfl⟩
    refine ⟨_, rfl, _, rfl, _, rfl, it, _, 0, _, rfl, rfl, SqL.of it1,
      atI_nat (j := 0) rfl, _, rfl, it, _, 0, _, rfl, rfl, SqL.of it1,
      atI_nat (j := 0) rfl, b, a, _, os, x, x, rfl, o.but rg b1,
      List.mem_cons_self, List.mem_cons_self, fun H2 s2 => ⟨_, false, rfl, rfl,
      ?_⟩⟩
    have e : invB (x :: r) os x x = false := by
      unfold invB
      rw [bl_eq, decide_eq_false (Nat.lt_irrefl _),
        decide_eq_false (Nat.lt_irrefl _)]
      rfl
    rw [e]
    exact q H2 (rg1.same s2) (b1.trans (But.of s2))
end
end OM
namespace OM
open PySem PySem.Spec PyProof.Rows L2
def spLaw (K : PySem.W.Frag) : Sp := fun vs H Q _ =>
  ∃ (a : Addr) (ns : List Int), vs = [.ref a] ∧ SqL K H a (ns.map V.int) ∧
  ns.length ≤ 63 ∧ ∀ H', Q (.bl true) H'
theorem bl_no {x : Bool} {A B : Prop} (h : B) :
    if (!decide (x = x)) = true then A else B := iteNS rfl h
section
variable {P : Program} {w : World} {K : PySem.W.Frag}
  {mg : Str → Option Value} {base : Heap} {C : Addr}
theorem ok_chk {f : Addr} {fd : FuncData} {k : Nat}
    (F : Fun K "_law_check" "_law_check" s_Lcheck f fd)
    (B : Bl mg) (T : BC K mg C)
    (Cl : Cal P w K mg base k "_law_inverted" ["_law_items", "_law_order"]
      spLInv)
    (Cp : Cal P w K mg base k "inverted_pairs" ["base", "order"] (spPairs C))
    (Ci : Cal P w K mg base k "is_order" ["base", "value"] (spIsOrderOk C))
    (Cr : CalG P w K mg base k "_law_pairs_right" ["_law_rng_here",
      "_law_base", "_law_items", "_law_order", "_law_due"] (spPR C))
    (Mn : CalM P w K mg base C k "names" ["self"] (spGetNames C)) :
    FnG P w K mg base CX0 (k + 1) f fd ["_law_rng_here", "_law_base",
      "_law_items", "_law_order"] (spChk C) := by
  refine okG F sc_Lcheck (fun vs H Q E h => ?_)
    (fun cv A outer s H vs Q E hr gd h => ?_)
  · obtain ⟨p, b, it, a, ls, os, rfl, _⟩ := h
    rfl
  obtain ⟨p, b, it, a, ls, os, rfl, rg, o, hi, q⟩ := h
  have nd := sc_Lcheck.nd
  refine ⟨_, C8.pss_cut (ps_par (i := 4) (j := 5) (by rfl) nd rfl rfl
      (by decide) rfl rfl
      (pa_cons (pe_cal Cl hr (pa_cons (pv 2) (pa_cons (pv 3) pa_nil)))
        (pa_cons (pe_callTy call_list_of (by rfl) B.list bt_list
          (pa_cons (pv 3) pa_nil)) pa_nil)) (by rfl))
    (C8.pss_cut (ps_for PassesOwn.never rfl
      (pi_range1 (by rfl) B.range (pa_cons pe_int pa_nil))
      (pg_name (i := 6) nd rfl (.inl rfl))
      (pss_cons (ps_set (i := 7) nd rfl (.inl rfl)
        (pe_cal Cp hr (pa_cons (pv 1) (pa_cons (pv 3) pa_nil))))
      (pss_cons (ps_if (PW.pt (pw_or (pt_cmpR op_ne
            (pe_callB (call_reprD hr gd) (by rfl) B.repr bt_repr
              (pa_cons (pv 7) pa_nil))
            (pe_callB (call_reprD hr gd) (by rfl) B.repr bt_repr
              (pa_cons (pv 4) pa_nil)) (nomark _))
          (pw_or (pt_cmpR op_notBl (pe_cal Ci hr (pa_cons (pv 1)
            (pa_cons (pv 3) pa_nil))) pe_bl (nomark _))
          (pw_or1 (pt_cmpR (op_neD hr.units) (pv 3) (pv 5) (nomark _))))))
        (pss_one ps_never) pss_nil)
      (pss_cons (ps_expr (pe_bm PySem.F.plainAttrs_list
        PySem.F.slot_list_append PySem.F.type_list_append mt_append (pv 7)
        (pa_cons (pe_tup (pa_cons pe_str (pa_cons pe_str pa_nil))) pa_nil)))
      (pss_one (ps_expr (pe_bm0 PySem.F.plainAttrs_list
        PySem.F.slot_list_reverse PySem.F.type_list_reverse mt_reverse
        (pv 7))))))))
    (pss_one (ps_ret (pe_and (pe_calG Cr hr gd (pa_cons (pv 0)
        (pa_cons (pv 1) (pa_cons (pv 2) (pa_cons (pv 3)
          (pa_cons (pv 4) pa_nil))))))
      (pe_one (pe_cmpR (op_eqD hr.units) (pe_calM0 Mn hr (pv 1)) (pv 2)
        (nomark _))))))), ?_⟩
  have go := o.good.perm o.pm
  have up := o.good.uniP (os := os)
  have many : (invAll ls os).length ≤ 1600 := o.good.many os (Nat.le_refl _)
  refine ⟨fun σ' H' => ∃ du kp rs, σ' = [some (.ref p), some (.ref b),
    some (.ref it), some (.ref a), some (.ref du), some (.ref kp), none, none]
    ∧ H' du = some (.lst (rs.map V.ref)) ∧ PrsAt H' rs (invAll ls os) ∧
    H' kp = some (.lst (os.map vS)) ∧ Same H H', ?_, ?_⟩
  · refine ⟨_, rfl, _, rfl, it, a, ls, os, rfl, hi, o.li, o.good, o.pm,
      fun du rs H1 ndu hdu pr s1 => ?_⟩
    refine ⟨_, rfl, a, _, rfl, .inl (SqL.of (s1 _ _ o.li)), fun kp nk => ?_⟩
    exact ⟨_, _, rfl, du, kp, rs, rfl, sameNew nk _ _ hdu,
      pr.same (sameNew nk), upd_same, s1.trans (sameNew nk)⟩
  rintro _ H1 ⟨du, kp, rs, rfl, hdu, pr, hk, s1⟩
  refine ⟨fun σ' H' => ∃ y z, σ' = [some (.ref p), some (.ref b),
    some (.ref it), some (.ref a), some (.ref du), some (.ref kp), y, z] ∧
    Same H1 H', ?_, ?_⟩
  · refine ⟨2, rfl, by decide, by decide, ?_⟩
    refine for_range (lo := 0) (n := 2) (fun i σ H' => ∃ y z,
        σ = [some (.ref p), some (.ref b), some (.ref it), some (.ref a),
        some (.ref du), some (.ref kp), y, z] ∧ Same H1 H')
      ⟨none, none, rfl, Same.refl H1⟩ ?_ ?_
    · rintro i σ H2 hi2 ⟨y, z, rfl, s2⟩
      have o2 := (o.same s1).same s2
      refine ⟨_, rfl, _, rfl, b, a, ls, os, rfl, o2,
        fun ac rs2 H3 nac hac pr3 s3 => ?_⟩
      have hdu3 := s3 _ _ (s2 _ _ hdu)
      refine ⟨_, rfl, _, _, rfl, dp_P (SqL.of hac) pr3, showable_PL _,
        Nat.le_trans (depth_P _) (by decide), shown_P up (by omega), _, rfl, _,
        _, rfl, dp_P (SqL.of hdu3) ((pr.same s2).same s3), showable_PL _,
        Nat.le_trans (depth_P _) (by decide), shown_P up (by omega), rfl, _,
        rfl, ne_no ?_⟩
      refine ⟨_, rfl, _, rfl, b, a, ls, os, rfl, o2.same s3, fun H4 s4 =>
        ⟨_, true, rfl, rfl, _, rfl, bl_no ?_⟩⟩
      have hac4 := s4 _ _ hac
      refine ⟨_, rfl, _, rfl, _, _, dp_N (SqL.of (((o2.same s3).same s4).li)),
        dp_N (SqL.of (s4 _ _ (s3 _ _ (s2 _ _ hk)))), shaped_L go.uni,
        shaped_L go.uni, _, rfl, ?_⟩
      rw [eqv_L, decide_eq_true rfl]
      refine iteF ?_
      have lac : rs2.length ≤ 1600 := by rw [pr3.len]; exact many
      refine ⟨_, rfl, .inl ⟨rfl, _, SqL.of hac4⟩, sz (by simp), fun t nt => ?_⟩
      have hac5 : (upd H4 t (.tup [.str (Str.ofString "Other"),
          .str (Str.ofString "Other")])) ac = some (.lst (rs2.map V.ref)) := by
        rw [upd_ne (ne_of_none hac4 nt)]; exact hac4
      refine ⟨ac, _, _, rfl, rfl, hac5, ?_, ?_⟩
      · rw [List.length_map]
        exact sz' (by omega)
      refine ⟨_, rfl, .inl ⟨rfl, _, SqL.of upd_same⟩, ac, _, rfl, rfl, upd_same,
        _, _, rfl, ?_⟩
      have b5 : But ac H2 (upd (upd (upd H4 t (.tup [.str (Str.ofString "Other"),
          .str (Str.ofString "Other")])) ac (.lst (rs2.map V.ref ++ [.ref t])))
          ac (.lst (rs2.map V.ref ++ [V.ref t]).reverse)) :=
        ((But.of ((s3.trans s4).trans (sameNew nt))).at).at
      exact s2.trans (b5.same nac)
    · rintro σ H2 ⟨y, z, rfl, s2⟩
      exact ⟨y, z, rfl, s2⟩
  rintro _ H2 ⟨y, z, rfl, s2⟩
  have s12 := s1.trans s2
  refine ⟨_, rfl, _, rfl, _, rfl, _, rfl, _, rfl, p, b, it, a, du, rs, ls, os,
    rfl, rg.same s12, o.same s12, s12 _ _ hi, s2 _ _ hdu, pr.same s2,
    fun H3 rg3 b3 => ⟨_, rfl, iteT ?_⟩⟩
  have rg2 := rg.same s12
  have o3 := (o.same s12).but rg2 b3
  have it3 := b3 _ _ (s12 _ _ hi) (neRng rg2 (s12 _ _ hi))
  obtain ⟨dx, lo, d, h1, h2, h3⟩ := o3.ba.ob
  refine ⟨_, rfl, b, dx, _, rfl, h1, bf_no _ _ (by decide +kernel)
    (by decide +kernel), b, ls, rfl, o3.ba, fun n H4 nn hn s4 => ?_⟩
  refine ⟨_, rfl, _, _, dp_N (SqL.of hn), dp_N (SqL.of (s4 _ _ it3)),
    shaped_L o.good.uni, shaped_L o.good.uni, ?_⟩
  rw [eqv_L, decide_eq_true rfl]
  exact q H4 (rg3.same s4) (((But.of s12).trans b3).trans (But.of s4))
end
/-! ### counting -/
theorem inv_self {ls : List (List Nat)} (nd : ls.Nodup) : invAll ls ls = [] := by
  cases e : invAll ls ls with
  | nil => rfl
  | cons p r =>
    have h := (invAll_mem (os := ls) nd).mp (e ▸ List.mem_cons_self (l := r))
    omega
theorem idx_rev {ls : List (List Nat)} (nd : ls.Nodup) {i : Nat}
    {x : List Nat} (h : ls[i]? = some x) :
    ls.reverse.idxOf x = ls.length - 1 - i := by
  have hi := (List.getElem?_eq_some_iff.mp h).1
  refine idx_of ((List.reverse_perm ls).nodup_iff.mpr nd) ?_
  rw [List.getElem?_reverse (by omega)]
  rw [show ls.length - 1 - (ls.length - 1 - i) = i by omega]
  exact h
theorem invF_rev {ls : List (List Nat)} (nd : ls.Nodup) {i : Nat}
    {f : List Nat} (h : ls[i]? = some f) :
    (invF ls.reverse f (ls.drop (i + 1))).length = ls.length - (i + 1) := by
  unfold invF
  rw [List.length_map, List.filter_eq_self.mpr, List.length_drop]
  intro s hs
  obtain ⟨j, hj⟩ := List.mem_iff_getElem?.mp hs
  rw [List.getElem?_drop] at hj
  have hl := (List.getElem?_eq_some_iff.mp hj).1
  rw [idx_rev nd h, idx_rev nd hj]
  exact decide_eq_true (by omega)
theorem invTo_rev {ls : List (List Nat)} (nd : ls.Nodup) : ∀ i, i ≤ ls.length →
    2 * (invTo ls ls.reverse i).length + i * (i + 1) = 2 * (i * ls.length)
  | 0, _ => by simp [invTo]
  | i + 1, h => by
    have ih := invTo_rev nd i (by omega)
    have hi : ls[i]? = some ls[i] := List.getElem?_eq_getElem (by omega)
    show 2 * (invTo ls ls.reverse i ++ _).length + _ = _
    rw [List.length_append, hi]
    show 2 * ((invTo ls ls.reverse i).length +
      (invF ls.reverse ls[i] (ls.drop (i + 1))).length) + _ = _
    rw [invF_rev nd hi]
    have e1 : (i + 1) * (i + 1 + 1) = i * (i + 1) + 2 * (i + 1) := by
      rw [Nat.mul_comm (i + 1) (i + 1 + 1), Nat.add_mul (i + 1) 1 (i + 1),
        Nat.one_mul]
      have : (i + 1) * (i + 1) = i * (i + 1) + (i + 1) := by
        rw [Nat.add_mul, Nat.one_mul]
      omega
    have e2 : (i + 1) * ls.length = i * ls.length + ls.length := by
      rw [Nat.add_mul, Nat.one_mul]
    rw [e1, e2]
    omega
theorem count_rev {ls : List (List Nat)} (nd : ls.Nodup) :
    (((invAll ls ls.reverse).length : Nat) : Int) =
      (ls.length : Int) * ((ls.length : Int) - 1) / 2 := by
  have h := invTo_rev nd ls.length (Nat.le_refl _)
  unfold invAll
  generalize (invTo ls ls.reverse ls.length).length = m at h
  generalize ls.length = n at h
  have h' : 2 * (m : Int) + (n : Int) * ((n : Int) + 1) =
      2 * ((n : Int) * (n : Int)) := by exact_mod_cast h
  have e : (n : Int) * ((n : Int) - 1) = 2 * (m : Int) := by
    rw [Int.mul_add, Int.mul_one] at h'
    rw [Int.mul_sub, Int.mul_one]
    omega
  rw [e]
  omega
end OM
namespace OM
open PySem PySem.Spec PyProof.Rows L2
theorem at3 {α : Type} {P : α → Prop} {a b c : α} {i : Int}
    (h0 : 0 ≤ i) (h1 : i < 3) (pa : P a) (pb : P b) (pc : P c) :
    ∃ v, atI [a, b, c] i = some v ∧ P v := by
  have e : i = 0 ∨ i = 1 ∨ i = 2 := by omega
  rcases e with rfl | rfl | rfl
  · exact ⟨a, rfl, pa⟩
  · exact ⟨b, rfl, pb⟩
  · exact ⟨c, rfl, pc⟩
def unS : V → List Nat
  | .str x => x.cps.toList
  | _ => []
theorem perm_back {ys : List V} {ls : List (List Nat)}
    (h : ys.Perm (ls.map vS)) :
    ∃ os : List (List Nat), ys = os.map vS ∧ os.Perm ls := by
  refine ⟨ys.map unS, ?_, ?_⟩
  · rw [List.map_map]
    refine (List.map_id ys).symm.trans (List.map_congr_left fun y hy => ?_)
    obtain ⟨l, _, rfl⟩ := List.mem_map.mp (h.mem_iff.mp hy)
    rfl
  · have := h.map unS
    rw [List.map_map] at this
    have e : ls.map (unS ∘ vS) = ls := by
      refine (List.map_congr_left fun l _ => ?_).trans (List.map_id ls)
      rfl
    rw [e] at this
    exact this
section
variable {P : Program} {w : World} {K : PySem.W.Frag}
  {mg : Str → Option Value} {base : Heap} {C : Addr}
theorem ok_law14 {f : Addr} {fd : FuncData} {k : Nat}
    (F : Fun K "law" "law" s_law f fd)
    (B : Bl mg) (T : BC K mg C)
    (Cr : Cal P w K mg base k "_law_rng" ["_law_script", "_law_k"] (spRng K))
    (Cd : CalDraw P w K mg base k)
    (Cn : Cal P w K mg base k "_law_names"
      ["_law_rng_here", "_law_many", "_law_used"] spNames)
    (Co : Cal P w K mg base k "_law_random_order"
      ["_law_rng_here", "_law_items"] (spShuf K))
    (Cc : CalG P w K mg base k "_law_check" ["_law_rng_here", "_law_base",
      "_law_items", "_law_order"] (spChk C))
    (Cb : CalC P w K mg base C k "Base" ["self", "items"] (spInitOk C))
    (Cp : Cal P w K mg base k "inverted_pairs" ["base", "order"]
      (spPairs C)) :
    FnG P w K mg base CX0 (k + 2) f fd ["_law_script"] (spLaw K) := by
  refine okG F sc_law (fun vs H Q E h => ?_)
    (fun cv A outer s H vs Q E hr1 gd h => ?_)
  · obtain ⟨a, ns, rfl, _⟩ := h
    rfl
  obtain ⟨a, ns, rfl, hS, hlen, q⟩ := h
  have nd := sc_law.nd
  have hr := hr1.mono (Nat.le_succ k)
  refine ⟨_, pss_cons (ps_for PassesOwn.never rfl
      (pi_range1 (by rfl) B.range (pa_cons
        (pe_callB (call_max2 rfl) (by rfl) B.max bt_max (pa_cons pe_int (pa_cons
          (pe_callB (call_min2 rfl) (by rfl) B.min bt_min (pa_cons
            (pe_callB call_len_seq (by rfl) B.len PySem.boot_len
              (pa_cons (pv 0) pa_nil)) (pa_cons pe_int pa_nil))) pa_nil)))
        pa_nil))
      (pg_name (i := 1) nd rfl (.inl rfl))
      (C8.pss_cut (ps_set (i := 2) nd rfl (.inr rfl)
        (pe_cal Cr hr (pa_cons (pv 0) (pa_cons (pv 1) pa_nil))))
      (C8.pss_cut (ps_set (i := 3) nd rfl (.inr rfl)
        (pe_cal Cn hr (pa_cons (pv 2) (pa_cons
          (pe_ix ix_list (pe_lst (pa_cons
            (pe_op op_add pe_int (pe_cal Cd hr (pa_cons (pv 2)
              (pa_cons pe_int pa_nil))))
            (pa_cons (pe_op op_add pe_int (pe_cal Cd hr (pa_cons (pv 2)
              (pa_cons pe_int pa_nil)))) (pa_cons pe_int pa_nil))))
            (pe_cal Cd hr (pa_cons (pv 2) (pa_cons pe_int pa_nil)))
            (fun _ _ => rfl))
          (pa_cons (pe_lst pa_nil) pa_nil)))))
      (C8.pss_cut (ps_set (i := 4) nd rfl (.inr rfl)
        (pe_calC Cb hr1 (pa_cons (pv 3) pa_nil)))
      (C8.pss_cut (ps_set (i := 5) nd rfl (.inl rfl)
        (pe_lst (pa_cons (pv 3) (pa_cons (pe_revL (pv 3)) (pa_cons
          (pe_cal Co hr (pa_cons (pv 2) (pa_cons (pv 3) pa_nil)))
          (pa_cons (pe_cal Co hr (pa_cons (pv 2) (pa_cons (pv 3) pa_nil)))
            pa_nil))))))
      (C8.pss_cut (ps_if (pt_not (pt_val (pe_callB (cr_all rfl) (by rfl) B.all
          bt_all (pa_cons (pe_lc (own := [("_law_order", 6)]) (g := gName 6)
            (tt := tYes) rfl nd (pi_list (pv 5))
            (blkOk_by (N := N_law) (sc := defScope s_law) (by decide +kernel))
            (fun _ _ _ _ _ => pg_name (i := 6) nd rfl (Or.inl rfl))
            (fun _ _ _ _ _ => pts_nil)
            (fun _ _ _ _ _ => pe_calG Cc hr gd (pa_cons (pv 2)
              (pa_cons (pv 4) (pa_cons (pv 3) (pa_cons (pv 6) pa_nil))))))
            pa_nil)))) (pss_one ps_never) pss_nil)
      (C8.pss_cut (ps_if (pt_cmpR (op_neD hr.units)
          (pe_cal Cp hr (pa_cons (pv 4) (pa_cons (pe_callTy call_list_of
            (by rfl) B.list bt_list (pa_cons (pv 3) pa_nil)) pa_nil)))
          (pe_lst pa_nil) (nomark _)) (pss_one ps_never) pss_nil)
      (pss_one (ps_if (pt_cmpR op_ne
          (pe_callB call_len_seq (by rfl) B.len PySem.boot_len (pa_cons
            (pe_cal Cp hr (pa_cons (pv 4) (pa_cons (pe_revL (pv 3)) pa_nil)))
            pa_nil))
          (pe_op op_fdiv (pe_op op_mul
            (pe_callB call_len_seq (by rfl) B.len PySem.boot_len
              (pa_cons (pv 3) pa_nil))
            (pe_op op_sub (pe_callB call_len_seq (by rfl) B.len PySem.boot_len
              (pa_cons (pv 3) pa_nil)) pe_int)) pe_int) (nomark _))
        (pss_one ps_never) pss_nil)))))))))
    (pss_one (ps_ret pe_bl)), ?_⟩
  -- how many cells
  refine ⟨_, rfl, a, _, rfl, .inl hS, _, _, rfl, _, _, rfl, _, rfl, ?_, ?_, ?_⟩
  · rw [List.length_map]
    split <;> split <;> omega
  · rw [List.length_map]
    split <;> split <;> omega
  generalize hn : (Int.toNat _) = n
  have n4 : n ≤ 1000 := by
    rw [← hn, List.length_map]
    split <;> split <;> omega
  clear hn
  refine for_range (lo := 0) (n := n) (fun i σ H' =>
      ∃ x1 x2 x3 x4 x5 x6 : Option V, σ = [some (.ref a), x1, x2, x3, x4, x5,
        x6] ∧ Same H H')
    ⟨none, none, none, none, none, none, rfl, Same.refl H⟩ ?_
    (fun σ H' _ => q H')
  rintro i σ H0 hi ⟨x1, x2, x3, x4, x5, x6, rfl, s0⟩
  -- the drawing state
  refine ⟨fun σ' H' => ∃ p, σ' = [some (.ref a), some (.int i), some (.ref p),
    x3, x4, x5, x6] ∧ H0 p = none ∧ Rng H' p ∧ Same H0 H', ?_, ?_⟩
  · refine ⟨_, rfl, _, rfl, a, ns, i, ?_, s0.seq hS, by omega,
      fun p H1 np rg s1 => ⟨p, ?_, np, rg, s1⟩⟩
    · rw [Int.zero_add]
      rfl
    · rw [Int.zero_add]
      rfl
  rintro _ H1 ⟨p, rfl, np, rg1, s1⟩
  have b1 : But p H0 H1 := But.of s1
  -- the items
  refine ⟨fun σ' H' => ∃ it ls, σ' = [some (.ref a), some (.int i),
    some (.ref p), some (.ref it), x4, x5, x6] ∧ Good ls ∧
    H' it = some (.lst (ls.map vS)) ∧ Rng H' p ∧ But p H0 H', ?_, ?_⟩
  · refine ⟨_, rfl, _, rfl, p, 7, rfl, rg1, by decide, by decide,
      fun d2 H2 d20 d21 rg2 b2 => ⟨_, _, rfl, rfl, _, rfl, p, 40, rfl, rg2,
      by decide, by decide, fun d3 H3 d30 d31 rg3 b3 => ⟨_, _, rfl, rfl,
      sz (by simp), fun t nt => ⟨_, rfl, p, 3, rfl, rg3.same (sameNew nt),
      by decide, by decide, fun d4 H4 d40 d41 rg4 b4 => ?_⟩⟩⟩⟩
    have ntp : t ≠ p := (rg3.ne nt).symm
    obtain ⟨v, hv, m, rfl, m0, m1⟩ := at3 (a := V.int (1 + d2))
      (b := V.int (1 + d3)) (c := V.int 40)
      (P := fun v => ∃ m : Nat, v = .int m ∧ 1 ≤ m ∧ m ≤ 40) d40 d41
      ⟨(1 + d2).toNat, by rw [Int.toNat_of_nonneg (by omega)], by omega,
        by omega⟩
      ⟨(1 + d3).toNat, by rw [Int.toNat_of_nonneg (by omega)], by omega,
        by omega⟩ ⟨40, rfl, by omega, by omega⟩
    refine ⟨t, _, d4, _, rfl, rfl, SqL.of (b4 t _ upd_same ntp), hv, sz (by simp),
      fun u nu => ?_⟩
    have nup : u ≠ p := (rg4.ne nu).symm
    refine ⟨p, u, m, [], rfl, rg4.same (sameNew nu), upd_same, nup, by omega,
      by simp, fun it ls H5 nit hl nm ndl no hit rg5 b5 => ?_⟩
    exact ⟨it, ls, rfl, ⟨nm, ndl, by omega, by omega⟩, hit, rg5,
      (((((b1.trans b2).trans b3).put nt ntp).trans b4).put nu nup).trans b5⟩
  rintro _ H2 ⟨it, ls, rfl, good, hi2, rg2, b2⟩
  have l40 := good.hi
  -- the base
  refine ⟨fun σ' H' => ∃ b, σ' = [some (.ref a), some (.int i), some (.ref p),
    some (.ref it), some (.ref b), x5, x6] ∧ BaseAt C H' b ls ∧ Same H2 H',
    ?_, ?_⟩
  · refine ⟨_, rfl, fun b dx nb nx ne => ?_⟩
    have nib := ne_of_none hi2 nb
    have nix := ne_of_none hi2 nx
    refine ⟨b, it, dx, ls, rfl, upd_same, ?_, good, fun H3 hB b3 =>
      ⟨rfl, b, rfl, hB, ?_⟩⟩
    · rw [upd_ne nib, upd_ne nix]
      exact hi2
    · intro y o e
      have ny := ne_of_none e nb
      refine b3 y o ?_ ny
      rw [upd_ne ny, upd_ne (ne_of_none e nx)]
      exact e
  rintro _ H3 ⟨b, rfl, hB3, s3⟩
  have rg3 := rg2.same s3
  have hi3 := s3 _ _ hi2
  have b3 : But p H0 H3 := b2.trans (But.of s3)
  have nip := neRng rg3 hi3
  have hlx : (ls.map vS).length ≤ 1000 := by rw [List.length_map]; omega
  -- the orders
  refine ⟨fun σ' H' => ∃ od r o1 o2 os1 os2, σ' = [some (.ref a), some (.int i),
    some (.ref p), some (.ref it), some (.ref b), some (.ref od), x6] ∧
    H' od = some (.lst [.ref it, .ref r, .ref o1, .ref o2]) ∧
    Ord C H' b it ls ls ∧ Ord C H' b r ls ls.reverse ∧ Ord C H' b o1 ls os1 ∧
    Ord C H' b o2 ls os2 ∧ Rng H' p ∧ But p H0 H', ?_, ?_⟩
  · refine ⟨_, rfl, _, rfl, it, _, rfl, SqL.of hi3, fun r nr => ?_⟩
    have nrp : r ≠ p := (rg3.ne nr).symm
    have e4 : Same H3 (upd H3 r (.lst (ls.map vS).reverse)) := sameNew nr
    have hr4 : (upd H3 r (.lst (ls.map vS).reverse)) r =
      some (.lst (ls.map vS).reverse) := upd_same
    have b4 : But p H0 (upd H3 r (.lst (ls.map vS).reverse)) := b3.put nr nrp
    generalize upd H3 r (.lst (ls.map vS).reverse) = H4 at e4 hr4 b4 ⊢
    have rg4 := rg3.same e4
    have hi4 := e4 _ _ hi3
    have hB4 := hB3.same e4
    rw [← List.map_reverse] at hr4
    refine ⟨_, rfl, _, rfl, p, it, _, rfl, rg4, SqL.of hi4, nip, hlx,
      fun o1 ys1 H5 n1 pm1 h51 rg5 b5 => ?_⟩
    obtain ⟨os1, rfl, pn1⟩ := perm_back pm1
    have hi5 := b5 _ _ hi4 nip
    refine ⟨_, rfl, _, rfl, p, it, _, rfl, rg5, SqL.of hi5, nip, hlx,
      fun o2 ys2 H6 n2 pm2 h62 rg6 b6 => ?_⟩
    obtain ⟨os2, rfl, pn2⟩ := perm_back pm2
    have b46 := b5.trans b6
    have hB6 := hB4.but rg4 b46
    refine ⟨sz (by simp), fun od nod => ?_⟩
    have nodp : od ≠ p := (rg6.ne nod).symm
    have e7 : Same H6 (upd H6 od (.lst [.ref it, .ref r, .ref o1, .ref o2])) :=
      sameNew nod
    have hB7 := hB6.same e7
    exact ⟨od, r, o1, o2, os1, os2, rfl, upd_same,
      ⟨hB7, good, e7 _ _ (b46 _ _ hi4 nip), List.Perm.refl _⟩,
      ⟨hB7, good, e7 _ _ (b46 _ _ hr4 (neRng rg4 hr4)),
        List.reverse_perm ls⟩,
      ⟨hB7, good, e7 _ _ (b6 _ _ h51 (neRng rg5 h51)), pn1⟩,
      ⟨hB7, good, e7 _ _ h62, pn2⟩, rg6.same e7,
      ((b4.trans b46)).put nod nodp⟩
  clear hB3 s3 rg3 hi3 b3
  rintro _ H4 ⟨od, r, o1, o2, os1, os2, rfl, hod, O0, O1, O2, O3, rg4, b4⟩
  have nodp : od ≠ p := by
    obtain ⟨u, v, e, _⟩ := rg4
    refine ne_of hod e fun z => ?_
    have := congrArg List.length (HO.lst.inj z)
    simp at this
  -- all of them
  refine ⟨fun σ' H' => σ' = [some (.ref a), some (.int i),
    some (.ref p), some (.ref it), some (.ref b), some (.ref od), x6] ∧
    Ord C H' b it ls ls ∧ Rng H' p ∧ But p H0 H', ?_, ?_⟩
  · refine ⟨_, rfl, od, rfl, ⟨_, SqL.of hod⟩, fun D nD => ?_⟩
    have nDp : D ≠ p := (rg4.ne nD).symm
    refine lc_list (K := K) (a := od)
      (xs := [.ref it, .ref r, .ref o1, .ref o2]) (fun j H' =>
      H' D = some (.lst ((List.replicate j true).map V.bl)) ∧ Rng H' p ∧
      But p H4 H')
      ⟨upd_same, rg4.same (sameNew nD), (But.refl H4).put nD nDp⟩
      (fun j H' _ z => SqL.of (z.2.2 _ _ hod nodp)) ?_ ?_
    · rintro j y H5 hy ⟨hD, rg5, b5⟩
      obtain ⟨oa, os, rfl, O⟩ : ∃ oa os, y = .ref oa ∧ Ord C H4 b oa ls os := by
        match j, hy with
        | 0, hy => cases hy; exact ⟨it, ls, rfl, O0⟩
        | 1, hy => cases hy; exact ⟨r, ls.reverse, rfl, O1⟩
        | 2, hy => cases hy; exact ⟨o1, os1, rfl, O2⟩
        | 3, hy => cases hy; exact ⟨o2, os2, rfl, O3⟩
        | j + 4, hy => simp at hy
      have hj : j < 4 := (List.getElem?_eq_some_iff.mp hy).1
      have O5 := O.but rg4 b5
      refine ⟨rfl, yes ⟨_, rfl, _, rfl, _, rfl, _, rfl, p, b, it, oa, ls, os,
        rfl, rg5, O5, (O0.but rg4 b5).li, fun H6 rg6 b6 => ⟨_, b6 _ _ hD nDp, ?_,
        ?_, ?_, ?_⟩⟩⟩
      · rw [List.length_map, List.length_replicate]
        exact sz' (by omega)
      · rw [upd_same, List.replicate_succ', List.map_append]
        rfl
      · exact rg6.but (But.at (p := D) (But.refl H6)) nDp.symm
      · exact (b5.trans b6).new nD
    · rintro H5 ⟨hD, rg5, b5⟩
      refine ⟨D, _, rfl, SqL.of hD, _, rfl, ?_⟩
      exact iteF ⟨rfl, O0.but rg4 b5, rg5, b4.trans b5⟩
  clear O0 O1 O2 O3 rg4 b4 hod nodp
  rintro _ H5 ⟨rfl, O5, rg5, b5⟩
  -- the base's own order
  refine ⟨fun σ' H' => σ' = [some (.ref a), some (.int i),
    some (.ref p), some (.ref it), some (.ref b), some (.ref od), x6] ∧
    Ord C H' b it ls ls ∧ But p H0 H', ?_, ?_⟩
  · refine ⟨_, rfl, _, rfl, it, _, rfl, .inl (SqL.of O5.li), fun c nc => ?_⟩
    have ncp : c ≠ p := (rg5.ne nc).symm
    have O6 := O5.same (sameNew (o := .lst (ls.map vS)) nc)
    refine ⟨b, c, ls, ls, rfl, ⟨O6.ba, good, upd_same, List.Perm.refl _⟩,
      fun z rs H7 nz hz pr s7 => ?_⟩
    rw [inv_self good.nd] at pr
    cases pr
    refine ⟨sz (by simp), fun e ne => ⟨_, _, dp_P (SqL.of (sameNew ne _ _ hz))
      .nil, dp_P (rs := []) (SqL.of upd_same) .nil, shaped_P nofun,
      shaped_P nofun, _, rfl, ?_⟩⟩
    rw [eqv_P, decide_eq_true rfl]
    refine iteF ⟨rfl, (O6.same s7).same (sameNew ne), ?_⟩
    exact ((b5.put nc ncp).trans (But.of s7)).trans (But.of (sameNew ne))
  clear O5 rg5 b5
  rintro _ H6 ⟨rfl, O6, b6⟩
  -- the reversed one
  refine ⟨_, rfl, _, rfl, it, _, rfl, SqL.of O6.li, fun c nc => ?_⟩
  rw [← List.map_reverse]
  have O7 := O6.same (sameNew (o := .lst (ls.reverse.map vS)) nc)
  refine ⟨b, c, ls, ls.reverse, rfl, ⟨O7.ba, good, upd_same,
    List.reverse_perm ls⟩, fun z rs H8 nz hz pr s8 => ?_⟩
  have hi8 := s8 _ _ O7.li
  refine ⟨z, _, rfl, .inl (SqL.of hz), _, rfl, it, _, rfl, .inl (SqL.of hi8), _,
    rfl, it, _, rfl, .inl (SqL.of hi8), _, _, rfl, rfl, _, _, rfl, rfl,
    .inl ⟨by omega, ?_⟩, _, _, rfl, rfl, ⟨by decide, by decide⟩, rfl, _, rfl, ?_⟩
  · rw [List.length_map]
    omega
  · rw [List.length_map, List.length_map, pr.len, count_rev good.nd]
    refine ne_no ⟨_, _, _, _, _, _, rfl, ?_⟩
    exact s0.trans (((b6.same np).trans (sameNew nc)).trans s8)
end
end OM
namespace OM
open PySem PySem.Spec PyProof.Rows L2
/-! ### what the top has left -/
structure DefAt (K : PySem.W.Frag) (mg : Str → Option Value) (x : Str)
    (st : Stmt) (ps : List Str) (f : Addr) (fd : FuncData) : Prop where
  fn : Fun K x x st f fd
  mg : mg x = some (.ref f)
  bd : Binds K fd ps []
  bt : ∀ (s : Shared) (us : List Value), us.length = ps.length →
    BindsTo s fd ⟨us, []⟩ (ps.zip us)
theorem defAt {K : PySem.W.Frag} {mg : Str → Option Value} {h : Heap}
    {x : Str} {st : Stmt} {ps : List Str} {f : Addr} {oc : Value}
    {od an : Option Addr} {sl : Array (Option Value)}
    {kV dc pm cv ct : Value} (X : K.In h) (G : h.Ns mainGlobals mg)
    (a : PySem.W.nsIn K mainGlobals x = some (some (.ref f)))
    (l : K.lookup f = some ⟨oc, od, .func (PySem.W.fnOf x x (defArgs st)
      (defBody st) (defScope st) .none kV dc pm an cv ct), sl⟩)
    (c : PySem.W.codeIn K cv x = true)
    (k : PySem.W.keepIn K (.ref f) = true)
    (b : ∀ (kV doc pm : Value) (an : Option Addr) (cdv ct : Value)
      (us : List Value), us.length = ps.length →
      bindArgs (PySem.W.fnOf x x (defArgs st) (defBody st) (defScope st)
        .none kV doc pm an cdv ct) ⟨us, []⟩ = pure (ps.zip us)) :
    ∃ fd, DefAt K mg x st ps f fd :=
  have F := fun_mk (st := st) l c k
  ⟨_, F, PySem.W.mg_of X G a, F.binds b,
    fun _ us hl => .of_eq (b _ _ _ _ _ _ us hl)⟩
structure MethAt (K : PySem.W.Frag) (C : Addr) (m q : Str) (st : Stmt)
    (ps : List Str) (f : Addr) (fd : FuncData) : Prop where
  fn : Fun K m q st f fd
  me : Meth K C m f
  bd : Binds K fd ps []
theorem methAt {K : PySem.W.Frag} {C : Addr}
    {m q : Str} {st : Stmt} {ps : List Str} {f : Addr} {oc : Value}
    {od an : Option Addr} {sl : Array (Option Value)}
    {kV dc pm cv ct : Value}
    (a : PySem.W.findIn K (.ref C) m = some (some (.ref f)))
    (i : PySem.W.isFn K (.ref f) = true)
    (l : K.lookup f = some ⟨oc, od, .func (PySem.W.fnOf m q (defArgs st)
      (defBody st) (defScope st) .none kV dc pm an cv ct), sl⟩)
    (c : PySem.W.codeIn K cv q = true)
    (k : PySem.W.keepIn K (.ref f) = true)
    (b : ∀ (kV doc pm : Value) (an : Option Addr) (cdv ct : Value)
      (us : List Value), us.length = ps.length →
      bindArgs (PySem.W.fnOf m q (defArgs st) (defBody st) (defScope st)
        .none kV doc pm an cdv ct) ⟨us, []⟩ = pure (ps.zip us)) :
    ∃ fd, MethAt K C m q st ps f fd :=
  have F := fun_mk (st := st) l c k
  ⟨_, F, ⟨a, i, k⟩, F.binds b⟩
section
variable {P : Program} {w : World} {K : PySem.W.Frag}
  {mg : Str → Option Value} {base : Heap} {C : Addr}
theorem DefAt.cal {k j : Nat} {x : Str} {st : Stmt} {ps : List Str} {f : Addr}
    {fd : FuncData} {sp : Sp} (D : DefAt K mg x st ps f fd)
    (G : FnOk P w K mg base CX0 j f fd ps sp) (h : j ≤ k) :
    Cal P w K mg base k x ps sp :=
  ⟨f, fd, G.mono h, D.mg, D.fn.kp, D.bd⟩
theorem FnG.up {j k : Nat} {f : Addr} {fd : FuncData} {ps : List Str} {sp : Sp}
    (F : FnG P w K mg base CX0 j f fd ps sp) (h : j ≤ k) :
    FnG P w K mg base CX0 k f fd ps sp :=
  ⟨F.len, fun A o s H ar us vs Q E r g e b v z =>
    F.run A o s H ar us vs Q E (r.mono h) g e b v z⟩
theorem DefAt.calG {k j : Nat} {x : Str} {st : Stmt} {ps : List Str} {f : Addr}
    {fd : FuncData} {sp : Sp} (D : DefAt K mg x st ps f fd)
    (G : FnG P w K mg base CX0 j f fd ps sp) (h : j ≤ k) :
    CalG P w K mg base k x ps sp :=
  ⟨f, fd, G.up h, D.mg, D.fn.kp, D.bd⟩
theorem MethAt.calM {k j : Nat} {m q : Str} {st : Stmt} {ps : List Str}
    {f : Addr} {fd : FuncData} {sp : Sp} (D : MethAt K C m q st ps f fd)
    (c : Cls K C) (G : FnOk P w K mg base CX0 j f fd ps sp) (h : j ≤ k) :
    CalM P w K mg base C k m ps sp :=
  ⟨c, f, fd, G.mono h, D.me, D.bd⟩
theorem MethAt.spec {m q : Str} {st : Stmt} {ps : List Str}
    {f : Addr} {fd : FuncData} (D : MethAt K C m q st ps f fd) :
    Spec1 K C m f fd ps := ⟨D.me.at_, D.me.fn, D.bd⟩
end
end OM
namespace OM
open PySem PySem.Spec PyProof.Rows L2
section
variable {P : Program} {w : World} {K : PySem.W.Frag}
  {mg : Str → Option Value} {base : Heap} {C : Addr}
/-- the law, by what the top has left -/
theorem all14
    {f1 f2 f3 f4 f5 f6 f7 f8 f9 f10 f11 f12 f13 f14 f15 f16 f17 f18 f19 f20 : Addr}
    {d1 d2 d3 d4 d5 d6 d7 d8 d9 d10 d11 d12 d13 d14 d15 d16 d17 d18 d19 d20 :
      FuncData}
    {m1 m2 m3 m4 m5 m6 : Addr} {e1 e2 e3 e4 e5 e6 : FuncData}
    {t40 t8 : Tok} (B : Bl mg) (B2 : Bl2 mg) (T : BC K mg C)
    (mk : PySem.W.makesIn K C = true)
    (c40 : mg "MAX_ITEMS" = some (.int 40 t40))
    (c8 : mg "MAX_NAME_LENGTH" = some (.int 8 t8))
    (D1 : DefAt K mg "is_name" s_is_name ["value"] f1 d1)
    (D2 : DefAt K mg "check_items" s_check_items ["items"] f2 d2)
    (D3 : DefAt K mg "order_fault" s_order_fault ["base", "value"] f3 d3)
    (D4 : DefAt K mg "check_order" s_check_order ["base", "order"] f4 d4)
    (D5 : DefAt K mg "is_order" s_is_order ["base", "value"] f5 d5)
    (D6 : DefAt K mg "is_inverted" s_is_inverted
      ["base", "order", "first", "second"] f6 d6)
    (D7 : DefAt K mg "inverted_pairs" s_inverted_pairs ["base", "order"] f7 d7)
    (D8 : DefAt K mg "_law_rng" s_Lrng ["_law_script", "_law_k"] f8 d8)
    (D9 : DefAt K mg "_law_draw" s_Ldraw ["_law_rng_here", "_law_many"] f9 d9)
    (D10 : DefAt K mg "_law_choice" s_Lchoice
      ["_law_rng_here", "_law_options"] f10 d10)
    (D11 : DefAt K mg "_law_name" s_Lname ["_law_rng_here", "_law_used"] f11
      d11)
    (D12 : DefAt K mg "_law_names" s_Lnames
      ["_law_rng_here", "_law_many", "_law_used"] f12 d12)
    (D13 : DefAt K mg "_law_shuffled" s_Lshuffled
      ["_law_rng_here", "_law_values"] f13 d13)
    (D14 : DefAt K mg "_law_near_order" s_Lnear_order
      ["_law_rng_here", "_law_order", "_law_many"] f14 d14)
    (D15 : DefAt K mg "_law_inverted" s_Linverted
      ["_law_items", "_law_order"] f15 d15)
    (D16 : DefAt K mg "_law_random_order" s_Lrandom_order
      ["_law_rng_here", "_law_items"] f16 d16)
    (D17 : DefAt K mg "_law_pairs_right" s_Lpairs_right ["_law_rng_here",
      "_law_base", "_law_items", "_law_order", "_law_due"] f17 d17)
    (D18 : DefAt K mg "_law_check" s_Lcheck ["_law_rng_here", "_law_base",
      "_law_items", "_law_order"] f18 d18)
    (D19 : DefAt K mg "law" s_law ["_law_script"] f19 d19)
    (D20 : DefAt K mg "names_fault" s_names_fault ["value", "most"] f20 d20)
    (M1 : MethAt K C "__init__" "Base.__init__" s_Base_init
      ["self", "items"] m1 e1)
    (M2 : MethAt K C "__len__" "Base.__len__" s_Base_len ["self"] m2 e2)
    (M3 : MethAt K C "names" "Base.names" s_Base_names ["self"] m3 e3)
    (M4 : MethAt K C "has_item" "Base.has_item" s_Base_has_item
      ["self", "value"] m4 e4)
    (M5 : MethAt K C "position_of" "Base.position_of" s_Base_position_of
      ["self", "item"] m5 e5)
    (M6 : MethAt K C "precedes" "Base.precedes" s_Base_precedes
      ["self", "first", "second"] m6 e6) :
    FnG P w K mg base CX0 9 f19 d19 ["_law_script"] (spLaw K) := by
  have G9 := ok_draw (P := P) (w := w) (base := base) (k := 0) D9.fn B
  have G8 := ok_rng (P := P) (w := w) (base := base) (k := 0) D8.fn B
  have G1 := ok_isname (P := P) (w := w) (base := base) (k := 0) D1.fn B c8
  have H3 := ok_getnames (P := P) (w := w) (base := base) (k := 0) M3.fn B T
  have H2 := ok_lenB (P := P) (w := w) (base := base) (k := 0) M2.fn B T
  have G15 := ok_linv (P := P) (w := w) (base := base) (k := 0) D15.fn B B2
  have G10 := ok_choice (k := 1) D10.fn B (D9.cal G9 (by decide))
  have G11 := ok_name (k := 1) D11.fn B (D9.cal G9 (by decide))
  have G12 := ok_names (k := 2) D12.fn B (D11.cal G11 (by decide))
  have G13 := ok_shuf (k := 1) D13.fn B (D9.cal G9 (by decide))
  have G14 := ok_near (k := 1) D14.fn B B2 (D9.cal G9 (by decide))
  have G16 := ok_rand (k := 2) D16.fn (D9.cal G9 (by decide))
    (D13.cal G13 (by decide)) (D14.cal G14 (by decide))
  have G20 := ok_nfault (k := 1) D20.fn B (D1.cal G1 (by decide))
  have G2 := ok_check (k := 2) D2.fn (D20.cal G20 (by decide)) c40
  have H1 := ok_init (k := 3) M1.fn B T (D2.cal G2 (by decide))
  have H4 := ok_has (k := 1) M4.fn B T (D1.cal G1 (by decide))
  have H5 := ok_pos (k := 2) M5.fn T (M4.calM T.cl H4 (by decide))
  have H6 := ok_prec (k := 3) M6.fn (M5.calM T.cl H5 (by decide))
  have G3 := ok_fault (k := 2) (n := 1) D3.fn B T
    (M4.calM T.cl H4 (by decide)) M2.spec H2 (by decide)
  have G4 := ok_checkorder (k := 3) D4.fn (D3.cal G3 (by decide))
  have G5 := ok_isorder (k := 3) D5.fn (D3.cal G3 (by decide))
  have G6 := ok_inv (k := 4) D6.fn (D4.cal G4 (by decide))
    (M6.calM T.cl H6 (by decide))
  have G7 := ok_pairs (k := 4) D7.fn B (D4.cal G4 (by decide))
    (M3.calM T.cl H3 (by decide))
  have G17 := ok_pr (k := 5) D17.fn B (D10.cal G10 (by decide))
    (D6.cal G6 (by decide))
  have G18 := ok_chk (k := 6) D18.fn B T (D15.cal G15 (by decide))
    (D7.cal G7 (by decide)) (D5.cal G5 (by decide)) (D17.calG G17 (by decide))
    (M3.calM T.cl H3 (by decide))
  have mkB : Mk K C m1 := ⟨mk, M1.me.at_, M1.me.fn, T.kC⟩
  exact ok_law14 (k := 7) D19.fn B T (D8.cal G8 (by decide))
    (D9.cal G9 (by decide)) (D12.cal G12 (by decide))
    (D16.cal G16 (by decide)) (D18.calG G18 (by decide))
    ⟨T.mgC, m1, e1, H1.mono (by decide), mkB, M1.bd⟩ (D7.cal G7 (by decide))
end
end OM
namespace OM
open PySem PySem.Spec PyProof.Rows L2
theorem fin14 {l : PySem.W.OpenLaw} {w : World} {K : PySem.W.Frag} {h : Heap}
    {mg : Str → Option Value} {fa C : Addr} (X : K.In h)
    (G : h.Ns mainGlobals mg) (hfa : mg "law" = some (.ref fa))
    {f1 f2 f3 f4 f5 f6 f7 f8 f9 f10 f11 f12 f13 f14 f15 f16 f17 f18 f19 f20 m1 m2 m3 m4 m5 m6 : Addr}
    {odf1 anf1 odf2 anf2 odf3 anf3 odf4 anf4 odf5 anf5 odf6 anf6 odf7 anf7 odf8 anf8 odf9 anf9 odf10 anf10 odf11 anf11 odf12 anf12 odf13 anf13 odf14 anf14 odf15 anf15 odf16 anf16 odf17 anf17 odf18 anf18 odf19 anf19 odf20 anf20 odm1 anm1 odm2 anm2 odm3 anm3 odm4 anm4 odm5 anm5 odm6 anm6 : Option Addr}
    {slf1 slf2 slf3 slf4 slf5 slf6 slf7 slf8 slf9 slf10 slf11 slf12 slf13 slf14 slf15 slf16 slf17 slf18 slf19 slf20 slm1 slm2 slm3 slm4 slm5 slm6 : Array (Option Value)}
    {ocf1 kVf1 dcf1 pmf1 cdf1 ctf1 : Value}
    {ocf2 kVf2 dcf2 pmf2 cdf2 ctf2 : Value}
    {ocf3 kVf3 dcf3 pmf3 cdf3 ctf3 : Value}
    {ocf4 kVf4 dcf4 pmf4 cdf4 ctf4 : Value}
    {ocf5 kVf5 dcf5 pmf5 cdf5 ctf5 : Value}
    {ocf6 kVf6 dcf6 pmf6 cdf6 ctf6 : Value}
    {ocf7 kVf7 dcf7 pmf7 cdf7 ctf7 : Value}
    {ocf8 kVf8 dcf8 pmf8 cdf8 ctf8 : Value}
    {ocf9 kVf9 dcf9 pmf9 cdf9 ctf9 : Value}
    {ocf10 kVf10 dcf10 pmf10 cdf10 ctf10 : Value}
    {ocf11 kVf11 dcf11 pmf11 cdf11 ctf11 : Value}
    {ocf12 kVf12 dcf12 pmf12 cdf12 ctf12 : Value}
    {ocf13 kVf13 dcf13 pmf13 cdf13 ctf13 : Value}
    {ocf14 kVf14 dcf14 pmf14 cdf14 ctf14 : Value}
    {ocf15 kVf15 dcf15 pmf15 cdf15 ctf15 : Value}
    {ocf16 kVf16 dcf16 pmf16 cdf16 ctf16 : Value}
    {ocf17 kVf17 dcf17 pmf17 cdf17 ctf17 : Value}
    {ocf18 kVf18 dcf18 pmf18 cdf18 ctf18 : Value}
    {ocf19 kVf19 dcf19 pmf19 cdf19 ctf19 : Value}
    {ocf20 kVf20 dcf20 pmf20 cdf20 ctf20 : Value}
    {ocm1 kVm1 dcm1 pmm1 cdm1 ctm1 : Value}
    {ocm2 kVm2 dcm2 pmm2 cdm2 ctm2 : Value}
    {ocm3 kVm3 dcm3 pmm3 cdm3 ctm3 : Value}
    {ocm4 kVm4 dcm4 pmm4 cdm4 ctm4 : Value}
    {ocm5 kVm5 dcm5 pmm5 cdm5 ctm5 : Value}
    {ocm6 kVm6 dcm6 pmm6 cdm6 ctm6 : Value}
    {t40 t8 : Tok}
    (af1 : PySem.W.nsIn K mainGlobals "is_name" = some (some (.ref f1)))
    (lf1 : K.lookup f1 = some ⟨ocf1, odf1, .func (PySem.W.fnOf "is_name" "is_name"
      (defArgs s_is_name) (defBody s_is_name) (defScope s_is_name) .none kVf1 dcf1 pmf1 anf1 cdf1
      ctf1), slf1⟩)
    (cf1 : PySem.W.codeIn K cdf1 "is_name" = true)
    (kf1 : PySem.W.keepIn K (.ref f1) = true)
    (af2 : PySem.W.nsIn K mainGlobals "check_items" = some (some (.ref f2)))
    (lf2 : K.lookup f2 = some ⟨ocf2, odf2, .func (PySem.W.fnOf "check_items" "check_items"
      (defArgs s_check_items) (defBody s_check_items) (defScope s_check_items) .none kVf2 dcf2 pmf2 anf2 cdf2
      ctf2), slf2⟩)
    (cf2 : PySem.W.codeIn K cdf2 "check_items" = true)
    (kf2 : PySem.W.keepIn K (.ref f2) = true)
    (af3 : PySem.W.nsIn K mainGlobals "order_fault" = some (some (.ref f3)))
    (lf3 : K.lookup f3 = some ⟨ocf3, odf3, .func (PySem.W.fnOf "order_fault" "order_fault"
      (defArgs s_order_fault) (defBody s_order_fault) (defScope s_order_fault) .none kVf3 dcf3 pmf3 anf3 cdf3
      ctf3), slf3⟩)
    (cf3 : PySem.W.codeIn K cdf3 "order_fault" = true)
    (kf3 : PySem.W.keepIn K (.ref f3) = true)
    (af4 : PySem.W.nsIn K mainGlobals "check_order" = some (some (.ref f4)))
    (lf4 : K.lookup f4 = some ⟨ocf4, odf4, .func (PySem.W.fnOf "check_order" "check_order"
      (defArgs s_check_order) (defBody s_check_order) (defScope s_check_order) .none kVf4 dcf4 pmf4 anf4 cdf4
      ctf4), slf4⟩)
    (cf4 : PySem.W.codeIn K cdf4 "check_order" = true)
    (kf4 : PySem.W.keepIn K (.ref f4) = true)
    (af5 : PySem.W.nsIn K mainGlobals "is_order" = some (some (.ref f5)))
    (lf5 : K.lookup f5 = some ⟨ocf5, odf5, .func (PySem.W.fnOf "is_order" "is_order"
      (defArgs s_is_order) (defBody s_is_order) (defScope s_is_order) .none kVf5 dcf5 pmf5 anf5 cdf5
      ctf5), slf5⟩)
    (cf5 : PySem.W.codeIn K cdf5 "is_order" = true)
    (kf5 : PySem.W.keepIn K (.ref f5) = true)
    (af6 : PySem.W.nsIn K mainGlobals "is_inverted" = some (some (.ref f6)))
    (lf6 : K.lookup f6 = some ⟨ocf6, odf6, .func (PySem.W.fnOf "is_inverted" "is_inverted"
      (defArgs s_is_inverted) (defBody s_is_inverted) (defScope s_is_inverted) .none kVf6 dcf6 pmf6 anf6 cdf6
      ctf6), slf6⟩)
    (cf6 : PySem.W.codeIn K cdf6 "is_inverted" = true)
    (kf6 : PySem.W.keepIn K (.ref f6) = true)
    (af7 : PySem.W.nsIn K mainGlobals "inverted_pairs" = some (some (.ref f7)))
    (lf7 : K.lookup f7 = some ⟨ocf7, odf7, .func (PySem.W.fnOf "inverted_pairs" "inverted_pairs"
      (defArgs s_inverted_pairs) (defBody s_inverted_pairs) (defScope s_inverted_pairs) .none kVf7 dcf7 pmf7 anf7 cdf7
      ctf7), slf7⟩)
    (cf7 : PySem.W.codeIn K cdf7 "inverted_pairs" = true)
    (kf7 : PySem.W.keepIn K (.ref f7) = true)
    (af8 : PySem.W.nsIn K mainGlobals "_law_rng" = some (some (.ref f8)))
    (lf8 : K.lookup f8 = some ⟨ocf8, odf8, .func (PySem.W.fnOf "_law_rng" "_law_rng"
      (defArgs s_Lrng) (defBody s_Lrng) (defScope s_Lrng) .none kVf8 dcf8 pmf8 anf8 cdf8
      ctf8), slf8⟩)
    (cf8 : PySem.W.codeIn K cdf8 "_law_rng" = true)
    (kf8 : PySem.W.keepIn K (.ref f8) = true)
    (af9 : PySem.W.nsIn K mainGlobals "_law_draw" = some (some (.ref f9)))
    (lf9 : K.lookup f9 = some ⟨ocf9, odf9, .func (PySem.W.fnOf "_law_draw" "_law_draw"
      (defArgs s_Ldraw) (defBody s_Ldraw) (defScope s_Ldraw) .none kVf9 dcf9 pmf9 anf9 cdf9
      ctf9), slf9⟩)
    (cf9 : PySem.W.codeIn K cdf9 "_law_draw" = true)
    (kf9 : PySem.W.keepIn K (.ref f9) = true)
    (af10 : PySem.W.nsIn K mainGlobals "_law_choice" = some (some (.ref f10)))
    (lf10 : K.lookup f10 = some ⟨ocf10, odf10, .func (PySem.W.fnOf "_law_choice" "_law_choice"
      (defArgs s_Lchoice) (defBody s_Lchoice) (defScope s_Lchoice) .none kVf10 dcf10 pmf10 anf10 cdf10
      ctf10), slf10⟩)
    (cf10 : PySem.W.codeIn K cdf10 "_law_choice" = true)
    (kf10 : PySem.W.keepIn K (.ref f10) = true)
    (af11 : PySem.W.nsIn K mainGlobals "_law_name" = some (some (.ref f11)))
    (lf11 : K.lookup f11 = some ⟨ocf11, odf11, .func (PySem.W.fnOf "_law_name" "_law_name"
      (defArgs s_Lname) (defBody s_Lname) (defScope s_Lname) .none kVf11 dcf11 pmf11 anf11 cdf11
      ctf11), slf11⟩)
    (cf11 : PySem.W.codeIn K cdf11 "_law_name" = true)
    (kf11 : PySem.W.keepIn K (.ref f11) = true)
    (af12 : PySem.W.nsIn K mainGlobals "_law_names" = some (some (.ref f12)))
    (lf12 : K.lookup f12 = some ⟨ocf12, odf12, .func (PySem.W.fnOf "_law_names" "_law_names"
      (defArgs s_Lnames) (defBody s_Lnames) (defScope s_Lnames) .none kVf12 dcf12 pmf12 anf12 cdf12
      ctf12), slf12⟩)
    (cf12 : PySem.W.codeIn K cdf12 "_law_names" = true)
    (kf12 : PySem.W.keepIn K (.ref f12) = true)
    (af13 : PySem.W.nsIn K mainGlobals "_law_shuffled" = some (some (.ref f13)))
    (lf13 : K.lookup f13 = some ⟨ocf13, odf13, .func (PySem.W.fnOf "_law_shuffled" "_law_shuffled"
      (defArgs s_Lshuffled) (defBody s_Lshuffled) (defScope s_Lshuffled) .none kVf13 dcf13 pmf13 anf13 cdf13
      ctf13), slf13⟩)
    (cf13 : PySem.W.codeIn K cdf13 "_law_shuffled" = true)
    (kf13 : PySem.W.keepIn K (.ref f13) = true)
    (af14 : PySem.W.nsIn K mainGlobals "_law_near_order" = some (some (.ref f14)))
    (lf14 : K.lookup f14 = some ⟨ocf14, odf14, .func (PySem.W.fnOf "_law_near_order" "_law_near_order"
      (defArgs s_Lnear_order) (defBody s_Lnear_order) (defScope s_Lnear_order) .none kVf14 dcf14 pmf14 anf14 cdf14
      ctf14), slf14⟩)
    (cf14 : PySem.W.codeIn K cdf14 "_law_near_order" = true)
    (kf14 : PySem.W.keepIn K (.ref f14) = true)
    (af15 : PySem.W.nsIn K mainGlobals "_law_inverted" = some (some (.ref f15)))
    (lf15 : K.lookup f15 = some ⟨ocf15, odf15, .func (PySem.W.fnOf "_law_inverted" "_law_inverted"
      (defArgs s_Linverted) (defBody s_Linverted) (defScope s_Linverted) .none kVf15 dcf15 pmf15 anf15 cdf15
      ctf15), slf15⟩)
    (cf15 : PySem.W.codeIn K cdf15 "_law_inverted" = true)
    (kf15 : PySem.W.keepIn K (.ref f15) = true)
    (af16 : PySem.W.nsIn K mainGlobals "_law_random_order" = some (some (.ref f16)))
    (lf16 : K.lookup f16 = some ⟨ocf16, odf16, .func (PySem.W.fnOf "_law_random_order" "_law_random_order"
      (defArgs s_Lrandom_order) (defBody s_Lrandom_order) (defScope s_Lrandom_order) .none kVf16 dcf16 pmf16 anf16 cdf16
      ctf16), slf16⟩)
    (cf16 : PySem.W.codeIn K cdf16 "_law_random_order" = true)
    (kf16 : PySem.W.keepIn K (.ref f16) = true)
    (af17 : PySem.W.nsIn K mainGlobals "_law_pairs_right" = some (some (.ref f17)))
    (lf17 : K.lookup f17 = some ⟨ocf17, odf17, .func (PySem.W.fnOf "_law_pairs_right" "_law_pairs_right"
      (defArgs s_Lpairs_right) (defBody s_Lpairs_right) (defScope s_Lpairs_right) .none kVf17 dcf17 pmf17 anf17 cdf17
      ctf17), slf17⟩)
    (cf17 : PySem.W.codeIn K cdf17 "_law_pairs_right" = true)
    (kf17 : PySem.W.keepIn K (.ref f17) = true)
    (af18 : PySem.W.nsIn K mainGlobals "_law_check" = some (some (.ref f18)))
    (lf18 : K.lookup f18 = some ⟨ocf18, odf18, .func (PySem.W.fnOf "_law_check" "_law_check"
      (defArgs s_Lcheck) (defBody s_Lcheck) (defScope s_Lcheck) .none kVf18 dcf18 pmf18 anf18 cdf18
      ctf18), slf18⟩)
    (cf18 : PySem.W.codeIn K cdf18 "_law_check" = true)
    (kf18 : PySem.W.keepIn K (.ref f18) = true)
    (af19 : PySem.W.nsIn K mainGlobals "law" = some (some (.ref f19)))
    (lf19 : K.lookup f19 = some ⟨ocf19, odf19, .func (PySem.W.fnOf "law" "law"
      (defArgs s_law) (defBody s_law) (defScope s_law) .none kVf19 dcf19 pmf19 anf19 cdf19
      ctf19), slf19⟩)
    (cf19 : PySem.W.codeIn K cdf19 "law" = true)
    (kf19 : PySem.W.keepIn K (.ref f19) = true)
    (af20 : PySem.W.nsIn K mainGlobals "names_fault" = some (some (.ref f20)))
    (lf20 : K.lookup f20 = some ⟨ocf20, odf20, .func (PySem.W.fnOf "names_fault" "names_fault"
      (defArgs s_names_fault) (defBody s_names_fault) (defScope s_names_fault) .none kVf20 dcf20 pmf20 anf20 cdf20
      ctf20), slf20⟩)
    (cf20 : PySem.W.codeIn K cdf20 "names_fault" = true)
    (kf20 : PySem.W.keepIn K (.ref f20) = true)
    (aC : PySem.W.nsIn K mainGlobals "Base" = some (some (.ref C)))
    (am1 : PySem.W.findIn K (.ref C) "__init__" = some (some (.ref m1)))
    (im1 : PySem.W.isFn K (.ref m1) = true)
    (lm1 : K.lookup m1 = some ⟨ocm1, odm1, .func (PySem.W.fnOf "__init__" "Base.__init__"
      (defArgs s_Base_init) (defBody s_Base_init) (defScope s_Base_init) .none kVm1 dcm1 pmm1 anm1 cdm1
      ctm1), slm1⟩)
    (cm1 : PySem.W.codeIn K cdm1 "Base.__init__" = true)
    (km1 : PySem.W.keepIn K (.ref m1) = true)
    (am2 : PySem.W.findIn K (.ref C) "__len__" = some (some (.ref m2)))
    (im2 : PySem.W.isFn K (.ref m2) = true)
    (lm2 : K.lookup m2 = some ⟨ocm2, odm2, .func (PySem.W.fnOf "__len__" "Base.__len__"
      (defArgs s_Base_len) (defBody s_Base_len) (defScope s_Base_len) .none kVm2 dcm2 pmm2 anm2 cdm2
      ctm2), slm2⟩)
    (cm2 : PySem.W.codeIn K cdm2 "Base.__len__" = true)
    (km2 : PySem.W.keepIn K (.ref m2) = true)
    (am3 : PySem.W.findIn K (.ref C) "names" = some (some (.ref m3)))
    (im3 : PySem.W.isFn K (.ref m3) = true)
    (lm3 : K.lookup m3 = some ⟨ocm3, odm3, .func (PySem.W.fnOf "names" "Base.names"
      (defArgs s_Base_names) (defBody s_Base_names) (defScope s_Base_names) .none kVm3 dcm3 pmm3 anm3 cdm3
      ctm3), slm3⟩)
    (cm3 : PySem.W.codeIn K cdm3 "Base.names" = true)
    (km3 : PySem.W.keepIn K (.ref m3) = true)
    (am4 : PySem.W.findIn K (.ref C) "has_item" = some (some (.ref m4)))
    (im4 : PySem.W.isFn K (.ref m4) = true)
    (lm4 : K.lookup m4 = some ⟨ocm4, odm4, .func (PySem.W.fnOf "has_item" "Base.has_item"
      (defArgs s_Base_has_item) (defBody s_Base_has_item) (defScope s_Base_has_item) .none kVm4 dcm4 pmm4 anm4 cdm4
      ctm4), slm4⟩)
    (cm4 : PySem.W.codeIn K cdm4 "Base.has_item" = true)
    (km4 : PySem.W.keepIn K (.ref m4) = true)
    (am5 : PySem.W.findIn K (.ref C) "position_of" = some (some (.ref m5)))
    (im5 : PySem.W.isFn K (.ref m5) = true)
    (lm5 : K.lookup m5 = some ⟨ocm5, odm5, .func (PySem.W.fnOf "position_of" "Base.position_of"
      (defArgs s_Base_position_of) (defBody s_Base_position_of) (defScope s_Base_position_of) .none kVm5 dcm5 pmm5 anm5 cdm5
      ctm5), slm5⟩)
    (cm5 : PySem.W.codeIn K cdm5 "Base.position_of" = true)
    (km5 : PySem.W.keepIn K (.ref m5) = true)
    (am6 : PySem.W.findIn K (.ref C) "precedes" = some (some (.ref m6)))
    (im6 : PySem.W.isFn K (.ref m6) = true)
    (lm6 : K.lookup m6 = some ⟨ocm6, odm6, .func (PySem.W.fnOf "precedes" "Base.precedes"
      (defArgs s_Base_precedes) (defBody s_Base_precedes) (defScope s_Base_precedes) .none kVm6 dcm6 pmm6 anm6 cdm6
      ctm6), slm6⟩)
    (cm6 : PySem.W.codeIn K cdm6 "Base.precedes" = true)
    (km6 : PySem.W.keepIn K (.ref m6) = true)
    (pg : PySem.W.plainGet K C Str.empty = true)
    (hd : PySem.W.hasDictIn K C = true)
    (po : PySem.W.plainOver K C = true)
    (sa : PySem.W.findIn K (.ref C) "__setattr__" =
      some (some (.builtin "object.__setattr__")))
    (ha : PySem.W.findIn K (.ref C) "__class__" =
      some (some (.builtin "object.__class__")))
    (hn : PySem.W.specialIn K (.builtin "object.__class__") "__get__" =
      some (some (.builtin "getset_descriptor.__get__")))
    (htk : PySem.W.takesIn K (.builtin "object.__class__") = some true)
    (hm : PySem.W.mroIn K C (.type "object") = some true)
    (mk : PySem.W.makesIn K C = true)
    (kc : PySem.W.keepIn K (.ref C) = true)
    (nL : PySem.W.findIn K (.ref C) "listed" = some none)
    (nP : PySem.W.findIn K (.ref C) "places" = some none)
    (c40 : PySem.W.nsIn K mainGlobals "MAX_ITEMS" = some (some (.int 40 t40)))
    (c8 : PySem.W.nsIn K mainGlobals "MAX_NAME_LENGTH" =
      some (some (.int 8 t8)))
    (zlen : PySem.W.nsIn K mainGlobals "len" = some none)
    (zdivmod : PySem.W.nsIn K mainGlobals "divmod" = some none)
    (zabs : PySem.W.nsIn K mainGlobals "abs" = some none)
    (zmax : PySem.W.nsIn K mainGlobals "max" = some none)
    (zmin : PySem.W.nsIn K mainGlobals "min" = some none)
    (zrange : PySem.W.nsIn K mainGlobals "range" = some none)
    (zenumerate : PySem.W.nsIn K mainGlobals "enumerate" = some none)
    (zisinstance : PySem.W.nsIn K mainGlobals "isinstance" = some none)
    (zstr : PySem.W.nsIn K mainGlobals "str" = some none)
    (zlist : PySem.W.nsIn K mainGlobals "list" = some none)
    (zset : PySem.W.nsIn K mainGlobals "set" = some none)
    (zall : PySem.W.nsIn K mainGlobals "all" = some none)
    (zrepr : PySem.W.nsIn K mainGlobals "repr" = some none)
    (zdict : PySem.W.nsIn K mainGlobals "dict" = some none)
    (zint : PySem.W.nsIn K mainGlobals "int" = some none)
    : ∃ fd : FuncData, (∀ (s : Shared) (v : Value),
        BindsTo s fd ⟨[v], []⟩ [("_law_script", v)]) ∧
      ∀ base : Heap, K.In base → base.Ns mainGlobals mg →
        FnG l.prog w K mg base CX0 9 fa fd ["_law_script"] (spLaw K) := by
  cases hfa.symm.trans (PySem.W.mg_of X G af19)
  have B : Bl mg := ⟨PySem.W.mg_none_of X G zlen, PySem.W.mg_none_of X G zdivmod, PySem.W.mg_none_of X G zabs, PySem.W.mg_none_of X G zmax, PySem.W.mg_none_of X G zmin, PySem.W.mg_none_of X G zrange, PySem.W.mg_none_of X G zenumerate, PySem.W.mg_none_of X G zisinstance, PySem.W.mg_none_of X G zstr, PySem.W.mg_none_of X G zlist, PySem.W.mg_none_of X G zset, PySem.W.mg_none_of X G zall, PySem.W.mg_none_of X G zrepr⟩
  have B2 : Bl2 mg := ⟨PySem.W.mg_none_of X G zdict, PySem.W.mg_none_of X G zint⟩
  have T : BC K mg C := ⟨⟨⟨pg, hd, po, sa⟩, ha, hn, htk, hm,
    if_pos (beq_self_eq_true _)⟩, nL, nP,
    PySem.W.mg_of X G aC, kc⟩
  obtain ⟨d1, D1⟩ := defAt (st := s_is_name) (ps := ["value"]) X G af1 lf1 cf1 kf1
    fun _ _ _ _ _ _ us hl => match us, hl with | [_], _ => rfl
  obtain ⟨d2, D2⟩ := defAt (st := s_check_items) (ps := ["items"]) X G af2 lf2 cf2 kf2
    fun _ _ _ _ _ _ us hl => match us, hl with | [_], _ => rfl
  obtain ⟨d3, D3⟩ := defAt (st := s_order_fault) (ps := ["base", "value"]) X G af3 lf3 cf3 kf3
    fun _ _ _ _ _ _ us hl => match us, hl with | [_, _], _ => rfl
  obtain ⟨d4, D4⟩ := defAt (st := s_check_order) (ps := ["base", "order"]) X G af4 lf4 cf4 kf4
    fun _ _ _ _ _ _ us hl => match us, hl with | [_, _], _ => rfl
  obtain ⟨d5, D5⟩ := defAt (st := s_is_order) (ps := ["base", "value"]) X G af5 lf5 cf5 kf5
    fun _ _ _ _ _ _ us hl => match us, hl with | [_, _], _ => rfl
  obtain ⟨d6, D6⟩ := defAt (st := s_is_inverted) (ps := ["base", "order", "first", "second"]) X G af6 lf6 cf6 kf6
    fun _ _ _ _ _ _ us hl => match us, hl with | [_, _, _, _], _ => rfl
  obtain ⟨d7, D7⟩ := defAt (st := s_inverted_pairs) (ps := ["base", "order"]) X G af7 lf7 cf7 kf7
    fun _ _ _ _ _ _ us hl => match us, hl with | [_, _], _ => rfl
  obtain ⟨d8, D8⟩ := defAt (st := s_Lrng) (ps := ["_law_script", "_law_k"]) X G af8 lf8 cf8 kf8
    fun _ _ _ _ _ _ us hl => match us, hl with | [_, _], _ => rfl
  obtain ⟨d9, D9⟩ := defAt (st := s_Ldraw) (ps := ["_law_rng_here", "_law_many"]) X G af9 lf9 cf9 kf9
    fun _ _ _ _ _ _ us hl => match us, hl with | [_, _], _ => rfl
  obtain ⟨d10, D10⟩ := defAt (st := s_Lchoice) (ps := ["_law_rng_here", "_law_options"]) X G af10 lf10 cf10 kf10
    fun _ _ _ _ _ _ us hl => match us, hl with | [_, _], _ => rfl
  obtain ⟨d11, D11⟩ := defAt (st := s_Lname) (ps := ["_law_rng_here", "_law_used"]) X G af11 lf11 cf11 kf11
    fun _ _ _ _ _ _ us hl => match us, hl with | [_, _], _ => rfl
  obtain ⟨d12, D12⟩ := defAt (st := s_Lnames) (ps := ["_law_rng_here", "_law_many", "_law_used"]) X G af12 lf12 cf12 kf12
    fun _ _ _ _ _ _ us hl => match us, hl with | [_, _, _], _ => rfl
  obtain ⟨d13, D13⟩ := defAt (st := s_Lshuffled) (ps := ["_law_rng_here", "_law_values"]) X G af13 lf13 cf13 kf13
    fun _ _ _ _ _ _ us hl => match us, hl with | [_, _], _ => rfl
  obtain ⟨d14, D14⟩ := defAt (st := s_Lnear_order) (ps := ["_law_rng_here", "_law_order", "_law_many"]) X G af14 lf14 cf14 kf14
    fun _ _ _ _ _ _ us hl => match us, hl with | [_, _, _], _ => rfl
  obtain ⟨d15, D15⟩ := defAt (st := s_Linverted) (ps := ["_law_items", "_law_order"]) X G af15 lf15 cf15 kf15
    fun _ _ _ _ _ _ us hl => match us, hl with | [_, _], _ => rfl
  obtain ⟨d16, D16⟩ := defAt (st := s_Lrandom_order) (ps := ["_law_rng_here", "_law_items"]) X G af16 lf16 cf16 kf16
    fun _ _ _ _ _ _ us hl => match us, hl with | [_, _], _ => rfl
  obtain ⟨d17, D17⟩ := defAt (st := s_Lpairs_right) (ps := ["_law_rng_here", "_law_base", "_law_items", "_law_order", "_law_due"]) X G af17 lf17 cf17 kf17
    fun _ _ _ _ _ _ us hl => match us, hl with | [_, _, _, _, _], _ => rfl
  obtain ⟨d18, D18⟩ := defAt (st := s_Lcheck) (ps := ["_law_rng_here", "_law_base", "_law_items", "_law_order"]) X G af18 lf18 cf18 kf18
    fun _ _ _ _ _ _ us hl => match us, hl with | [_, _, _, _], _ => rfl
  obtain ⟨d19, D19⟩ := defAt (st := s_law) (ps := ["_law_script"]) X G af19 lf19 cf19 kf19
    fun _ _ _ _ _ _ us hl => match us, hl with | [_], _ => rfl
  obtain ⟨d20, D20⟩ := defAt (st := s_names_fault) (ps := ["value", "most"]) X G af20 lf20 cf20 kf20
    fun _ _ _ _ _ _ us hl => match us, hl with | [_, _], _ => rfl
  obtain ⟨e1, M1⟩ := methAt (st := s_Base_init) (ps := ["self", "items"]) am1 im1 lm1 cm1 km1
    fun _ _ _ _ _ _ us hl => match us, hl with | [_, _], _ => rfl
  obtain ⟨e2, M2⟩ := methAt (st := s_Base_len) (ps := ["self"]) am2 im2 lm2 cm2 km2
    fun _ _ _ _ _ _ us hl => match us, hl with | [_], _ => rfl
  obtain ⟨e3, M3⟩ := methAt (st := s_Base_names) (ps := ["self"]) am3 im3 lm3 cm3 km3
    fun _ _ _ _ _ _ us hl => match us, hl with | [_], _ => rfl
  obtain ⟨e4, M4⟩ := methAt (st := s_Base_has_item) (ps := ["self", "value"]) am4 im4 lm4 cm4 km4
    fun _ _ _ _ _ _ us hl => match us, hl with | [_, _], _ => rfl
  obtain ⟨e5, M5⟩ := methAt (st := s_Base_position_of) (ps := ["self", "item"]) am5 im5 lm5 cm5 km5
    fun _ _ _ _ _ _ us hl => match us, hl with | [_, _], _ => rfl
  obtain ⟨e6, M6⟩ := methAt (st := s_Base_precedes) (ps := ["self", "first", "second"]) am6 im6 lm6 cm6 km6
    fun _ _ _ _ _ _ us hl => match us, hl with | [_, _, _], _ => rfl
  refine ⟨d19, fun s v => D19.bt s [v] rfl, fun base _ _ => ?_⟩
  exact all14 B B2 T mk (PySem.W.mg_of X G c40) (PySem.W.mg_of X G c8)
    D1 D2 D3 D4 D5 D6 D7 D8 D9 D10 D11 D12 D13 D14 D15 D16 D17 D18 D19 D20 M1 M2 M3 M4 M5 M6
end OM
open PySem PySem.W PyProof.Rows
set_option maxRecDepth 100000 in
set_option maxHeartbeats 0 in
theorem PySem.Challenge.cw_ordermerge_k14_whole_inverted_pairs_holds : PySem.Challenge.rw_ordermerge_k14_whole_inverted_pairs.Holds := by
  w_on; o_law; k_head; (case hw => w_witness2)
  k_fill
  refine OM.walkG (l := PySem.Challenge.rw_ordermerge_k14_whole_inverted_pairs) (n := 63) (k := 9)
    (x := "_law_script") (sp := OM.spLaw) rfl (by decide) rfl
    ⟨rfl, by decide, by decide⟩ (fun w h Y => PySem.W.kIn_of Y) ?F
    (fun K H a ns hl _ hS => ⟨a, ns, rfl, hS, hl, fun _ => rfl⟩)
  case F =>
    intro w mg fa h KX G hmg
    refine' OM.fin14 KX G hmg ?af1
      ?lf1
      ?cf1
      ?kf1
      ?af2
      ?lf2
      ?cf2
      ?kf2
      ?af3
      ?lf3
      ?cf3
      ?kf3
      ?af4
      ?lf4
      ?cf4
      ?kf4
      ?af5
      ?lf5
      ?cf5
      ?kf5
      ?af6
      ?lf6
      ?cf6
      ?kf6
      ?af7
      ?lf7
      ?cf7
      ?kf7
      ?af8
      ?lf8
      ?cf8
      ?kf8
      ?af9
      ?lf9
      ?cf9
      ?kf9
      ?af10
      ?lf10
      ?cf10
      ?kf10
      ?af11
      ?lf11
      ?cf11
      ?kf11
      ?af12
      ?lf12
      ?cf12
      ?kf12
      ?af13
      ?lf13
      ?cf13
      ?kf13
      ?af14
      ?lf14
      ?cf14
      ?kf14
      ?af15
      ?lf15
      ?cf15
      ?kf15
      ?af16
      ?lf16
      ?cf16
      ?kf16
      ?af17
      ?lf17
      ?cf17
      ?kf17
      ?af18
      ?lf18
      ?cf18
      ?kf18
      ?af19
      ?lf19
      ?cf19
      ?kf19
      ?af20
      ?lf20
      ?cf20
      ?kf20
      ?aC
      ?am1
      ?im1
      ?lm1
      ?cm1
      ?km1
      ?am2
      ?im2
      ?lm2
      ?cm2
      ?km2
      ?am3
      ?im3
      ?lm3
      ?cm3
      ?km3
      ?am4
      ?im4
      ?lm4
      ?cm4
      ?km4
      ?am5
      ?im5
      ?lm5
      ?cm5
      ?km5
      ?am6
      ?im6
      ?lm6
      ?cm6
      ?km6
      ?pg
      ?hd
      ?po
      ?sa
      ?ha
      ?hn
      ?htk
      ?hm
      ?mk
      ?kc
      ?nL
      ?nP
      ?c40
      ?c8
      ?zlen
      ?zdivmod
      ?zabs
      ?zmax
      ?zmin
      ?zrange
      ?zenumerate
      ?zisinstance
      ?zstr
      ?zlist
      ?zset
      ?zall
      ?zrepr
      ?zdict
      ?zint
    (case af1 => k_is)
    (case lf1 => k_is)
    (case cf1 => k_is)
    (case kf1 => k_is)
    (case af2 => k_is)
    (case lf2 => k_is)
    (case cf2 => k_is)
    (case kf2 => k_is)
    (case af3 => k_is)
    (case lf3 => k_is)
    (case cf3 => k_is)
    (case kf3 => k_is)
    (case af4 => k_is)
    (case lf4 => k_is)
    (case cf4 => k_is)
    (case kf4 => k_is)
    (case af5 => k_is)
    (case lf5 => k_is)
    (case cf5 => k_is)
    (case kf5 => k_is)
    (case af6 => k_is)
    (case lf6 => k_is)
    (case cf6 => k_is)
    (case kf6 => k_is)
    (case af7 => k_is)
    (case lf7 => k_is)
    (case cf7 => k_is)
    (case kf7 => k_is)
    (case af8 => k_is)
    (case lf8 => k_is)
    (case cf8 => k_is)
    (case kf8 => k_is)
    (case af9 => k_is)
    (case lf9 => k_is)
    (case cf9 => k_is)
    (case kf9 => k_is)
    (case af10 => k_is)
    (case lf10 => k_is)
    (case cf10 => k_is)
    (case kf10 => k_is)
    (case af11 => k_is)
    (case lf11 => k_is)
    (case cf11 => k_is)
    (case kf11 => k_is)
    (case af12 => k_is)
    (case lf12 => k_is)
    (case cf12 => k_is)
    (case kf12 => k_is)
    (case af13 => k_is)
    (case lf13 => k_is)
    (case cf13 => k_is)
    (case kf13 => k_is)
    (case af14 => k_is)
    (case lf14 => k_is)
    (case cf14 => k_is)
    (case kf14 => k_is)
    (case af15 => k_is)
    (case lf15 => k_is)
    (case cf15 => k_is)
    (case kf15 => k_is)
    (case af16 => k_is)
    (case lf16 => k_is)
    (case cf16 => k_is)
    (case kf16 => k_is)
    (case af17 => k_is)
    (case lf17 => k_is)
    (case cf17 => k_is)
    (case kf17 => k_is)
    (case af18 => k_is)
    (case lf18 => k_is)
    (case cf18 => k_is)
    (case kf18 => k_is)
    (case af19 => k_is)
    (case lf19 => k_is)
    (case cf19 => k_is)
    (case kf19 => k_is)
    (case af20 => k_is)
    (case lf20 => k_is)
    (case cf20 => k_is)
    (case kf20 => k_is)
    (case aC => k_is)
    (case am1 => k_is)
    (case im1 => k_is)
    (case lm1 => k_is)
    (case cm1 => k_is)
    (case km1 => k_is)
    (case am2 => k_is)
    (case im2 => k_is)
    (case lm2 => k_is)
    (case cm2 => k_is)
    (case km2 => k_is)
    (case am3 => k_is)
    (case im3 => k_is)
    (case lm3 => k_is)
    (case cm3 => k_is)
    (case km3 => k_is)
    (case am4 => k_is)
    (case im4 => k_is)
    (case lm4 => k_is)
    (case cm4 => k_is)
    (case km4 => k_is)
    (case am5 => k_is)
    (case im5 => k_is)
    (case lm5 => k_is)
    (case cm5 => k_is)
    (case km5 => k_is)
    (case am6 => k_is)
    (case im6 => k_is)
    (case lm6 => k_is)
    (case cm6 => k_is)
    (case km6 => k_is)
    (case pg => k_is)
    (case hd => k_is)
    (case po => k_is)
    (case sa => k_is)
    (case ha => k_is)
    (case hn => k_is)
    (case htk => k_is)
    (case hm => k_is)
    (case mk => k_is)
    (case kc => k_is)
    (case nL => k_is)
    (case nP => k_is)
    (case c40 => k_is)
    (case c8 => k_is)
    (case zlen => k_is)
    (case zdivmod => k_is)
    (case zabs => k_is)
    (case zmax => k_is)
    (case zmin => k_is)
    (case zrange => k_is)
    (case zenumerate => k_is)
    (case zisinstance => k_is)
    (case zstr => k_is)
    (case zlist => k_is)
    (case zset => k_is)
    (case zall => k_is)
    (case zrepr => k_is)
    (case zdict => k_is)
    (case zint => k_is)
