import PyProof.Rows.All
import Wide.All
import OpenK.AllK
import Wide.FinOn
import HandS.ForMost
import HandS.Codes
import HandS.FStr
import HandS.Walk
import HandS.IsInst
import HandS.SetKeys
import HandS.Exc
import HandS.ExcInit
import HandS.ExcField
import HandS.TryOnly
import HandS.WordsExc
import KE.KExcIs
import HandS.DictComp
import HandS.CallSlots
import HandS.Dict
import HandS.ExcOwn
import PySem.Challenge.RW_ordermerge_k12_first_invalid_item
set_option Elab.async false
set_option linter.all false
set_option maxRecDepth 100000
set_option maxHeartbeats 8000000
/-! a def's promise where no repr is under way -/
namespace OM
open PySem PySem.Spec PyProof.Rows L2

/-- FnOk, for callers around whom nothing is being shown -/
structure FnG (P : Program) (w : World) (K : PySem.W.Frag)
    (mg : Str → Option Value) (base : Heap) (CX : CXT)
    (k : Nat) (f : Addr) (fd : FuncData) (ps : List Str) (sp : Sp) : Prop where
  len : ∀ vs H Q E, sp vs H Q E → vs.length = ps.length
  run : ∀ (A : Around) (outer : List Env) (s : Shared) (H : Hp)
      (args : Args) (us : List Value) (vs : List V) (Q : VK) (E : XK),
    Room k A → A.guards = some [] →
    Env0 P w K mg base A outer s H →
    BindsTo s fd args (ps.zip us) → Vals vs us → sp vs H Q E →
    codeAny (model P w) A (.call (.ref f) args)
      (CR CX outer P w H s Q E) s

section
variable {P : Program} {w : World} {K : PySem.W.Frag}
  {mg : Str → Option Value} {base : Heap} {CX : CXT}
theorem FnG.ofOk {k : Nat} {f : Addr} {fd : FuncData} {ps : List Str} {sp : Sp}
    (F : FnOk P w K mg base CX k f fd ps sp) :
    FnG P w K mg base CX k f fd ps sp :=
  ⟨F.len, fun A o s H ar us vs Q E r _ e b v z =>
    F.run A o s H ar us vs Q E r e b v z⟩

theorem FnG.mk' {k : Nat} {f : Addr} {nm qual : Str} {pr : Arguments}
    {bd : List Stmt} {sc : Scope} {dV kV dc pm cv ct oc : Value}
    {an od : Option Addr} {sl : Array (Option Value)} {N ps : List Str} {sp : Sp}
    (lk : K.lookup f = some ⟨oc, od,
      .func (PySem.W.fnOf nm qual pr bd sc dV kV dc pm an cv ct), sl⟩)
    (hc : PySem.W.codeIn K cv qual = true) (S : FnScope N ps sc)
    (len : ∀ vs H Q E, sp vs H Q E → vs.length = ps.length)
    (body : ∀ (A : Around) (outer : List Env) (s : Shared) (H : Hp)
        (vs : List V) (Q : VK) (E : XK),
      Room k (A.deeper (envOfC qual sc s.heap.objs.size f cv)) →
      A.guards = some [] → sp vs H Q E →
      ∃ t, PSs (cxOf CX P w K mg base N qual sc f cv A outer s H E) bd t ∧
        t { nx := fun _ H' => Q .non H', rt := Q } (start N vs) H) :
    FnG P w K mg base CX (k + 1) f
      (PySem.W.fnOf nm qual pr bd sc dV kV dc pm an cv ct) ps sp := by
  refine ⟨len, ?_⟩
  intro A outer s H args us vs Q E room gd env bnd rel hsp
  have kin : K.In s.heap :=
    env.mod.kin.keeps fun b o q => (env.bs b o q).1
  have nol : s.heap.NoLimit :=
    env.mod.nolimit.keeps fun b o q => (env.bs b o q).1
  have kinds : ∀ y ∈ ps.zip us, sc.names.lookup y.1 = some .local ∨
      (sc.names.lookup y.1 = some .cell ∧
        ((cellsFrom (s.heap.objs.size + 1) sc.names []).lookup y.1).isSome
          = true) := by
    rintro ⟨n, v⟩ hy
    cases S.par n (List.of_mem_zip hy).1 with
    | inl q => exact Or.inl q
    | inr q => exact Or.inr ⟨q, PySem.W.cellsFrom_some _ _ _ (.inl q)⟩
  refine codeAny_call_function room.depth (kin _ _ lk) rfl S.co S.gen rfl
    (PySem.W.codeRec_of kin hc) (bnd _ _ _ _ ?_)
  refine wpAny_newFunctionEnv_cells S.kind kinds ?_
  intro env' he s1 x
  subst he
  refine ⟨nol.keeps x.toInCall.keep, codeAny_func ?_⟩
  obtain ⟨t, ht, hq⟩ := body A outer s H vs Q E (room.deeper _) gd hsp
  have I := inv_start (CX := CX) (E := E) S room.hd env
    (len _ _ _ _ hsp) rel x
  refine wpAny_mono (ht.run [] s1 (start N vs) H _ I hq) ?_
    (fun e s' z => z)
  intro fl s' hs
  cases fl with
  | ret u =>
    obtain ⟨v, σ', H', J, rv, q⟩ := hs
    exact ⟨v, H', J.os, J.bare, J.base, J.hok, rv, q⟩
  | next =>
    obtain ⟨σ', H', J, q⟩ := hs
    exact ⟨V.non, H', J.os, J.bare, J.base, J.hok, rfl, q⟩
  | brk => exact (hs.choose_spec.choose_spec.2 : False).elim
  | cont => exact (hs.choose_spec.choose_spec.2 : False).elim

/-- a def of the text, by its body -/
theorem okG {x qual : Str} {st : Stmt} {f : Addr} {fd : FuncData}
    {N ps : List Str} {k : Nat} {sp : Sp} (F : Fun K x qual st f fd)
    (S : FnScope N ps (defScope st))
    (len : ∀ vs H Q E, sp vs H Q E → vs.length = ps.length)
    (body : ∀ (cv : Value) (A : Around) (outer : List Env) (s : Shared)
        (H : Hp) (vs : List V) (Q : VK) (E : XK),
      Room k (A.deeper (envOfC qual (defScope st) s.heap.objs.size f cv)) →
      A.guards = some [] → sp vs H Q E →
      ∃ t, PSs (cxOf CX0 P w K mg base N qual (defScope st) f cv A
          outer s H E).nox (defBody st) t ∧
        t { nx := fun _ H' => Q .non H', rt := Q } (start N vs) H) :
    FnG P w K mg base CX0 (k + 1) f fd ps sp := by
  obtain ⟨oc, od, kV, dc, pm, an, cv, ct, sl, rfl, lk, hc⟩ := F.ex
  refine FnG.mk' lk hc S len ?_
  intro A outer s H vs Q E room gd hsp
  obtain ⟨t, h, q⟩ := body cv A outer s H vs Q E room gd hsp
  exact ⟨t, h.nox, q⟩
end

section
variable {X : Cx} {CX : CXT} {k : Nat} {f : Addr} {fd : FuncData}
  {ps : List Str} {sp : Sp} {dvs : List V} {ds : List Value} {E : XK}
theorem runG {pins : List (Addr × Obj)} {σ : L2.St} {H : Hp} {s : Shared}
    {Q : VK} {us : List Value} {vs : List V}
    (F : FnG X.prog X.w X.K X.mg X.base CX k f fd ps sp)
    (room : Room k X.A) (gd : X.A.guards = some [])
    (hb : Binds X.K fd ps ds) (hd : Vals dvs ds) (hx : Passes CX X E)
    (I : Inv X pins σ H s) (r : Vals vs us) (h : sp (vs ++ dvs) H Q E) :
    wpAny (model X.prog X.w) X.A (call (.ref f) us) (EP X pins σ Q) X.xe s := by
  have rr := r.append hd
  have hl : (us ++ ds).length = ps.length :=
    rr.length.symm.trans (F.len _ _ _ _ h)
  refine wpAny_call (codeAny_mono (F.run X.A X.stack s H ⟨us, []⟩ (us ++ ds)
    (vs ++ dvs) Q E room gd I.env0 (hb s us I.kIn hl) rr h) ?_)
  intro r s' hq
  match r, hq with
  | .error e, hq => exact hx pins σ H s e s' I hq
  | .ok (.ret u), hq => exact I.after hq
  | .ok .next, hq => exact False.elim hq
  | .ok .brk, hq => exact False.elim hq
  | .ok .cont, hq => exact False.elim hq

theorem pe_callG {x : Str} {p pos : Pos} {e : Expr} {es : List Expr} {t : TA}
    (F : FnG X.prog X.w X.K X.mg X.base CX k f fd ps sp)
    (room : Room k X.A) (gd : X.A.guards = some []) (hg : Gl X x)
    (hm : X.mg x = some (.ref f)) (hk : PySem.W.keepIn X.K (.ref f) = true)
    (hb : Binds X.K fd ps ds) (hd : Vals dvs ds) (hx : Passes CX X E)
    (ha : PA X (e :: es) t)
    (h1 : (x == ("__debug__" : Str)) = false := by decide)
    (h2 : starEach (e :: es) X.env =
      (false, eval e X.env) :: starEach es X.env := by rfl)
    (h3 : (backTo pos (starEach es X.env)).any (·.1) = false := by rfl) :
    PE X (.Call (.Name x p) (e :: es) [] pos) (tCall sp dvs E t) := by
  constructor
  intro pins s σ H Q I h
  refine wpAny_Call_Name_kw (ld_glob I hg hm ?_ h1)
  refine PySem.W.callWith_K (h₀ := X.base) I.ok.mod.kin hk
    (thn (ha.run pos pins s σ H _ I h) ?_) h2 h3
  rintro us s1 ⟨vs, H1, I1, r, q⟩
  exact ⟨I1.kIn, runG F room gd hb hd hx I1 r q⟩
end

/-! ### repr of data -/
section
variable {X : Cx}
theorem DpAll.noDict : ∀ {K : PySem.W.Frag} {H : Hp} (ds : List PyData)
    {vs : List V}, (∀ d ∈ ds, ∀ v, Dp K H v d → d.hasDict = false) →
    DpAll K H vs ds → PyData.hasDictAll ds = false
  | _, _, [], _, _, _ => by simp only [PyData.hasDictAll]
  | _, _, d :: ds, _, f, h => by
    cases h with
    | cons h1 h2 =>
      simp only [PyData.hasDictAll]
      rw [f d List.mem_cons_self _ h1,
        DpAll.noDict ds (fun e he => f e (List.mem_cons_of_mem _ he)) h2]
      rfl
mutual
theorem Dp.noDict {K : PySem.W.Frag} {H : Hp} :
    ∀ (d : PyData) {v : V}, Dp K H v d → d.hasDict = false
  | .none, _, _ => by simp only [PyData.hasDict]
  | .bool _, _, _ => by simp only [PyData.hasDict]
  | .int _, _, _ => by simp only [PyData.hasDict]
  | .str _, _, _ => by simp only [PyData.hasDict]
  | .list ds, _, h => by
    cases h with
    | lst _ h => simp only [PyData.hasDict]; exact Dp.noDicts ds h
  | .tuple ds, _, h => by
    cases h with
    | tup _ h => simp only [PyData.hasDict]; exact Dp.noDicts ds h
  | .dict _, _, h => by cases h
theorem Dp.noDicts {K : PySem.W.Frag} {H : Hp} :
    ∀ (ds : List PyData) {vs : List V}, DpAll K H vs ds →
      PyData.hasDictAll ds = false
  | [], _, _ => by simp only [PyData.hasDictAll]
  | d :: ds, _, h => by
    cases h with
    | cons h1 h2 =>
      simp only [PyData.hasDictAll]
      rw [Dp.noDict d h1, Dp.noDicts ds h2]
      rfl
end
/-- repr(x) of data without dicts -/
def rRepr (K : PySem.W.Frag) : List V → Hp → VK → Prop := fun xs H Q =>
  ∃ v d, xs = [v] ∧ Dp K H v d ∧ d.showable = true ∧ d.depth ≤ 60 ∧
    d.shown.length ≤ sizeLine ∧ Q (.str d.shown) H
theorem call_reprD {k : Nat} (room : Room k X.A)
    (gd : X.A.guards = some []) :
    CallR X (.builtin "repr") (rRepr X.K) := by
  intro pins s σ H xs us Q I r h
  obtain ⟨v, d, rfl, hd, sh, dp, sz, q⟩ := h
  cases r with
  | cons rv rn =>
    cases rn
    rename_i u
    obtain ⟨as, rd⟩ := Dp.reads I d v u hd rv
    have un := room.units
    cases hd with
    | non =>
      cases rv
      exact PySem.P.repr_of_none ⟨.str _, H, I.tok _, ⟨_, rfl⟩, q⟩
    | bl b =>
      cases rv
      exact PySem.P.repr_of_bool ⟨.str _, H, I.tok _, ⟨_, rfl⟩, q⟩
    | int i =>
      obtain ⟨t, rfl⟩ := rv
      refine PySem.P.repr_of_int ?_ ⟨.str _, H, I.tok _, ⟨_, rfl⟩, q⟩
      simpa [PyData.showable] using sh
    | str x =>
      obtain ⟨t, rfl⟩ := rv
      exact PySem.P.repr_of_str ⟨.str _, H, I.tok _, ⟨_, rfl⟩, q⟩ sz
    | lst a b =>
      cases rv
      refine repr_of_reads' rd sh (PyData.noDict_hsm
        (Dp.noDict _ (Dp.lst a b))) gd (by omega) (fun _ _ e => e)
        (fun h' u tk hk => ?_) sz
      exact ⟨.str _, H, I.kept hk, ⟨_, rfl⟩, q⟩
    | tup a b =>
      cases rv
      refine repr_of_reads' rd sh (PyData.noDict_hsm
        (Dp.noDict _ (Dp.tup a b))) gd (by omega) (fun _ _ e => e)
        (fun h' u tk hk => ?_) sz
      exact ⟨.str _, H, I.kept hk, ⟨_, rfl⟩, q⟩
end
end OM
namespace OM
open PySem PySem.Spec PyProof.Rows L2

/-- the law's call, nothing being shown around it -/
theorem lawG {P : Program} {w : World} {K : PySem.W.Frag}
    {mg mb : Str → Option Value} {k : Nat} {fa a : Addr} {fd : FuncData}
    {x : Str} {sp : Sp} {s1 : Shared} {vs : List Value} {ns : List Int}
    (kin : K.In s1.heap) (glob : s1.heap.Ns mainGlobals mg)
    (blt : s1.heap.Ns builtinsNs mb)
    (boot : ∀ x : Str, x ≠ "__name__" → mb x = bootBuiltins x)
    (nol : s1.heap.NoLimit) (gens : s1.gens = #[])
    (ha : s1.heap.get? a =
      some { cls := .type "list", data := .seq vs.toArray })
    (hints : IntsAre vs ns) (hl : ns.length ≤ sizeLine)
    (room : Room k callerA)
    (F : ∀ base : Heap, K.In base → base.Ns mainGlobals mg →
      FnG P w K mg base CX0 k fa fd [x] sp)
    (bind : ∀ (s : Shared) (u : Value), BindsTo s fd ⟨[u], []⟩ [(x, u)])
    (hsp : ∀ H : Hp, Only H → SqL K H a (ns.map V.int) →
      sp [.ref a] H (fun v _ => v = .bl true) E0) :
    codeAny (model P w) callerA (.call (.ref fa) ⟨[.ref a], []⟩)
      (fun r s' => r = .ok (.ret (.bool true)) ∧ OldK s1.heap s'.heap ∧
        s'.os = s1.os ∧ AllBare s'.gens) s1 := by
  have rel := vals_ints hints
  have lv := hints.length
  -- H tracks the script alone, or nothing
  suffices core : ∀ H : Hp, Only H → SqL K H a (ns.map V.int) →
      HOk P w H s1.heap → (∀ b, H b ≠ none → b = a) →
      (H a ≠ none → K.lookup a = none) →
      codeAny (model P w) callerA (.call (.ref fa) ⟨[.ref a], []⟩)
        (fun r s' => r = .ok (.ret (.bool true)) ∧ OldK s1.heap s'.heap ∧
          s'.os = s1.os ∧ AllBare s'.gens) s1 by
    by_cases hk : ∃ o, K.lookup a = some o
    · obtain ⟨o, hk⟩ := hk
      have e := kin a o hk
      rw [ha] at e
      cases e
      refine core (fun _ => none) (fun _ => Or.inl rfl) (Or.inr ?_)
        (fun b u z => ?_) (fun b z => absurd rfl z) (fun z => absurd rfl z)
      · exact ⟨_, vs.toArray, _, hk, rfl, rfl, rfl,
          by rw [List.size_toArray, lv]; exact hl, by simpa using rel⟩
      · cases (show (none : Option HO) = some u from z)
    · have hk : K.lookup a = none := by
        cases q : K.lookup a with
        | none => rfl
        | some o => exact absurd ⟨o, q⟩ hk
      let ob : Obj := { cls := .type "list", data := .seq vs.toArray }
      refine core (fun b => if b = a then
          some (.frz ob (.lst (ns.map V.int))) else none)
        (fun b => ?_) (Or.inl (Or.inr ⟨ob, if_pos rfl⟩))
        (fun b u z => ?_) (fun b z => ?_) (fun _ => hk)
      · by_cases hb : b = a
        · exact Or.inr ⟨_, _, if_pos hb⟩
        · exact Or.inl (if_neg hb)
      · by_cases hb : b = a
        · cases (if_pos hb).symm.trans z
          subst hb
          exact ⟨ha, by rw [List.length_map]; exact hl, vs, _, rel, ha⟩
        · cases (if_neg hb).symm.trans z
      · by_cases hb : b = a
        · exact hb
        · exact absurd (if_neg hb) z
  intro H only sq ok alone notK
  have untracked : ∀ {b : Addr} {o : Obj}, s1.heap.get? b = some o →
      (∀ z, o.data ≠ .seq z 0) → H b = none := by
    intro b o e d
    cases q : H b with
    | none => rfl
    | some u =>
      have z : b = a := alone b (by rw [q]; exact nofun)
      subst z
      rw [ha] at e
      cases e
      exact absurd rfl (d _)
  have ns' : ∀ {b : Addr} {m : Str → Option Value}, s1.heap.Ns b m →
      (hidT s1.heap H).Ns b m := by
    rintro b m ⟨o, es, ep, e, d, r⟩
    refine ⟨o, es, ep, hidT_get e (untracked e fun z y => ?_), d, r⟩
    cases d.symm.trans y
  have kin' : K.In (hidT s1.heap H) := by
    intro b o e
    refine hidT_get (kin b o e) ?_
    cases q : H b with
    | none => rfl
    | some u =>
      have z : b = a := alone b (by rw [q]; exact nofun)
      subst z
      rw [notK (by rw [q]; exact nofun)] at e
      cases e
  have md : Mod K mg (hidT s1.heap H) := by
    obtain ⟨mc, h1, h2⟩ := nol
    exact ⟨kin', ns' glob, ⟨mb, ns' blt, boot⟩, ⟨mc, ns' h1, h2⟩⟩
  have env : Env0 P w K mg (hidT s1.heap H) callerA [] s1 H :=
    ⟨rfl, md, fun b o e => of_hidT e, Nat.le_of_eq (hidT_size _ _), trivial,
      fun b hb => (nomatch (show b ∈ ([] : List Addr) from hb)), ok,
      .of_eq gens⟩
  refine codeAny_mono ((F _ kin' (ns' glob)).run callerA [] s1 H ⟨[.ref a], []⟩
    [.ref a] [.ref a] _ _ room rfl env (bind s1 (.ref a)) (.cons rfl .nil)
    (hsp H only sq)) ?_
  intro r s' h
  match r, h with
  | .error e, h => exact False.elim h
  | .ok .next, h => exact False.elim h
  | .ok .brk, h => exact False.elim h
  | .ok .cont, h => exact False.elim h
  | .ok (.ret u), h =>
    obtain ⟨v, H', os, bare, un, ok', rv, q⟩ := h
    cases (show v = .bl true from q)
    cases (show u = Value.bool true from rv)
    refine ⟨rfl, OldK.of_keep fun b o e => ?_, os, bare⟩
    cases q : H b with
    | none =>
      exact un.keep b o e q
        (fun z => nomatch (show b ∈ ([] : List Addr) from z)) (by simp)
    | some u =>
      cases only b with
      | inl z => rw [q] at z; cases z
      | inr z =>
        obtain ⟨ob, xs, z⟩ := z
        have e1 := (ok b _ z).1
        have e2 := (ok' b _ (un.frzs b ob _ z)).1
        rw [e] at e1
        cases e1
        exact e2

/-- what the head leaves, from the law's promise -/
theorem walkG {l : PySem.W.OpenLaw} {n k : Nat} {q : Program} {ls : List Str}
    {XP : (Str → Option Value) → Heap → Prop} {YP : World → Heap → Prop}
    {d : DefRec} {K : Params → PySem.W.Frag} {sp : PySem.W.Frag → Sp} {x : Str}
    (hn : l.most = some n) (hn2 : n ≤ sizeLine)
    (hdf : d.params.defaults = []) (room : Room k callerA)
    (hY : ∀ (w : World) (h : Heap), YP w h → (K w.params).In h)
    (F : ∀ (w : World) (mg : Str → Option Value) (fa : Addr) (h : Heap),
      (K w.params).In h → h.Ns mainGlobals mg → mg d.name = some (.ref fa) →
      ∃ fd : FuncData,
        (∀ (s : Shared) (u : Value), BindsTo s fd ⟨[u], []⟩ [(x, u)]) ∧
        ∀ base : Heap, (K w.params).In base → base.Ns mainGlobals mg →
          FnG l.prog w (K w.params) mg base CX0 k fa fd [x]
            (sp (K w.params)))
    (hsp : ∀ (K : PySem.W.Frag) (H : Hp) (a : Addr) (ns : List Int),
      ns.length ≤ n → Only H → SqL K H a (ns.map V.int) →
      sp K [.ref a] H (fun v _ => v = .bl true) E0) :
    PySem.W.WalkO q ls XP YP l.row.toRowW d []
      (fun f vs => PySem.call f vs) := by
  refine Att.attach_call hn hdf ?_
  intro w s₀ s1 mg mb fa o pm cd doc a vs ns G Y ho hd hcd hmg hobj hi hlen hg
  have KX := hY w _ Y
  obtain ⟨fd, hb, hF⟩ := F w mg fa _ KX G.T.g hmg
  exact lawG KX G.T.g G.T.b G.T.builtins G.T.nolimit hg hobj hi
    (Nat.le_trans hlen hn2) room hF hb
    (fun H hO hS => hsp (K w.params) H a ns hlen hO hS)
end OM
namespace OM
open PySem PySem.Spec PyProof.Rows L2

/-! ### a callee, in one word -/
structure Cal (P : Program) (w : World) (K : PySem.W.Frag)
    (mg : Str → Option Value) (base : Heap) (k : Nat) (x : Str)
    (ps : List Str) (sp : Sp) : Prop where
  ex : ∃ f fd, FnOk P w K mg base CX0 k f fd ps sp ∧
    mg x = some (.ref f) ∧ PySem.W.keepIn K (.ref f) = true ∧
    Binds K fd ps []
structure CalG (P : Program) (w : World) (K : PySem.W.Frag)
    (mg : Str → Option Value) (base : Heap) (k : Nat) (x : Str)
    (ps : List Str) (sp : Sp) : Prop where
  ex : ∃ f fd, FnG P w K mg base CX0 k f fd ps sp ∧
    mg x = some (.ref f) ∧ PySem.W.keepIn K (.ref f) = true ∧
    Binds K fd ps []
section
variable {X : Cx} {k : Nat} {ps : List Str} {sp : Sp} {x : Str}
  {p pos : Pos} {e : Expr} {es : List Expr} {t : TA}
theorem pe_cal (C : Cal X.prog X.w X.K X.mg X.base k x ps sp)
    (room : Room k X.A) (ha : PA X (e :: es) t)
    (hg : Gl X x := by rfl)
    (h1 : (x == ("__debug__" : Str)) = false := by decide)
    (h2 : starEach (e :: es) X.env =
      (false, eval e X.env) :: starEach es X.env := by rfl)
    (h3 : (backTo pos (starEach es X.env)).any (·.1) = false := by rfl) :
    PE X (.Call (.Name x p) (e :: es) [] pos) (tCall sp [] E0 t) := by
  obtain ⟨f, fd, F, m, kp, b⟩ := C.ex
  exact pe_call F room hg m kp b .nil pass0 ha h1 h2 h3
theorem pe_calG (C : CalG X.prog X.w X.K X.mg X.base k x ps sp)
    (room : Room k X.A) (gd : X.A.guards = some [])
    (ha : PA X (e :: es) t)
    (hg : Gl X x := by rfl)
    (h1 : (x == ("__debug__" : Str)) = false := by decide)
    (h2 : starEach (e :: es) X.env =
      (false, eval e X.env) :: starEach es X.env := by rfl)
    (h3 : (backTo pos (starEach es X.env)).any (·.1) = false := by rfl) :
    PE X (.Call (.Name x p) (e :: es) [] pos) (tCall sp [] E0 t) := by
  obtain ⟨f, fd, F, m, kp, b⟩ := C.ex
  exact pe_callG F room gd hg m kp b .nil pass0 ha h1 h2 h3
end

/-! ### heaps: what may have changed -/
/-- all but p is as it was -/
def But (p : Addr) (H H' : Hp) : Prop :=
  ∀ q o, H q = some o → q ≠ p → H' q = some o
theorem But.refl {p : Addr} (H : Hp) : But p H H := fun _ _ h _ => h
theorem But.trans {p : Addr} {H H1 H2 : Hp} (a : But p H H1)
    (b : But p H1 H2) : But p H H2 :=
  fun q o h n => b q o (a q o h n) n
theorem But.of {p : Addr} {H H' : Hp} (a : Same H H') : But p H H' :=
  fun q o h _ => a q o h
theorem But.new {p q : Addr} {o : HO} {H H' : Hp} (a : But p H H')
    (n : H q = none) : But p H (upd H' q o) := fun b u h nb => by
  rw [upd_ne (ne_of_none h n)]
  exact a b u h nb
theorem But.at {p : Addr} {o : HO} {H H' : Hp} (a : But p H H') :
    But p H (upd H' p o) := fun b u h nb => by
  rw [upd_ne nb]
  exact a b u h nb
theorem But.same {p : Addr} {H H' : Hp} (a : But p H H')
    (n : H p = none) : Same H H' := fun q o h =>
  a q o h (ne_of_none h n)
theorem sameNew {H : Hp} {p : Addr} {o : HO} (h : H p = none) :
    Same H (upd H p o) := fun b x e => by
  rw [upd_ne (ne_of_none e h)]
  exact e
theorem Same.put {H H' : Hp} {p : Addr} {o : HO} (a : Same H H')
    (h : H p = none) : Same H (upd H' p o) := fun b x e => by
  rw [upd_ne (ne_of_none e h)]
  exact a b x e
theorem But.free {p q : Addr} {H H' : Hp} (a : But p H H') (n : q ≠ p)
    (h : H' q = none) : H q = none := by
  cases e : H q with
  | none => rfl
  | some o => rw [a q o e n] at h; cases h
theorem But.seq {K : PySem.W.Frag} {p a : Addr} {H H' : Hp} {xs : List V}
    (b : But p H H') (h : SqL K H a xs) (n : a ≠ p) : SqL K H' a xs := by
  rcases h with (h | ⟨o, h⟩) | h
  · exact .inl (.inl (b _ _ h n))
  · exact .inl (.inr ⟨o, b _ _ h n⟩)
  · exact .inr h

/-! ### the built-ins' names -/
structure Bl (mg : Str → Option Value) : Prop where
  len : mg "len" = none
  divmod : mg "divmod" = none
  abs : mg "abs" = none
  max : mg "max" = none
  min : mg "min" = none
  range : mg "range" = none
  enum : mg "enumerate" = none
  isi : mg "isinstance" = none
  str : mg "str" = none
  list : mg "list" = none
  set : mg "set" = none
  all : mg "all" = none
  repr : mg "repr" = none
theorem bt_divmod : bootBuiltins "divmod" = some (.builtin "divmod") := by
  decide +kernel
theorem bt_abs : bootBuiltins "abs" = some (.builtin "abs") := by
  decide +kernel
theorem bt_max : bootBuiltins "max" = some (.builtin "max") := by
  decide +kernel
theorem bt_min : bootBuiltins "min" = some (.builtin "min") := by
  decide +kernel
theorem bt_isi : bootBuiltins "isinstance" = some (.builtin "isinstance") := by
  decide +kernel
theorem bt_str : bootBuiltins "str" = some (.type "str") := by
  decide +kernel
theorem bt_list : bootBuiltins "list" = some (.type "list") := by
  decide +kernel
theorem bt_set : bootBuiltins "set" = some (.type "set") := by
  decide +kernel
theorem bt_all : bootBuiltins "all" = some (.builtin "all") := by
  decide +kernel
theorem bt_repr : bootBuiltins "repr" = some (.builtin "repr") := by
  decide +kernel

/-! ### the drawing state -/
def Rng (H : Hp) (p : Addr) : Prop :=
  ∃ a b : Int, H p = some (.lst [.int a, .int b]) ∧ 0 ≤ a ∧ 0 ≤ b ∧
    b < 2147483647
theorem Rng.but {H H' : Hp} {p q : Addr} (r : Rng H p) (b : But q H H')
    (n : p ≠ q) : Rng H' p := by
  obtain ⟨x, y, e, z⟩ := r
  exact ⟨x, y, b _ _ e n, z⟩
theorem Rng.same {H H' : Hp} {p : Addr} (r : Rng H p) (b : Same H H') :
    Rng H' p := by
  obtain ⟨x, y, e, z⟩ := r
  exact ⟨x, y, b _ _ e, z⟩
theorem Rng.ne {H : Hp} {p q : Addr} (r : Rng H p) (n : H q = none) :
    p ≠ q := by
  obtain ⟨x, y, e, z⟩ := r
  exact ne_of_none e n

/-- a draw below m: some number, the state moved on -/
def spDraw : Sp := fun vs H Q _ => ∃ (p : Addr) (m : Int),
  vs = [.ref p, .int m] ∧ Rng H p ∧ 0 < m ∧ m < 1000000 ∧
  ∀ (d : Int) (H' : Hp), 0 ≤ d → d < m → Rng H' p → But p H H' →
    Q (.int d) H'
/-- a new drawing state -/
def spRng (K : PySem.W.Frag) : Sp := fun vs H Q _ =>
  ∃ (a : Addr) (ns : List Int) (k : Nat), vs = [.ref a, .int k] ∧
  SqL K H a (ns.map V.int) ∧ k ≤ 1000 ∧
  ∀ (p : Addr) (H' : Hp), H p = none → Rng H' p → Same H H' →
    Q (.ref p) H'
end OM
/-! names as lists of codes -/
namespace OM
open PySem L2

/-- one to eight letters from a to z -/
structure Nm (l : List Nat) : Prop where
  lo : 1 ≤ l.length
  hi : l.length ≤ 8
  az : ∀ c ∈ l, 97 ≤ c ∧ c ≤ 122
abbrev vS (l : List Nat) : V := .str (SX.S l)
theorem vS_inj {a b : List Nat} (h : vS a = vS b) : a = b :=
  SX.S_inj (V.str.inj h)

theorem nodup_le {α : Type} [BEq α] [LawfulBEq α] : ∀ {l m : List α},
    l.Nodup → (∀ x ∈ l, x ∈ m) → l.length ≤ m.length
  | [], _, _, _ => Nat.zero_le _
  | x :: l, m, nd, h => by
    have hx : x ∈ m := h x List.mem_cons_self
    have nd' := List.nodup_cons.mp nd
    have r : l.length ≤ (m.erase x).length := by
      refine nodup_le nd'.2 fun y hy => ?_
      have ne : y ≠ x := fun e => nd'.1 (e ▸ hy)
      exact (List.mem_erase_of_ne ne).mpr (h y (List.mem_cons_of_mem _ hy))
    rw [List.length_erase_of_mem hx] at r
    have : 0 < m.length := List.length_pos_of_mem hx
    rw [List.length_cons]
    omega

/-- the k-th name to fall back upon -/
def frs6 (l : List Nat) (k : Nat) : List Nat :=
  l.take 6 ++ [97 + k / 26, 97 + k % 26]
theorem frs6_inj {l : List Nat} {j k : Nat} (h : frs6 l j = frs6 l k) :
    j = k := by
  have e := List.append_cancel_left h
  injection e with e1 e2
  injection e2 with e2 _
  omega
theorem Nm.frs {l : List Nat} (n : Nm l) {k : Nat} (hk : k < 676) :
    Nm (frs6 l k) := by
  unfold frs6
  refine ⟨?_, ?_, ?_⟩
  · simp
  · rw [List.length_append, List.length_take]
    show min 6 l.length + 2 ≤ 8
    omega
  · intro c hc
    rcases List.mem_append.mp hc with h | h
    · exact n.az c (List.mem_of_mem_take h)
    · rcases List.mem_cons.mp h with h | h
      · omega
      · rcases List.mem_cons.mp h with h | h
        · omega
        · cases h
def fresh (l : List Nat) : List (List Nat) :=
  l :: (List.range 676).map (frs6 l)
theorem fresh_nm {l : List Nat} (n : Nm l) : ∀ x ∈ fresh l, Nm x := by
  intro x hx
  rcases List.mem_cons.mp hx with h | h
  · rw [h]; exact n
  · obtain ⟨k, hk, rfl⟩ := List.mem_map.mp h
    exact n.frs (List.mem_range.mp hk)
theorem nodup_map {α β : Type} {f : α → β} (hf : ∀ a b, f a = f b → a = b) :
    ∀ {l : List α}, l.Nodup → (l.map f).Nodup
  | [], _ => List.nodup_nil
  | x :: l, h => by
    have h' := List.nodup_cons.mp h
    rw [List.map_cons]
    refine List.nodup_cons.mpr ⟨fun m => ?_, nodup_map hf h'.2⟩
    obtain ⟨y, hy, e⟩ := List.mem_map.mp m
    exact h'.1 (hf _ _ e ▸ hy)
theorem fresh_some {l : List Nat} {us : List (List Nat)}
    (h : us.length < 676) :
    ∃ x r, (fresh l).filter (fun y => decide (y ∉ us)) = x :: r := by
  cases e : (fresh l).filter (fun y => decide (y ∉ us)) with
  | cons x r => exact ⟨x, r, rfl⟩
  | nil =>
    exfalso
    have all : ∀ x ∈ (List.range 676).map (frs6 l), x ∈ us := by
      intro x hx
      apply Classical.byContradiction
      intro nx
      have : x ∈ (fresh l).filter (fun y => decide (y ∉ us)) :=
        List.mem_filter.mpr ⟨List.mem_cons_of_mem _ hx, decide_eq_true nx⟩
      rw [e] at this
      cases this
    have le := nodup_le (nodup_map (fun a b => frs6_inj (l := l))
      List.nodup_range) all
    rw [List.length_map, List.length_range] at le
    omega
theorem inV_S (x : List Nat) : ∀ us : List (List Nat),
    inV (vS x) (us.map vS) = decide (x ∈ us)
  | [] => by simp [inV]
  | u :: us => by
    have ih := inV_S x us
    unfold inV at ih ⊢
    rw [List.map_cons, List.any_cons, ih]
    by_cases e : u = x
    · subst e
      simp [eqV]
    · have ne : ¬ x = u := fun z => e z.symm
      have : eqV (vS u) (vS x) = false := by
        unfold eqV
        simp
        intro z
        exact e z
      rw [this]
      simp [ne]
theorem flat_S (us : List (List Nat)) : (us.map vS).all flatV = true := by
  rw [List.all_eq_true]
  intro v hv
  obtain ⟨l, _, rfl⟩ := List.mem_map.mp hv
  rfl
end OM
namespace OM
open PySem PySem.Spec PyProof.Rows L2
/-- an expression, with a word behind it -/
def tMid (t : TE) : TE := fun σ H Q =>
  ∃ M : V → Hp → Prop, t σ H M ∧ ∀ v H', M v H' → Q v H'
theorem pe_mid {X : Cx} {e : Expr} {t : TE} (h : PE X e t) :
    PE X e (tMid t) := by
  constructor
  intro pins s σ H Q I q
  obtain ⟨M, m, k⟩ := q
  refine thn (h.run pins s σ H M I m) ?_
  rintro u s1 ⟨v, H1, I1, r, z⟩
  exact ⟨v, H1, I1, r, k v H1 z⟩
def tMidT (t : TT) : TT := fun σ H Q =>
  ∃ M : Bool → Hp → Prop, t σ H M ∧ ∀ v H', M v H' → Q v H'
theorem pt_mid {X : Cx} {e : Expr} {t : TT} (h : PT X e t) :
    PT X e (tMidT t) := by
  constructor
  intro pins s σ H Q I q
  obtain ⟨M, m, k⟩ := q
  refine thn (h.run pins s σ H M I m) ?_
  rintro u s1 ⟨H1, I1, z⟩
  exact ⟨H1, I1, k u H1 z⟩
theorem But.put {p t : Addr} {o : HO} {H H1 : Hp} (a : But p H H1)
    (n : H1 t = none) (ne : t ≠ p) : But p H (upd H1 t o) :=
  a.new (a.free ne n)
/-- len of a list or tuple, the written part a letter -/
def rLenK (K : PySem.W.Frag) : List V → Hp → VK → Prop := fun xs H Q =>
  ∃ p ys, xs = [.ref p] ∧ (SqL K H p ys ∨ SqT K H p ys) ∧
    Q (.int ys.length) H
theorem call_lenK {X : Cx} : CallR X (.builtin "len") (rLenK X.K) :=
  call_len_seq
theorem sz {n : Nat} (h : n ≤ 100000) : n ≤ sizeLine :=
  Nat.le_trans h (by decide)
theorem sz' {n : Nat} (h : n < 100000) : n < sizeLine :=
  Nat.lt_of_lt_of_le h (by decide)
end OM
namespace OM
open PySem PySem.Spec PyProof.Rows L2
section
variable {X : Cx} {n : Nat} {f C : Addr} {fd : FuncData} {ps : List Str}
  {sp : Sp}
/-- a def runs at another depth of the same frame -/
theorem runAt {A : Around} {pins : List (Addr × Obj)} {σ : L2.St} {H : Hp}
    {s : Shared} {Q : VK} {us : List Value} {vs : List V}
    (F : FnG X.prog X.w X.K X.mg X.base CX0 n f fd ps sp)
    (room : Room n A) (gd : A.guards = some []) (fr : A.frames = X.A.frames)
    (hb : Binds X.K fd ps []) (I : Inv X pins σ H s) (r : Vals vs us)
    (h : sp vs H Q E0) :
    wpAny (model X.prog X.w) A (call (.ref f) us) (EP X pins σ Q) X.xe s := by
  have hl : us.length = ps.length := r.length.symm.trans (F.len _ _ _ _ h)
  have e0 : Env0 X.prog X.w X.K X.mg X.base A X.stack s H := by
    have e := I.env0
    exact ⟨by rw [fr]; exact e.frames, e.mod, e.bs, e.bsz, e.funs, e.frf,
      e.hok, e.bare⟩
  have bd : BindsTo s fd ⟨us, []⟩ (ps.zip us) := by
    have := hb s us I.kIn (by rw [List.append_nil]; exact hl)
    rw [List.append_nil] at this
    exact this
  refine wpAny_call (codeAny_mono (F.run A X.stack s H ⟨us, []⟩ us vs Q E0
    room gd e0 bd r h) ?_)
  intro r s' hq
  match r, hq with
  | .error e, hq => exact False.elim hq
  | .ok (.ret u), hq => exact I.after hq
  | .ok .next, hq => exact False.elim hq
  | .ok .brk, hq => exact False.elim hq
  | .ok .cont, hq => exact False.elim hq
/-- the same of a def that asks nothing of what is shown -/
theorem runAt0 {A : Around} {pins : List (Addr × Obj)} {σ : L2.St} {H : Hp}
    {s : Shared} {Q : VK} {us : List Value} {vs : List V}
    (F : FnOk X.prog X.w X.K X.mg X.base CX0 n f fd ps sp)
    (room : Room n A) (fr : A.frames = X.A.frames)
    (hb : Binds X.K fd ps []) (I : Inv X pins σ H s) (r : Vals vs us)
    (h : sp vs H Q E0) :
    wpAny (model X.prog X.w) A (call (.ref f) us) (EP X pins σ Q) X.xe s := by
  have hl : us.length = ps.length := r.length.symm.trans (F.len _ _ _ _ h)
  have e0 : Env0 X.prog X.w X.K X.mg X.base A X.stack s H := by
    have e := I.env0
    exact ⟨by rw [fr]; exact e.frames, e.mod, e.bs, e.bsz, e.funs, e.frf,
      e.hok, e.bare⟩
  have bd : BindsTo s fd ⟨us, []⟩ (ps.zip us) := by
    have := hb s us I.kIn (by rw [List.append_nil]; exact hl)
    rw [List.append_nil] at this
    exact this
  refine wpAny_call (codeAny_mono (F.run A X.stack s H ⟨us, []⟩ us vs Q E0
    room e0 bd r h) ?_)
  intro r s' hq
  match r, hq with
  | .error e, hq => exact False.elim hq
  | .ok (.ret u), hq => exact I.after hq
  | .ok .next, hq => exact False.elim hq
  | .ok .brk, hq => exact False.elim hq
  | .ok .cont, hq => exact False.elim hq
/-- an own method that the interpreter calls by itself -/
structure Spec1 (K : PySem.W.Frag) (C : Addr) (m : Str) (f : Addr)
    (fd : FuncData) (ps : List Str) : Prop where
  at_ : PySem.W.findIn K (.ref C) m = some (some (.ref f))
  fn : PySem.W.isFn K (.ref f) = true
  bd : Binds K fd ps []
/-- x == y, both of the class at C -/
def rEqOwn (C : Addr) (sp : Sp) : R2 := fun x y H Q =>
  ∃ a b dx dy fs gs, x = .ref a ∧ y = .ref b ∧
    H a = some (.ins C dx fs) ∧ H b = some (.ins C dy gs) ∧
    sp [.ref a, .ref b] H (fun v H' => ∃ r, v = .bl r ∧ Q (.bl r) H') E0
theorem op_eqOwn (S : Spec1 X.K C "__eq__" f fd ps)
    (F : FnOk X.prog X.w X.K X.mg X.base CX0 n f fd ps sp)
    (room : Room n X.A) : OpR X (compareOp .Eq) (rEqOwn C sp) := by
  intro pins s σ H x y v u Q I rx ry h
  obtain ⟨a, b, dx, dy, fs, gs, rfl, rfl, ha, hb, q⟩ := h
  cases rx
  cases ry
  obtain ⟨mA, J, _⟩ := ins_get I.hok ha
  obtain ⟨mB, J', _⟩ := ins_get I.hok hb
  obtain ⟨od, J, _⟩ := J.look
  obtain ⟨od', J', _⟩ := J'.look
  obtain ⟨m, hF⟩ := I.fr
  show wpAny _ X.A (richCompare .Eq (.ref a) (.ref b)) _ _ s
  refine PySem.W.cmp_K (op := .Eq) (tb := .ref C) room.units0 hF
    I.ok.mod.kin J J'.type (by simp [PySem.W.notFirst]) S.at_ S.fn ?_
  refine wpAny_mono (runAt0 F room rfl S.bd I (us := [.ref a, .ref b])
    (vs := [.ref a, .ref b])
    (.cons rfl (.cons rfl .nil)) q) ?_ (fun _ _ z => z)
  rintro z s' ⟨v, H', I', rv, r, rfl, q'⟩
  cases rv
  exact ⟨.bl r, H', I', rfl, q'⟩
/-- len(x) of the class at C -/
def rLenOwn (C : Addr) (sp : Sp) : List V → Hp → VK → Prop := fun xs H Q =>
  ∃ a dx fs, xs = [.ref a] ∧ H a = some (.ins C dx fs) ∧
    sp [.ref a] H (fun v H' => ∃ n : Nat, v = .int n ∧ n < 2 ^ 60 ∧
      Q (.int n) H') E0
theorem call_lenOwn (S : Spec1 X.K C "__len__" f fd ps)
    (F : FnOk X.prog X.w X.K X.mg X.base CX0 n f fd ps sp)
    (room : Room (n + 1) X.A) :
    CallR X (.builtin "len") (rLenOwn C sp) := by
  intro pins s σ H xs us Q I r h
  obtain ⟨a, dx, fs, rfl, ha, q⟩ := h
  cases r with
  | cons rv rn =>
    cases rn
    cases rv
    obtain ⟨mA, J, _⟩ := ins_get I.hok ha
    obtain ⟨od, J, _⟩ := J.look
    obtain ⟨m, hF⟩ := I.fr
    refine PySem.W.len_K hF I.ok.mod.kin J S.at_ S.fn ?_
    refine wpAny_mono (runAt0 (A := X.A.in1) F room.in1 rfl S.bd I
      (us := [.ref a]) (vs := [.ref a]) (.cons rfl .nil) q) ?_ (fun _ _ z => z)
    rintro z s' ⟨v, H', I', rv, k, rfl, hk, q'⟩
    obtain ⟨t, rfl⟩ := rv
    exact ⟨⟨by omega, by omega⟩, .int k, H', I'.tok _, ⟨_, rfl⟩, q'⟩
/-- repr(x) of the class at C -/
def rReprOwn (C : Addr) (sp : Sp) : List V → Hp → VK → Prop := fun xs H Q =>
  ∃ a dx fs, xs = [.ref a] ∧ H a = some (.ins C dx fs) ∧
    sp [.ref a] H (fun v H' => ∃ x : Str, v = .str x ∧ Q (.str x) H') E0
theorem call_reprOwn (S : Spec1 X.K C "__repr__" f fd ps)
    (F : FnG X.prog X.w X.K X.mg X.base CX0 n f fd ps sp)
    (room : Room (n + 1) X.A) (gd : X.A.guards = some []) :
    CallR X (.builtin "repr") (rReprOwn C sp) := by
  intro pins s σ H xs us Q I r h
  obtain ⟨a, dx, fs, rfl, ha, q⟩ := h
  cases r with
  | cons rv rn =>
    cases rn
    cases rv
    obtain ⟨mA, J, _⟩ := ins_get I.hok ha
    obtain ⟨od, J, _⟩ := J.look
    obtain ⟨m, hF⟩ := I.fr
    refine PySem.W.repr_K (by have := room.units; show X.A.units + 1 < _; omega) hF I.ok.mod.kin J S.at_ S.fn ?_
    refine wpAny_mono (runAt (A := X.A.in1) F room.in1 gd rfl S.bd I
      (us := [.ref a]) (vs := [.ref a]) (.cons rfl .nil) q) ?_ (fun _ _ z => z)
    rintro z s' ⟨v, H', I', rv, x, rfl, q'⟩
    obtain ⟨t, rfl⟩ := rv
    exact ⟨.str x, H', I', ⟨_, rfl⟩, q'⟩
/-- {x!r} of data -/
def tFmtD (K : PySem.W.Frag) (te : TE) : TE := fun σ H Q =>
  te σ H fun v H1 => ∃ a d, v = .ref a ∧ Dp K H1 v d ∧ d.showable = true ∧
    d.depth ≤ 60 ∧ d.shown.length ≤ sizeLine ∧ Q (.str d.shown) H1
theorem pe_fmtD {e : Expr} {te : TE} {pos : Pos} {k : Nat}
    (room : Room k X.A) (gd : X.A.guards = some []) (he : PE X e te) :
    PE X (.FormattedValue e 114 none pos) (tFmtD X.K te) := by
  constructor
  intro pins s σ H Q I h
  refine wpAny_FormattedValue_repr (thn (he.run pins s σ H _ I h) ?_)
  rintro v s1 ⟨x, H1, I1, r1, a, d, rfl, hd, sh, dp, sz, q⟩
  cases r1
  obtain ⟨as, rd⟩ := Dp.reads I1 d _ _ hd rfl
  have un := room.units
  refine pyReprObj_of_reads rd sh (PyData.noDict_hsm (Dp.noDict _ hd)) gd
    (by omega) (fun _ _ e => e) (fun h' u tk hk => ?_) sz
  exact wpAny_formatField_str ⟨.str _, H1, I1.kept hk, ⟨_, rfl⟩, q⟩
    ⟨.str _, H1, (I1.kept (t' := tk) hk).tok _, ⟨_, rfl⟩, q⟩ sz
end
end OM
namespace OM
open PySem PySem.Spec PyProof.Rows L2
abbrev dN (ls : List (List Nat)) : List PyData := ls.map fun l => .str (SX.S l)
theorem dpAll_N {K : PySem.W.Frag} {H : Hp} : ∀ ls : List (List Nat),
    DpAll K H (ls.map vS) (dN ls)
  | [] => .nil
  | l :: r => .cons (.str _) (dpAll_N r)
theorem dp_N {K : PySem.W.Frag} {H : Hp} {a : Addr} {ls : List (List Nat)}
    (h : SqL K H a (ls.map vS)) : Dp K H (.ref a) (.list (dN ls)) :=
  .lst h (dpAll_N ls)
theorem eqv_N : ∀ ls ms : List (List Nat),
    PyData.eqvAll (dN ls) (dN ms) = decide (ls = ms)
  | [], [] => by simp [PyData.eqvAll]
  | [], m :: ms => by simp [PyData.eqvAll]
  | l :: ls, [] => by simp [PyData.eqvAll]
  | l :: ls, m :: ms => by
    have ih := eqv_N ls ms
    show (PyData.eqv (.str (SX.S l)) (.str (SX.S m)) &&
      PyData.eqvAll (dN ls) (dN ms)) = _
    rw [ih]
    unfold PyData.eqv
    rw [SX.S_beq_eq]
    by_cases e : l = m
    · subst e
      simp
    · have : ¬ (l :: ls = m :: ms) := fun z => e (List.cons.inj z).1
      rw [decide_eq_false e, decide_eq_false this]
      rfl
theorem eqv_L (ls ms : List (List Nat)) :
    PyData.eqv (.list (dN ls)) (.list (dN ms)) = decide (ls = ms) := by
  rw [show PyData.eqv (.list (dN ls)) (.list (dN ms)) =
    PyData.eqvAll (dN ls) (dN ms) by simp only [PyData.eqv]]
  exact eqv_N ls ms
/-- texts of Unicode's codes -/
def Uni (ls : List (List Nat)) : Prop := ∀ l ∈ ls, ∀ c ∈ l, c < 1114112
theorem lay_N : ∀ ls : List (List Nat), Uni ls →
    PyData.canLayAll0 (dN ls) = true
  | [], _ => by simp [PyData.canLayAll0]
  | l :: ls, h => by
    have ih := lay_N ls fun x hx => h x (List.mem_cons_of_mem _ hx)
    have ok : PyData.strOk (SX.S l) = true := by
      unfold PyData.strOk
      rw [Array.all_eq_true]
      intro i hi
      have := h l List.mem_cons_self l.toArray[i] (by simp)
      exact decide_eq_true this
    show PyData.canLayAll0 (.str (SX.S l) :: dN ls) = true
    simp only [PyData.canLayAll0, PyData.canLay0, ih, ok, Bool.and_self]
theorem depth_N : ∀ ls : List (List Nat), PyData.depthAll (dN ls) ≤ 1
  | [] => by simp [PyData.depthAll]
  | l :: ls => by
    have ih := depth_N ls
    show PyData.depthAll (.str (SX.S l) :: dN ls) ≤ 1
    simp only [PyData.depthAll, PyData.depth]
    omega
theorem depth_L (ls : List (List Nat)) : (PyData.list (dN ls)).depth ≤ 2 := by
  simp only [PyData.depth]
  have := depth_N ls
  omega
theorem shaped_L {ls : List (List Nat)} (h : Uni ls) :
    SeqAt.shaped (.list (dN ls)) = true := by
  unfold SeqAt.shaped
  rw [show PyData.canLay0 (.list (dN ls)) = PyData.canLayAll0 (dN ls) by
    simp only [PyData.canLay0], lay_N ls h]
  have := depth_L ls
  exact decide_eq_true (by omega)
theorem showable_N : ∀ ls : List (List Nat), PyData.showableAll (dN ls) = true
  | [] => by simp [PyData.showableAll]
  | l :: ls => by
    have ih := showable_N ls
    show PyData.showableAll (.str (SX.S l) :: dN ls) = true
    simp only [PyData.showableAll, PyData.showable, ih, Bool.and_self]
theorem showable_L (ls : List (List Nat)) :
    (PyData.list (dN ls)).showable = true := by
  simp only [PyData.showable]
  exact showable_N ls
/-- short lists of short texts are shown shortly -/
theorem piled_N : ∀ (ls : List (List Nat)) (m : Nat),
    (∀ l ∈ ls, l.length ≤ m ∧ ∀ c ∈ l, c < 1114112) →
    piled (PyData.shownAll (dN ls)) ≤ ls.length * (10 * m + 4)
  | [], _, _ => by
    show piled (PyData.shownAll []) ≤ _
    simp only [PyData.shownAll]
    exact Nat.zero_le _
  | l :: ls, m, h => by
    have ih := piled_N ls m fun x hx => h x (List.mem_cons_of_mem _ hx)
    obtain ⟨h1, h2⟩ := h l List.mem_cons_self
    have h3 := StrLaws.reprText_len (SX.S l) (fun c hc => Nat.lt_of_lt_of_le
      (h2 c hc) (by decide))
    have h4 : (SX.S l).length = l.length := SX.S_len l
    have h5 : (reprText (SX.S l)).length ≤ 10 * m + 2 := by
      refine Nat.le_trans h3 ?_
      rw [h4]
      omega
    show piled (PyData.shownAll (.str (SX.S l) :: dN ls)) ≤ _
    simp only [PyData.shownAll, PyData.shown]
    rw [piled_cons, List.length_cons, Nat.add_mul]
    omega
theorem shown_L {ls : List (List Nat)} {m : Nat} (hn : ls.length ≤ 1000)
    (hm : m ≤ 1000) (h : ∀ l ∈ ls, l.length ≤ m ∧ ∀ c ∈ l, c < 1114112) :
    (PyData.list (dN ls)).shown.length ≤ sizeLine := by
  have p := piled_N ls m h
  have e : (PyData.list (dN ls)).shown =
      listText (PyData.shownAll (dN ls)) := by simp only [PyData.shown]
  rw [e]
  have q := listText_len_le (PyData.shownAll (dN ls))
  have r : ((PyData.shownAll (dN ls)).map (·.length)).sum +
      2 * (PyData.shownAll (dN ls)).length =
      piled (PyData.shownAll (dN ls)) := by
    generalize PyData.shownAll (dN ls) = ts
    induction ts with
    | nil => rfl
    | cons t ts ih =>
      rw [piled_cons, List.map_cons, List.sum_cons, List.length_cons]
      omega
  have s : ls.length * (10 * m + 4) ≤ 1000 * 10004 :=
    Nat.mul_le_mul hn (by omega)
  refine Nat.le_trans (show _ ≤ 10004003 by omega) (by decide)
end OM
namespace OM
open PySem PySem.Spec PyProof.Rows L2
def topS (i : Nat) : Stmt :=
  PySem.Challenge.pw_ordermerge_k12_first_invalid_item.main.body.getD i
    (.Pass ⟨0, 0, 0, 0⟩)
abbrev s_InvalidBase_init : Stmt := inClass (topS 3) 0
abbrev N_InvalidBase_init : List Str := ["self", "problem", "position"]
theorem sc_InvalidBase_init : FnScope N_InvalidBase_init
    ["self", "problem", "position"] (defScope s_InvalidBase_init) :=
  ⟨rfl, rfl, rfl, by decide +kernel, rfl,
    by decide +kernel, by decide +kernel⟩
abbrev s_InvalidOrder_init : Stmt := inClass (topS 4) 0
abbrev N_InvalidOrder_init : List Str := ["self", "position"]
theorem sc_InvalidOrder_init : FnScope N_InvalidOrder_init
    ["self", "position"] (defScope s_InvalidOrder_init) :=
  ⟨rfl, rfl, rfl, by decide +kernel, rfl,
    by decide +kernel, by decide +kernel⟩
abbrev s_InvalidUsers_init : Stmt := inClass (topS 5) 0
abbrev N_InvalidUsers_init : List Str := ["self", "problem", "position"]
theorem sc_InvalidUsers_init : FnScope N_InvalidUsers_init
    ["self", "problem", "position"] (defScope s_InvalidUsers_init) :=
  ⟨rfl, rfl, rfl, by decide +kernel, rfl,
    by decide +kernel, by decide +kernel⟩
abbrev s_InvalidText_init : Stmt := inClass (topS 6) 0
abbrev N_InvalidText_init : List Str := ["self", "line"]
theorem sc_InvalidText_init : FnScope N_InvalidText_init
    ["self", "line"] (defScope s_InvalidText_init) :=
  ⟨rfl, rfl, rfl, by decide +kernel, rfl,
    by decide +kernel, by decide +kernel⟩
abbrev s_is_name : Stmt := topS 10
abbrev N_is_name : List Str := ["value", "letter"]
theorem sc_is_name : FnScope N_is_name
    ["value"] (defScope s_is_name) :=
  ⟨rfl, rfl, rfl, by decide +kernel, rfl,
    by decide +kernel, by decide +kernel⟩
abbrev s_names_fault : Stmt := topS 11
abbrev N_names_fault : List Str := ["value", "most", "seen", "at", "name"]
theorem sc_names_fault : FnScope N_names_fault
    ["value", "most"] (defScope s_names_fault) :=
  ⟨rfl, rfl, rfl, by decide +kernel, rfl,
    by decide +kernel, by decide +kernel⟩
abbrev s_check_items : Stmt := topS 12
abbrev N_check_items : List Str := ["items", "fault", "problem", "position"]
theorem sc_check_items : FnScope N_check_items
    ["items"] (defScope s_check_items) :=
  ⟨rfl, rfl, rfl, by decide +kernel, rfl,
    by decide +kernel, by decide +kernel⟩
abbrev s_Base_init : Stmt := inClass (topS 13) 0
abbrev N_Base_init : List Str := ["self", "items", "name", "at"]
theorem sc_Base_init : FnScope N_Base_init
    ["self", "items"] (defScope s_Base_init) :=
  ⟨rfl, rfl, rfl, by decide +kernel, rfl,
    by decide +kernel, by decide +kernel⟩
abbrev s_Base_eq : Stmt := inClass (topS 13) 1
abbrev N_Base_eq : List Str := ["self", "other"]
theorem sc_Base_eq : FnScope N_Base_eq
    ["self", "other"] (defScope s_Base_eq) :=
  ⟨rfl, rfl, rfl, by decide +kernel, rfl,
    by decide +kernel, by decide +kernel⟩
abbrev s_Base_len : Stmt := inClass (topS 13) 2
abbrev N_Base_len : List Str := ["self"]
theorem sc_Base_len : FnScope N_Base_len
    ["self"] (defScope s_Base_len) :=
  ⟨rfl, rfl, rfl, by decide +kernel, rfl,
    by decide +kernel, by decide +kernel⟩
abbrev s_Base_repr : Stmt := inClass (topS 13) 3
abbrev N_Base_repr : List Str := ["self"]
theorem sc_Base_repr : FnScope N_Base_repr
    ["self"] (defScope s_Base_repr) :=
  ⟨rfl, rfl, rfl, by decide +kernel, rfl,
    by decide +kernel, by decide +kernel⟩
abbrev s_Base_names : Stmt := inClass (topS 13) 4
abbrev N_Base_names : List Str := ["self"]
theorem sc_Base_names : FnScope N_Base_names
    ["self"] (defScope s_Base_names) :=
  ⟨rfl, rfl, rfl, by decide +kernel, rfl,
    by decide +kernel, by decide +kernel⟩
abbrev s_Lrng : Stmt := topS 15
abbrev N_Lrng : List Str := ["_law_script", "_law_k", "_law_cell"]
theorem sc_Lrng : FnScope N_Lrng
    ["_law_script", "_law_k"] (defScope s_Lrng) :=
  ⟨rfl, rfl, rfl, by decide +kernel, rfl,
    by decide +kernel, by decide +kernel⟩
abbrev s_Ldraw : Stmt := topS 16
abbrev N_Ldraw : List Str := ["_law_rng_here", "_law_many", "_law_digit"]
theorem sc_Ldraw : FnScope N_Ldraw
    ["_law_rng_here", "_law_many"] (defScope s_Ldraw) :=
  ⟨rfl, rfl, rfl, by decide +kernel, rfl,
    by decide +kernel, by decide +kernel⟩
abbrev s_Lchoice : Stmt := topS 17
abbrev N_Lchoice : List Str := ["_law_rng_here", "_law_options"]
theorem sc_Lchoice : FnScope N_Lchoice
    ["_law_rng_here", "_law_options"] (defScope s_Lchoice) :=
  ⟨rfl, rfl, rfl, by decide +kernel, rfl,
    by decide +kernel, by decide +kernel⟩
abbrev s_Lname : Stmt := topS 18
abbrev N_Lname : List Str := ["_law_rng_here", "_law_used", "_law_letters", "_law_length", "_law_name_here", "_law_k", "_law_fresh", "_law_one"]
theorem sc_Lname : FnScope N_Lname
    ["_law_rng_here", "_law_used"] (defScope s_Lname) :=
  ⟨rfl, rfl, rfl, by decide +kernel, rfl,
    by decide +kernel, by decide +kernel⟩
abbrev s_Lnames : Stmt := topS 19
abbrev N_Lnames : List Str := ["_law_rng_here", "_law_many", "_law_used", "_law_result", "_law_k"]
theorem sc_Lnames : FnScope N_Lnames
    ["_law_rng_here", "_law_many", "_law_used"] (defScope s_Lnames) :=
  ⟨rfl, rfl, rfl, by decide +kernel, rfl,
    by decide +kernel, by decide +kernel⟩
abbrev s_Lis_name : Stmt := topS 20
abbrev N_Lis_name : List Str := ["_law_value", "_law_sign"]
theorem sc_Lis_name : FnScope N_Lis_name
    ["_law_value"] (defScope s_Lis_name) :=
  ⟨rfl, rfl, rfl, by decide +kernel, rfl,
    by decide +kernel, by decide +kernel⟩
abbrev s_Ldue : Stmt := topS 21
abbrev N_Ldue : List Str := ["_law_value", "_law_position", "_law_item"]
theorem sc_Ldue : FnScope N_Ldue
    ["_law_value"] (defScope s_Ldue) :=
  ⟨rfl, rfl, rfl, by decide +kernel, rfl,
    by decide +kernel, by decide +kernel⟩
abbrev s_Linvalid_name : Stmt := topS 22
abbrev N_Linvalid_name : List Str := ["_law_rng_here", "_law_items", "_law_values"]
theorem sc_Linvalid_name : FnScope N_Linvalid_name
    ["_law_rng_here", "_law_items"] (defScope s_Linvalid_name) :=
  ⟨rfl, rfl, rfl, by decide +kernel, rfl,
    by decide +kernel, by decide +kernel⟩
abbrev s_Lspoilt : Stmt := topS 23
abbrev N_Lspoilt : List Str := ["_law_rng_here", "_law_items", "_law_position", "_law_way", "_law_item"]
theorem sc_Lspoilt : FnScope N_Lspoilt
    ["_law_rng_here", "_law_items"] (defScope s_Lspoilt) :=
  ⟨rfl, rfl, rfl, by decide +kernel, rfl,
    by decide +kernel, by decide +kernel⟩
abbrev s_Loutcome : Stmt := topS 24
abbrev N_Loutcome : List Str := ["_law_value", "_law_actual", "e", "_law_others"]
theorem sc_Loutcome : FnScope N_Loutcome
    ["_law_value"] (defScope s_Loutcome) :=
  ⟨rfl, rfl, rfl, by decide +kernel, rfl,
    by decide +kernel, by decide +kernel⟩
abbrev s_Lcheck : Stmt := topS 25
abbrev N_Lcheck : List Str := ["_law_value", "_law_due_here", "_law_kept", "_law_expected"]
theorem sc_Lcheck : FnScope N_Lcheck
    ["_law_value"] (defScope s_Lcheck) :=
  ⟨rfl, rfl, rfl, by decide +kernel, rfl,
    by decide +kernel, by decide +kernel⟩
abbrev s_law : Stmt := topS 26
abbrev N_law : List Str := ["_law_script", "_law_k", "_law_rng_here", "_law_many", "_law_items", "_law_values", "_law_turn", "_law_odd", "_law_value"]
theorem sc_law : FnScope N_law
    ["_law_script"] (defScope s_law) :=
  ⟨rfl, rfl, rfl, by decide +kernel, rfl,
    by decide +kernel, by decide +kernel⟩
end OM
namespace OM
open PySem PySem.Spec PyProof.Rows L2
section
variable {P : Program} {w : World} {K : PySem.W.Frag}
  {mg : Str → Option Value} {base : Heap}
theorem at0 (x y : V) : atI [x, y] 0 = some x := atI_nat (j := 0) rfl
theorem at1 (x y : V) : atI [x, y] 1 = some y := atI_nat (j := 1) rfl
theorem ok_draw {f : Addr} {fd : FuncData} {k : Nat}
    (F : Fun K "_law_draw" "_law_draw" s_Ldraw f fd) (B : Bl mg) :
    FnOk P w K mg base CX0 (k + 1) f fd ["_law_rng_here", "_law_many"]
      spDraw := by
  refine F.ok sc_Ldraw (fun vs H Q E h => ?_)
    (fun cv A outer s H vs Q E hr h => ?_)
  · obtain ⟨p, m, rfl, _⟩ := h
    rfl
  obtain ⟨p, m, rfl, rg, m0, m1, q⟩ := h
  obtain ⟨a, b, hp, a0, b0, b1⟩ := rg
  have nd := sc_Ldraw.nd
  refine ⟨_, pss_cons (ps_if (pt_cmpR op_gt
      (pe_ix ix_list (pv 0) pe_int (fun _ _ => rfl)) pe_int (nomark _))
      (pss_cons (ps_asg (pe_callB call_divmod (by rfl) B.divmod bt_divmod
          (pa_cons (pe_ix ix_list (pv 0) pe_int (fun _ _ => rfl))
            (pa_cons (pv 1) pa_nil)))
        (pg_tup rfl (pgs_cons (pg_sub (pv 0) pe_int set_list)
          (pgs_cons (pg_name (i := 2) nd rfl (.inl rfl)) pgs_nil))))
        (pss_one (ps_ret (pv 2)))) pss_nil)
    (pss_cons (ps_asg (pe_op op_mod (pe_op op_add (pe_op op_mul
        (pe_ix ix_list (pv 0) pe_int (fun _ _ => rfl)) pe_int) pe_int) pe_int)
        (pg_sub (pv 0) pe_int set_list))
    (pss_one (ps_ret (pe_op op_mod (pe_op op_fdiv (pe_op op_mod (pe_op op_mul
        (pe_ix ix_list (pv 0) pe_int (fun _ _ => rfl))
        (pe_ix ix_list (pv 0) pe_int (fun _ _ => rfl))) pe_int) pe_int)
        (pv 1))))), ?_⟩
  refine ⟨_, rfl, p, _, 0, _, rfl, rfl, SqL.of hp, at0 _ _, _, _, rfl, rfl,
    _, rfl, ite2 (fun c => ?_) (fun c => ?_)⟩
  · have c' : 0 < a := of_decide_eq_true c
    refine ⟨_, rfl, p, _, 0, _, rfl, rfl, SqL.of hp, at0 _ _, _, rfl, a, m,
      rfl, ⟨m0, by omega⟩, fun t nt => ?_⟩
    have nt' : p ≠ t := ne_of_none hp nt
    have hp' : (upd H t (.tup [.int (a / m), .int (a % m)])) p =
        some (.lst [.int a, .int b]) := by rw [upd_ne nt']; exact hp
    refine ⟨t, _, rfl, .inl (.inl upd_same), rfl, _, _, rfl, _, rfl, p, _, 0,
      0, rfl, rfl, hp', rfl, _, _, rfl, rfl, _, rfl, ?_⟩
    refine q _ _ (Int.emod_nonneg _ (by omega)) (Int.emod_lt_of_pos _ m0)
      ⟨a / m, b, upd_same, Int.ediv_nonneg a0 (by omega), b0, b1⟩ ?_
    exact ((But.refl H).new nt).at
  · have b2 : 0 ≤ (b * 48271 + 10007) % 2147483587 :=
      Int.emod_nonneg _ (by decide)
    have b3 : (b * 48271 + 10007) % 2147483587 < 2147483587 :=
      Int.emod_lt_of_pos _ (by decide)
    refine ⟨_, rfl, p, _, 1, _, rfl, rfl, SqL.of hp, at1 _ _, _, _, rfl, rfl,
      .inl ⟨by omega, by omega⟩, _, _, rfl, rfl, _, _, rfl, rfl,
      (by show (0 : Int) < 2147483587; decide), _, rfl, p, _, 1, 1, rfl, rfl,
      hp, rfl, ?_⟩
    have hp' : (upd H p (.lst [.int a,
        .int ((b * 48271 + 10007) % 2147483587)])) p = _ := upd_same
    refine ⟨_, rfl, p, _, 1, _, rfl, rfl, SqL.of hp', at1 _ _, _, rfl, p, _,
      1, _, rfl, rfl, SqL.of hp', at1 _ _, _, _, rfl, rfl,
      .inl ⟨by omega, by omega⟩, _, _, rfl, rfl,
      (by show (0 : Int) < 2147483549; decide), _, _, rfl, rfl,
      ⟨by decide, by decide⟩, _, rfl, _, _, rfl, rfl, m0, ?_⟩
    refine q _ _ (Int.emod_nonneg _ (by omega)) (Int.emod_lt_of_pos _ m0)
      ⟨a, _, upd_same, a0, b2, by omega⟩ (But.refl H).at
end
end OM
namespace OM
open PySem PySem.Spec PyProof.Rows L2
section
variable {P : Program} {w : World} {K : PySem.W.Frag}
  {mg : Str → Option Value} {base : Heap}
theorem ifx_cut {tA : TT} {ta tb : TE} {σ : L2.St} {H : Hp} {R : VK}
    (v : V) (h : ∀ R : VK, R v H → tIf tA ta tb σ H R) (k : R v H) :
    tIf tA ta tb σ H R := h R k
theorem ok_rng {f : Addr} {fd : FuncData} {k : Nat}
    (F : Fun K "_law_rng" "_law_rng" s_Lrng f fd) (B : Bl mg) :
    FnOk P w K mg base CX0 (k + 1) f fd ["_law_script", "_law_k"]
      (spRng K) := by
  refine F.ok sc_Lrng (fun vs H Q E h => ?_)
    (fun cv A outer s H vs Q E hr h => ?_)
  · obtain ⟨a, ns, k, rfl, _⟩ := h
    rfl
  obtain ⟨a, ns, n, rfl, hS, hn, q⟩ := h
  have nd := sc_Lrng.nd
  refine ⟨_, pss_cons (ps_set (i := 2) nd rfl (.inl rfl) (pe_ifExp
      (pt_cmpR op_lt (pv 1) (pe_callB call_len_seq (by rfl) B.len
        PySem.boot_len (pa_cons (pv 0) pa_nil)) (nomark _))
      (pe_callB call_abs (by rfl) B.abs bt_abs
        (pa_cons (pe_ix ix_list (pv 0) (pv 1) (fun _ _ => rfl)) pa_nil))
      pe_int))
    (pss_one (ps_ret (pe_lst (pa_cons
      (pe_callB (call_max2 rfl) (by rfl) B.max bt_max
        (pa_cons pe_int (pa_cons (pe_op op_sub (pv 2)
          (pe_op op_pow pe_int pe_int)) pa_nil)))
      (pa_cons (pe_op op_add (pe_op op_mod (pe_op op_pow
        (pe_op op_add (pe_op op_add (pe_op op_mod (pv 2) pe_int)
          (pe_op op_mul pe_int (pv 1))) pe_int) pe_int) pe_int) pe_int)
        pa_nil))))), ?_⟩
  obtain ⟨c, hc⟩ : ∃ c : Int, (n < ns.length → c =
      if ns.getD n 0 < 0 then - ns.getD n 0 else ns.getD n 0) ∧
      (¬ n < ns.length → c = 0) := by
    by_cases h : n < ns.length
    · exact ⟨_, fun _ => rfl, fun z => absurd h z⟩
    · exact ⟨0, fun z => absurd z h, fun _ => rfl⟩
  refine ifx_cut (.int c) (fun R hR => ?_) ?_
  · refine ⟨_, rfl, _, rfl, a, _, rfl, .inl hS, _, _, rfl, rfl, _, rfl,
      ite2 (fun z => ?_) (fun z => ?_)⟩
    · have z' : (n : Int) < ((ns.map V.int).length : Int) :=
        of_decide_eq_true z
      rw [List.length_map] at z'
      have hn' : n < ns.length := by omega
      have g : (ns.map V.int)[n]? = some (.int (ns.getD n 0)) := by
        rw [List.getElem?_map, List.getElem?_eq_getElem hn',
          List.getD_eq_getElem?_getD, List.getElem?_eq_getElem hn']
        rfl
      refine ⟨_, rfl, _, rfl, a, _, n, _, rfl, rfl, hS, atI_nat g, _, rfl, ?_⟩
      rw [← hc.1 hn']
      exact hR
    · have z' : ¬ n < ns.length := fun y => z (decide_eq_true (by
        rw [List.length_map]; omega))
      rw [hc.2 z'] at hR
      exact hR
  · have c0 : 0 ≤ c % 2147483543 := Int.emod_nonneg _ (by decide)
    have c1 : c % 2147483543 < 2147483543 :=
      Int.emod_lt_of_pos _ (by decide)
    refine ⟨_, rfl, _, _, rfl, rfl, ⟨by decide, by decide, by decide⟩, _, _,
      rfl, rfl, _, _, rfl, _, rfl, _, _, rfl, rfl,
      (by show (0 : Int) < 2147483543; decide), _, rfl, _, _, rfl, rfl,
      .inl ⟨by decide, by decide⟩, _, _, rfl, rfl, _, _, rfl, rfl, _, _, rfl,
      rfl, ⟨by decide, by decide, by omega⟩, _, _, rfl, rfl,
      (by show (0 : Int) < 2147483497; decide), _, _, rfl, rfl,
      (by show 2 ≤ sizeLine; decide), fun p np => ?_⟩
    generalize hb : ((c % 2147483543 + 101 * (n : Int) + 7) ^
      (2 : Int).toNat) % 2147483497 = b
    have b0 : 0 ≤ b := by rw [← hb]; exact Int.emod_nonneg _ (by decide)
    have b1 : b < 2147483497 := by
      rw [← hb]; exact Int.emod_lt_of_pos _ (by decide)
    refine q p _ np ⟨_, b + 1, upd_same, ?_, by omega, by omega⟩
      (sameNew np)
    split <;> omega
end
end OM
namespace OM
open PySem PySem.Spec PyProof.Rows L2
abbrev lets : Str := "abcdefghijklmnopqrstuvwxyz"
theorem lets_tl : lets.cps.toList = List.range' 97 26 := by decide +kernel
theorem lets_at {i : Int} (h0 : 0 ≤ i) (h1 : i < 26) :
    atI lets.cps.toList i = some (97 + i.toNat) := by
  have e : i = ((i.toNat : Nat) : Int) := by omega
  rw [e, lets_tl]
  refine atI_nat ?_
  rw [Int.toNat_natCast, List.getElem?_range' (by omega)]
  simp
theorem yes {σ : L2.St} {H : Hp} {A B : Hp → Prop} (h : A H) :
    tYes σ H fun b H' => if b = true then A H' else B H' :=
  iteT (B := B H) h
theorem joinL_ones : ∀ cs : List Nat,
    TL.joinL [] (cs.map fun c => [c]) = cs
  | [] => rfl
  | [c] => rfl
  | c :: d :: r => by
    have ih := joinL_ones (d :: r)
    show [c] ++ [] ++ TL.joinL [] ((d :: r).map fun c => [c]) = _
    rw [ih]
    rfl
def nmB (l : List Nat) : Bool :=
  decide (1 ≤ l.length) && decide (l.length ≤ 8) &&
    l.all fun c => decide (97 ≤ c) && decide (c ≤ 122)
theorem nmB_iff {l : List Nat} : nmB l = true ↔ Nm l := by
  unfold nmB
  simp only [Bool.and_eq_true, decide_eq_true_eq, List.all_eq_true]
  exact ⟨fun ⟨⟨a, b⟩, c⟩ => ⟨a, b, c⟩, fun n => ⟨⟨n.lo, n.hi⟩, n.az⟩⟩
theorem nm_of (x : Str) (h : nmB x.cps.toList = true) :
    ∃ l, (.str x : V) = vS l ∧ Nm l :=
  ⟨x.cps.toList, by rw [vS, SX.S_tl], nmB_iff.mp h⟩
/-- an item of eight written ones -/
theorem at8 {α : Type} {P : α → Prop} {a b c d e f g h : α} {i : Int}
    (h0 : 0 ≤ i) (h1 : i < 8) (pa : P a) (pb : P b) (pc : P c) (pd : P d)
    (pe : P e) (pf : P f) (pg : P g) (ph : P h) :
    ∃ v, atI [a, b, c, d, e, f, g, h] i = some v ∧ P v := by
  have e : i = 0 ∨ i = 1 ∨ i = 2 ∨ i = 3 ∨ i = 4 ∨ i = 5 ∨ i = 6 ∨ i = 7 := by
    omega
  rcases e with rfl | rfl | rfl | rfl | rfl | rfl | rfl | rfl
  · exact ⟨a, rfl, pa⟩
  · exact ⟨b, rfl, pb⟩
  · exact ⟨c, rfl, pc⟩
  · exact ⟨d, rfl, pd⟩
  · exact ⟨_, rfl, pe⟩
  · exact ⟨f, rfl, pf⟩
  · exact ⟨g, rfl, pg⟩
  · exact ⟨h, rfl, ph⟩
theorem at4 {α : Type} {P : α → Prop} {a b c d : α} {i : Int}
    (h0 : 0 ≤ i) (h1 : i < 4) (pa : P a) (pb : P b) (pc : P c) (pd : P d) :
    ∃ v, atI [a, b, c, d] i = some v ∧ P v := by
  have e : i = 0 ∨ i = 1 ∨ i = 2 ∨ i = 3 := by omega
  rcases e with rfl | rfl | rfl | rfl
  · exact ⟨a, rfl, pa⟩
  · exact ⟨b, rfl, pb⟩
  · exact ⟨c, rfl, pc⟩
  · exact ⟨d, rfl, pd⟩
/-- a new name that is not among us -/
def spName (K : PySem.W.Frag) : Sp := fun vs H Q _ =>
  ∃ (p a : Addr) (us : List (List Nat)), vs = [.ref p, .ref a] ∧ Rng H p ∧
  SqL K H a (us.map vS) ∧ a ≠ p ∧ us.length ≤ 600 ∧
  ∀ (l : List Nat) (H' : Hp), Nm l → l ∉ us → Rng H' p → But p H H' →
    Q (vS l) H'
section
variable {P : Program} {w : World} {K : PySem.W.Frag}
  {mg : Str → Option Value} {base : Heap}
abbrev CalDraw (P : Program) (w : World) (K : PySem.W.Frag)
    (mg : Str → Option Value) (base : Heap) (k : Nat) : Prop :=
  Cal P w K mg base k "_law_draw" ["_law_rng_here", "_law_many"] spDraw
theorem ok_name {f : Addr} {fd : FuncData} {k : Nat}
    (F : Fun K "_law_name" "_law_name" s_Lname f fd) (B : Bl mg)
    (C : CalDraw P w K mg base k) :
    FnOk P w K mg base CX0 (k + 1) f fd ["_law_rng_here", "_law_used"]
      (spName K) := by
  refine F.ok sc_Lname (fun vs H Q E h => ?_)
    (fun cv A outer s H vs Q E hr h => ?_)
  · obtain ⟨p, a, us, rfl, _⟩ := h
    rfl
  obtain ⟨p, a, us, rfl, rg, hS, nap, hus, q⟩ := h
  have nd := sc_Lname.nd
  refine ⟨_, C8.pss_cut (ps_set (i := 2) nd rfl (.inr rfl) pe_str)
    (C8.pss_cut (ps_set (i := 3) nd rfl (.inl rfl) (pe_ix ix_list
      (pe_lst (pa_cons pe_int (pa_cons pe_int (pa_cons pe_int (pa_cons
        (pe_op op_add pe_int (pe_cal C hr (pa_cons (pv 0)
          (pa_cons pe_int pa_nil)))) pa_nil)))))
      (pe_cal C hr (pa_cons (pv 0) (pa_cons pe_int pa_nil)))
      (fun _ _ => rfl)))
    (C8.pss_cut (ps_set (i := 4) nd rfl (.inr rfl) (pe_join pe_str
      (pe_lc (own := [("_law_k", 5)]) (g := gName 5) (tt := tYes) rfl nd
        (pi_range1 (by rfl) B.range (pa_cons (pv 3) pa_nil))
        (blkOk_by (N := N_Lname) (sc := defScope s_Lname) (by decide +kernel))
        (fun _ _ _ _ _ => pg_name (i := 5) nd rfl (Or.inl rfl))
        (fun _ _ _ _ _ => pts_nil)
        (fun _ _ _ _ _ => pe_ix ix_str (pv 2)
          (pe_cal C hr (pa_cons (pv 0) (pa_cons pe_int pa_nil)))
          (fun _ _ => rfl)))))
    (C8.pss_cut (ps_if (pt_cmpR op_eq (pe_cal C hr (pa_cons (pv 0)
        (pa_cons pe_int pa_nil))) pe_int (nomark _))
      (pss_one (ps_set (i := 4) nd rfl (.inr rfl) (pe_ix ix_list
        (pe_lst (pa_cons pe_str (pa_cons pe_str (pa_cons pe_str (pa_cons
          pe_str (pa_cons pe_str (pa_cons pe_str (pa_cons pe_str (pa_cons
          pe_str pa_nil)))))))))
        (pe_cal C hr (pa_cons (pv 0) (pa_cons pe_int pa_nil)))
        (fun _ _ => rfl)))) pss_nil)
    (C8.pss_cut (ps_set (i := 6) nd rfl (.inl rfl) (pe_op op_cat
      (pe_lst (pa_cons (pv 4) pa_nil))
      (pe_lc (own := [("_law_k", 5)]) (g := gName 5) (tt := tYes) rfl nd
        (pi_range1 (by rfl) B.range (pa_cons pe_int pa_nil))
        (blkOk_by (N := N_Lname) (sc := defScope s_Lname) (by decide +kernel))
        (fun _ _ _ _ _ => pg_name (i := 5) nd rfl (Or.inl rfl))
        (fun _ _ _ _ _ => pts_nil)
        (fun _ _ _ _ _ => pe_op op_add_str (pe_op op_add_str
          (pe_slice sl_str (pv 4) po_none (po_some pe_int))
          (pe_ix ix_str (pv 2) (pe_op op_fdiv (pv 5) pe_int)
            (fun _ _ => rfl)))
          (pe_ix ix_str (pv 2) (pe_op op_mod (pv 5) pe_int)
            (fun _ _ => rfl))))))
    (pss_one (ps_ret (pe_ix ix_list
      (pe_lc (own := [("_law_one", 7)]) (g := gName 7) rfl nd
        (pi_list (pv 6))
        (blkOk_by (N := N_Lname) (sc := defScope s_Lname) (by decide +kernel))
        (fun _ _ _ _ _ => pg_name (i := 7) nd rfl (Or.inl rfl))
        (fun _ _ _ _ _ => pts_one (pt_cmpR (r := rIn K true) op_notIn_seq (pv 7) (pv 1) (by rfl)))
        (fun _ _ _ _ _ => pv 7))
      pe_int (fun _ _ => rfl)))))))), ?_⟩
  -- letters
  refine ⟨fun σ' H' => σ' = [some (.ref p), some (.ref a), some (.str lets),
    none, none, none, none, none] ∧ H = H', ⟨rfl, rfl⟩, ?_⟩
  rintro _ _ ⟨rfl, rfl⟩
  -- length
  refine ⟨fun σ' H' => ∃ n : Int, 1 ≤ n ∧ n ≤ 8 ∧ σ' = [some (.ref p),
    some (.ref a), some (.str lets), some (.int n), none, none, none, none] ∧
    Rng H' p ∧ But p H H', ?_, ?_⟩
  · refine ⟨_, rfl, p, 8, rfl, rg, by decide, by decide,
      fun d H1 d0 d1 rg1 b1 => ⟨_, _, rfl, rfl, sz (by simp), fun t nt =>
      ⟨_, rfl, p, 4, rfl, rg1.same (sameNew nt), by decide, by decide,
      fun d2 H2 e0 e1 rg2 b2 => ?_⟩⟩⟩
    have ne : t ≠ p := (rg1.ne nt).symm
    obtain ⟨v, hv, n, rfl, n0, n1⟩ := at4 (a := V.int 1) (b := V.int 1)
      (c := V.int 2) (d := V.int (1 + d))
      (P := fun v => ∃ n : Int, v = .int n ∧ 1 ≤ n ∧ n ≤ 8) e0 e1
      ⟨1, rfl, by omega, by omega⟩ ⟨1, rfl, by omega, by omega⟩
      ⟨2, rfl, by omega, by omega⟩ ⟨1 + d, rfl, by omega, by omega⟩
    exact ⟨t, _, d2, _, rfl, rfl, SqL.of (b2 t _ upd_same ne), hv, n, n0, n1,
      rfl, rg2, (b1.put nt ne).trans b2⟩
  rintro _ H1 ⟨n, n0, n1, rfl, rg1, b1⟩
  -- the letters drawn
  refine ⟨fun σ' H' => ∃ l, Nm l ∧ σ' = [some (.ref p), some (.ref a),
    some (.str lets), some (.int n), some (vS l), none, none, none] ∧
    Rng H' p ∧ But p H H', ?_, ?_⟩
  · refine ⟨⟨_, rfl⟩, _, rfl, n, rfl, by omega, by omega, fun D nD => ?_⟩
    have ne : D ≠ p := (rg1.ne nD).symm
    refine lc_range (lo := 0) (n := n.toNat) (fun i H' => ∃ cs : List Nat,
      cs.length = i ∧ (∀ c ∈ cs, 97 ≤ c ∧ c ≤ 122) ∧
      H' D = some (.lst (cs.map fun c => vS [c])) ∧ Rng H' p ∧ But p H H')
      ⟨[], rfl, nofun, upd_same, rg1.same (sameNew nD), b1.put nD ne⟩ ?_ ?_
    · rintro i H2 hi ⟨cs, hl, az, hD, rg2, b2⟩
      refine ⟨rfl, yes ⟨_, rfl, _, rfl, p, 26, rfl, rg2, by decide,
        by decide, fun d H3 d0 d1 rg3 b3 => ⟨_, d, _, rfl, rfl,
        sz (by decide), lets_at d0 d1, _, b3 D _ hD ne, ?_, cs ++
        [97 + d.toNat], ?_, ?_, ?_, ?_, ?_⟩⟩⟩
      · rw [List.length_map]
        exact sz' (by omega)
      · rw [List.length_append, hl]
        rfl
      · intro c hc
        rcases List.mem_append.mp hc with h | h
        · exact az c h
        · rcases List.mem_cons.mp h with h | h
          · omega
          · cases h
      · rw [upd_same, List.map_append]
        rfl
      · exact rg3.but (But.at (p := D) (But.refl H3)) ne.symm
      · exact (b2.trans b3).new (b1.free ne nD)
    · rintro H2 ⟨cs, hl, az, hD, rg2, b2⟩
      refine ⟨_, D, cs.map fun c => SX.S [c], rfl, rfl,
        .inl (SqL.of (by rw [List.map_map]; exact hD)), ?_, cs,
        ⟨by omega, by omega, az⟩, ?_, rg2, b2⟩
      · have e1 : ((cs.map fun c => SX.S [c]).map fun x => x.length).sum =
            cs.length := by
          rw [List.map_map]
          clear hl az hD
          induction cs with
          | nil => rfl
          | cons c cs ih =>
            rw [List.map_cons, List.sum_cons, ih, List.length_cons]
            show 1 + cs.length = cs.length + 1
            omega
        rw [e1, List.length_map, show (Str.ofString "").length = 0 from rfl]
        omega
      · have e2 : Txt.join (Str.ofString "") (cs.map fun c => SX.S [c]) =
            SX.S cs := by
          have := SX.join_S [] (cs.map fun c => [c])
          rw [List.map_map, joinL_ones] at this
          exact this
        rw [e2]
        rfl
  rintro _ H2 ⟨l, nl, rfl, rg2, b2⟩
  -- a command's name
  refine ⟨fun σ' H' => ∃ l, Nm l ∧ σ' = [some (.ref p), some (.ref a),
    some (.str lets), some (.int n), some (vS l), none, none, none] ∧
    Rng H' p ∧ But p H H', ?_, ?_⟩
  · refine ⟨_, rfl, p, 8, rfl, rg2, by decide, by decide,
      fun d H3 d0 d1 rg3 b3 => ⟨rfl, _, rfl, ite2 (fun _ => ?_)
        (fun _ => ⟨l, nl, rfl, rg3, b2.trans b3⟩)⟩⟩
    refine ⟨sz (by decide), fun t nt => ⟨_, rfl, p, 8, rfl,
      rg3.same (sameNew nt), by decide, by decide,
      fun d2 H4 e0 e1 rg4 b4 => ?_⟩⟩
    have ne : t ≠ p := (rg3.ne nt).symm
    obtain ⟨v, hv, l', rfl, nl'⟩ := at8 (P := fun v => ∃ l, v = vS l ∧ Nm l)
      e0 e1 (nm_of "swap" (by decide +kernel)) (nm_of "move" (by decide +kernel))
      (nm_of "base" (by decide +kernel)) (nm_of "users" (by decide +kernel))
      (nm_of "merged" (by decide +kernel)) (nm_of "log" (by decide +kernel))
      (nm_of "ok" (by decide +kernel)) (nm_of "undo" (by decide +kernel))
    exact ⟨t, _, d2, _, rfl, rfl, SqL.of (b4 t _ upd_same ne), hv, l', nl',
      rfl, rg4, ((b2.trans b3).put nt ne).trans b4⟩
  clear nl rg2 b2
  rintro _ H2 ⟨l, nl, rfl, rg2, b2⟩
  -- names to fall back upon
  refine ⟨fun σ' H' => ∃ fr, σ' = [some (.ref p), some (.ref a),
    some (.str lets), some (.int n), some (vS l), none, some (.ref fr), none]
    ∧ fr ≠ p ∧ H' fr = some (.lst ((fresh l).map vS)) ∧
    Rng H' p ∧ But p H H', ?_, ?_⟩
  · refine ⟨_, rfl, sz (by simp), fun t nt => ?_⟩
    have ne : t ≠ p := (rg2.ne nt).symm
    refine ⟨676, rfl, by decide, by decide, fun D nD => ?_⟩
    have rg3 : Rng (upd H2 t (.lst [vS l])) p := rg2.same (sameNew nt)
    have neD : D ≠ p := (rg3.ne nD).symm
    have net : t ≠ D := fun e => by rw [← e, upd_same] at nD; cases nD
    have b3 : But p H (upd H2 t (.lst [vS l])) := b2.put nt ne
    refine lc_range (lo := 0) (n := 676) (fun i H' =>
      H' D = some (.lst (((List.range i).map (frs6 l)).map vS)) ∧
      H' t = some (.lst [vS l]) ∧ Rng H' p ∧ But p H H')
      ⟨upd_same, by rw [upd_ne net, upd_same], rg3.same (sameNew nD),
        b3.put nD neD⟩ ?_ ?_
    · rintro i H4 hi ⟨hD, ht, rg4, b4⟩
      have f1 : 0 ≤ (0 + (i : Int)) / 26 := by omega
      have f2 : (0 + (i : Int)) / 26 < 26 := by omega
      have f3 : 0 ≤ (0 + (i : Int)) % 26 := by omega
      have f4 : (0 + (i : Int)) % 26 < 26 := by omega
      have ll := nl.hi
      have ec : cutS (SX.S l) none (some 6) = SX.S (l.take 6) := by
        rw [C8.cutS_slice, SX.slice_to (by decide)]
        rfl
      refine ⟨rfl, yes ⟨_, rfl, 6, rfl, SX.S l, rfl,
        sz (by rw [SX.S_len]; omega), _, rfl, _, rfl, _, _, rfl, rfl,
        ⟨by decide, by decide⟩, _, _, _, rfl, rfl, sz (by decide),
        lets_at f1 f2, _, _, rfl, rfl, ?_, _, rfl, _, rfl, _, _, rfl, rfl,
        (by show (0 : Int) < 26; decide), _, _, _, rfl, rfl, sz (by decide),
        lets_at f3 f4, _, _, rfl, rfl, ?_, _, hD, ?_, ?_, ?_, ?_, ?_⟩⟩
      · rw [ec, SX.S_len, List.length_take]
        show min 6 l.length + 1 ≤ _
        exact sz (by omega)
      · rw [ec, strLen_append, SX.S_len, List.length_take]
        show min 6 l.length + 1 + 1 ≤ _
        exact sz (by omega)
      · rw [List.length_map, List.length_map, List.length_range]
        exact sz' (by omega)
      · rw [upd_same, ec]
        have e5 : SX.S (l.take 6) ++ (⟨#[97 + ((0 + (i : Int)) / 26).toNat]⟩ :
            Str) ++ ⟨#[97 + ((0 + (i : Int)) % 26).toNat]⟩ =
            SX.S (frs6 l i) := by
          have e6 : ((0 + (i : Int)) / 26).toNat = i / 26 := by omega
          have e7 : ((0 + (i : Int)) % 26).toNat = i % 26 := by omega
          rw [e6, e7]
          show SX.S (l.take 6) ++ SX.S [97 + i / 26] ++ SX.S [97 + i % 26] = _
          rw [SX.S_cat, SX.S_cat]
          unfold frs6
          rw [List.append_assoc]
          rfl
        rw [e5, List.range_succ, List.map_append, List.map_append]
        rfl
      · rw [upd_ne net]
        exact ht
      · exact rg4.but (But.at (p := D) (But.refl H4)) neD.symm
      · exact b4.new (b3.free neD nD)
    · rintro H4 ⟨hD, ht, rg4, b4⟩
      refine ⟨t, D, _, _, rfl, rfl, ht, hD, ?_, fun fr nfr => ⟨fr, rfl,
        (rg4.ne nfr).symm, ?_, rg4.same (sameNew nfr),
        b4.put nfr (rg4.ne nfr).symm⟩⟩
      · rw [List.length_map, List.length_map, List.length_range]
        exact sz (by simp)
      · rw [upd_same]
        rfl
  clear rg2 b2
  rintro _ H3 ⟨fr, rfl, nfp, hfr, rg3, b3⟩
  -- the first one that is free
  refine ⟨_, rfl, fr, rfl, ⟨_, SqL.of hfr⟩, fun D nD => ?_⟩
  have neD : D ≠ p := (rg3.ne nD).symm
  have nfD : fr ≠ D := ne_of_none hfr nD
  have hS3 : SqL K H3 a (us.map vS) := b3.seq hS nap
  have naD : SqL K (upd H3 D (.lst [])) a (us.map vS) := (sameNew nD).seq hS3
  refine lc_list (K := K) (a := fr) (xs := (fresh l).map vS) (fun i H' =>
    H' D = some (.lst ((((fresh l).take i).filter
      (fun y => decide (y ∉ us))).map vS)) ∧
    H' fr = some (.lst ((fresh l).map vS)) ∧ Rng H' p ∧ But p H3 H' ∧
    SqL K H' a (us.map vS))
    ⟨upd_same, by rw [upd_ne nfD]; exact hfr, rg3.same (sameNew nD),
      (But.refl H3).put nD neD, naD⟩ (fun i H' _ z => SqL.of z.2.1) ?_ ?_
  · rintro i y H4 hy ⟨hD, hf, rg4, b4, hS4⟩
    rw [List.getElem?_map] at hy
    obtain ⟨x, hx, rfl⟩ : ∃ x, (fresh l)[i]? = some x ∧ vS x = y := by
      cases e : (fresh l)[i]? with
      | none => rw [e] at hy; cases hy
      | some x => rw [e] at hy; exact ⟨x, rfl, Option.some.inj hy⟩
    have et : (fresh l).take (i + 1) = (fresh l).take i ++ [x] := by
      rw [List.take_add_one, hx]
      rfl
    refine ⟨rfl, _, rfl, _, rfl, a, _, rfl, .inl hS4, rfl, flat_S us, _, rfl,
      ?_⟩
    rw [inV_S]
    have hlen : ((((fresh l).take i).filter
        (fun y => decide (y ∉ us))).map vS).length < sizeLine := by
      rw [List.length_map]
      refine sz' (Nat.lt_of_le_of_lt (List.length_filter_le _ _) ?_)
      rw [List.length_take]
      have : (fresh l).length = 677 := by
        unfold fresh
        rw [List.length_cons, List.length_map, List.length_range]
      omega
    by_cases hm : x ∈ us
    · rw [decide_eq_true hm]
      refine iteF ⟨?_, hf, rg4, b4, hS4⟩
      rw [hD, et, List.filter_append, List.filter_cons_of_neg (by simp [hm]),
        List.filter_nil, List.append_nil]
    · rw [decide_eq_false hm]
      refine iteT ⟨_, rfl, _, hD, hlen, ?_, ?_, ?_, ?_, ?_⟩
      · rw [upd_same, et, List.filter_append,
          List.filter_cons_of_pos (by simp [hm]), List.filter_nil,
          List.map_append]
        rfl
      · rw [upd_ne nfD]
        exact hf
      · exact rg4.but (But.at (p := D) (But.refl H4)) neD.symm
      · exact b4.new nD
      · have naD' : But D H4 (upd H4 D (.lst ((((fresh l).take i).filter
            (fun y => decide (y ∉ us))).map vS ++ [vS x]))) :=
          But.at (But.refl H4)
        by_cases had : a = D
        · subst had
          rcases hS3 with (h | ⟨o, h⟩) | h
          · rw [h] at nD; cases nD
          · rw [h] at nD; cases nD
          · exact .inr h
        · exact naD'.seq hS4 had
  · rintro H4 ⟨hD, hf, rg4, b4, hS4⟩
    obtain ⟨x, r, ex⟩ := fresh_some (l := l) (us := us) (by omega)
    rw [List.take_of_length_le (by rw [List.length_map]; exact Nat.le_refl _),
      ex] at hD
    have mx : x ∈ (fresh l).filter (fun y => decide (y ∉ us)) := by
      rw [ex]; exact List.mem_cons_self
    have mx' := List.mem_filter.mp mx
    exact ⟨D, _, 0, _, rfl, rfl, SqL.of hD, atI_nat (j := 0) rfl,
      q x H4 (fresh_nm nl x mx'.1) (of_decide_eq_true mx'.2) rg4
        (b3.trans b4)⟩
end
end OM
namespace OM
open PySem PySem.Spec PyProof.Rows L2
/-- some new names -/
def spNames : Sp := fun vs H Q _ =>
  ∃ (p u : Addr) (m : Nat) (us : List (List Nat)),
  vs = [.ref p, .int m, .ref u] ∧ Rng H p ∧ H u = some (.lst (us.map vS)) ∧
  u ≠ p ∧ m ≤ 100 ∧ us.length ≤ 400 ∧
  ∀ (q : Addr) (ls : List (List Nat)) (H' : Hp), H q = none →
    ls.length = m → (∀ l ∈ ls, Nm l) → ls.Nodup → (∀ l ∈ ls, l ∉ us) →
    H' q = some (.lst (ls.map vS)) → Rng H' p → But p H H' →
    Q (.ref q) H'
section
variable {P : Program} {w : World} {K : PySem.W.Frag}
  {mg : Str → Option Value} {base : Heap}
theorem ok_names {f : Addr} {fd : FuncData} {k : Nat}
    (F : Fun K "_law_names" "_law_names" s_Lnames f fd) (B : Bl mg)
    (C : Cal P w K mg base k "_law_name" ["_law_rng_here", "_law_used"]
      (spName K)) :
    FnOk P w K mg base CX0 (k + 1) f fd
      ["_law_rng_here", "_law_many", "_law_used"] spNames := by
  refine F.ok sc_Lnames (fun vs H Q E h => ?_)
    (fun cv A outer s H vs Q E hr h => ?_)
  · obtain ⟨p, u, m, us, rfl, _⟩ := h
    rfl
  obtain ⟨p, u, m, us, rfl, rg, hu, nup, hm, hus, q⟩ := h
  have nd := sc_Lnames.nd
  refine ⟨_, pss_cons (ps_set (i := 3) nd rfl (.inl rfl) (pe_lst pa_nil))
    (pss_cons (ps_for PassesOwn.never rfl
      (pi_range1 (by rfl) B.range (pa_cons (pv 1) pa_nil))
      (pg_name (i := 4) nd rfl (.inl rfl))
      (pss_one (ps_expr (pe_bm PySem.F.plainAttrs_list
        PySem.F.slot_list_append PySem.F.type_list_append mt_append (pv 3)
        (pa_cons (pe_cal C hr (pa_cons (pv 0) (pa_cons
          (pe_op op_cat (pv 2) (pv 3)) pa_nil))) pa_nil)))))
    (pss_one (ps_ret (pv 3)))), ?_⟩
  refine ⟨sz (by simp), fun r nr => ?_⟩
  have nrp : r ≠ p := (rg.ne nr).symm
  have nru : u ≠ r := ne_of_none hu nr
  refine ⟨_, rfl, m, rfl, by omega, by omega, ?_⟩
  refine for_range (lo := 0) (n := m) (fun i σ H' => ∃ (ls : List (List Nat))
      (v : Option V), σ = [some (.ref p), some (.int m), some (.ref u),
      some (.ref r), v] ∧ ls.length = i ∧ (∀ l ∈ ls, Nm l) ∧ ls.Nodup ∧
      (∀ l ∈ ls, l ∉ us) ∧ H' r = some (.lst (ls.map vS)) ∧ Rng H' p ∧
      But p H H')
    ⟨[], none, rfl, rfl, nofun, List.nodup_nil, nofun, upd_same,
      rg.same (sameNew nr), (But.refl H).put nr nrp⟩ ?_ ?_
  · rintro i σ H1 hi ⟨ls, v, rfl, hl, nm, nd1, no, h1, rg1, b1⟩
    refine ⟨_, rfl, .inl ⟨rfl, _, SqL.of h1⟩, _, rfl, _, rfl, _, rfl, u, r,
      _, _, rfl, rfl, b1 u _ hu nup, h1, ?_, fun t nt => ?_⟩
    · rw [List.length_map, List.length_map]
      exact sz (by omega)
    have ntp : t ≠ p := (rg1.ne nt).symm
    have ntr : r ≠ t := ne_of_none h1 nt
    refine ⟨p, t, us ++ ls, rfl, rg1.same (sameNew nt), ?_, ntp, ?_,
      fun l H2 nl ni rg2 b2 => ?_⟩
    · rw [List.map_append]
      exact SqL.of upd_same
    · rw [List.length_append]
      omega
    · have h2 : H2 r = some (.lst (ls.map vS)) :=
        b2 r _ (by rw [upd_ne ntr]; exact h1) nrp
      refine ⟨r, _, _, rfl, rfl, h2, ?_, ls ++ [l], _, rfl, ?_, ?_, ?_, ?_, ?_,
        ?_, ?_⟩
      · rw [List.length_map]
        exact sz' (by omega)
      · rw [List.length_append, hl]
        rfl
      · intro x hx
        rcases List.mem_append.mp hx with h | h
        · exact nm x h
        · rw [List.mem_singleton.mp h]
          exact nl
      · refine List.nodup_append.mpr ⟨nd1, by simp, ?_⟩
        intro x hx y hy e
        rw [List.mem_singleton.mp hy] at e
        exact ni (List.mem_append_right _ (e ▸ hx))
      · intro x hx
        rcases List.mem_append.mp hx with h | h
        · exact no x h
        · rw [List.mem_singleton.mp h]
          exact fun z => ni (List.mem_append_left _ z)
      · rw [upd_same, List.map_append]
        rfl
      · exact rg2.but (But.at (p := r) (But.refl H2)) nrp.symm
      · exact ((b1.put nt ntp).trans b2).new nr
  · rintro σ H1 ⟨ls, v, rfl, hl, nm, nd1, no, h1, rg1, b1⟩
    exact ⟨_, rfl, q r ls H1 nr hl nm nd1 no h1 rg1 b1⟩
end
end OM
namespace OM
open PySem PySem.Spec PyProof.Rows L2
theorem lt1 (c d : Nat) : decide (([c] : List Nat) < [d]) = decide (c < d) := by
  by_cases h : c < d
  · rw [decide_eq_true h]
    refine decide_eq_true ?_
    rw [List.cons_lt_cons_iff]
    exact Or.inl h
  · rw [decide_eq_false h]
    refine decide_eq_false fun z => ?_
    rw [List.cons_lt_cons_iff] at z
    rcases z with z | ⟨_, z⟩
    · exact h z
    · exact absurd z (by simp)
def azB (c : Nat) : Bool := decide (97 ≤ c) && decide (c ≤ 122)
theorem all_az (l : List Nat) :
    ((l.map azB).all id) = l.all azB := by
  rw [List.all_map]
  rfl
/-- is it a name: a text, or a value of another type -/
def spIsName (K : PySem.W.Frag) : Sp := fun vs H Q _ => ∃ v, vs = [v] ∧
  ((∃ x : Str, v = .str x ∧ x.length ≤ sizeLine ∧ ∀ H', Same H H' →
      Q (.bl (nmB x.cps.toList)) H') ∨
   (∃ t, TyX K H v t ∧ PySem.W.kitOne K t (.type "str") = some false ∧
      Q (.bl false) H))
section
variable {P : Program} {w : World} {K : PySem.W.Frag}
  {mg : Str → Option Value} {base : Heap}
theorem ok_isname {f : Addr} {fd : FuncData} {k : Nat}
    (F : Fun K "is_name" "is_name" s_is_name f fd) (B : Bl mg)
    {t8 : Tok} (m8 : mg "MAX_NAME_LENGTH" = some (.int 8 t8)) :
    FnOk P w K mg base CX0 (k + 1) f fd ["value"] (spIsName K) := by
  refine F.ok sc_is_name (fun vs H Q E h => ?_)
    (fun cv A outer s H vs Q E hr h => ?_)
  · obtain ⟨v, rfl, _⟩ := h
    rfl
  obtain ⟨v, rfl, h⟩ := h
  have nd := sc_is_name.nd
  refine ⟨_, pss_cons (ps_if (pt_mid (PW.pt (pw_or (pt_not (pt_val
      (pe_callB call_isi (by rfl) B.isi bt_isi (pa_cons (pv 0) (pa_cons
        (pe_bltn (v := .ty "str") (by rfl) B.str bt_str rfl) pa_nil)))))
      (pw_or1 (pt_not (pt_chain op_le op_le pe_int
        (pe_callB call_len_str (by rfl) B.len PySem.boot_len
          (pa_cons (pv 0) pa_nil))
        (pe_glob (v := .int 8) (by rfl) m8 ⟨_, rfl⟩)))))))
      (pss_one (ps_ret pe_bl)) pss_nil)
    (pss_one (ps_ret (pe_callB (cr_all rfl) (by rfl) B.all bt_all (pa_cons
      (pe_lc (own := [("letter", 1)]) (g := gName 1) (tt := tYes) rfl nd
        (pi_str (pv 0))
        (blkOk_by (N := N_is_name) (sc := defScope s_is_name)
          (by decide +kernel))
        (fun _ _ _ _ _ => pg_name (i := 1) nd rfl (Or.inl rfl))
        (fun _ _ _ _ _ => pts_nil)
        (fun _ _ _ _ _ => pe_mid (pe_chain op_le_str op_le_str pe_str
          (pv 1) pe_str))) pa_nil)))), ?_⟩
  rcases h with ⟨x, rfl, hx, q⟩ | ⟨t, ty, kt, q⟩
  · refine ⟨fun b H' => b = !(decide (1 ≤ x.length) && decide (x.length ≤ 8)) ∧
      H = H', ?_, ?_⟩
    · refine ⟨_, rfl, _, _, _, _, true, rfl, .ty "str", .base (.str x),
        kit_ty (by decide +kernel), _, rfl, iteF ?_⟩
      refine ⟨_, rfl, x, rfl, hx, _, _, rfl, rfl, _, rfl, ite2 (fun c => ?_)
        (fun c => ?_)⟩
      · have c' : (1 : Int) ≤ x.length := of_decide_eq_true c
        refine ⟨_, _, rfl, rfl, _, rfl, ?_, rfl⟩
        rw [decide_eq_true (show 1 ≤ x.length by omega), Bool.true_and]
        congr 1
        exact decide_eq_decide.mpr ⟨fun z => by omega, fun z => by omega⟩
      · refine ⟨_, rfl, ?_, rfl⟩
        rw [decide_eq_false (show ¬ 1 ≤ x.length from fun z =>
          c (decide_eq_true (by omega)))]
        rfl
    · rintro b _ ⟨rfl, rfl⟩
      by_cases c : 1 ≤ x.length ∧ x.length ≤ 8
      · rw [decide_eq_true c.1, decide_eq_true c.2]
        refine iteF ⟨_, rfl, x, rfl, fun D nD => ?_⟩
        refine lc_it walk_str (fun i H' => H' D = some (.lst
          (((x.cps.toList.take i).map azB).map V.bl)) ∧ Same H H')
          ⟨upd_same, sameNew nD⟩ (fun _ _ _ _ => trivial) ?_ ?_
        · rintro i v _ H1 hi ⟨hD, sm⟩ ⟨rfl, c0, hc, rfl⟩
          have hc' : x.cps.toList[i]? = some c0 := by
            rw [Array.getElem?_toList]; exact hc
          refine ⟨rfl, yes ⟨fun v H' => v = .bl (azB c0) ∧ H1 = H', ?_, ?_⟩⟩
          · refine ⟨_, rfl, _, _, rfl, rfl, _, rfl, ite2 (fun z => ?_)
              (fun z => ?_)⟩
            · refine ⟨_, _, rfl, rfl, ?_, rfl⟩
              have z' : ¬ c0 < 97 := by
                rw [show (Str.ofString "a").cps.toList = [97] by
                  decide +kernel, lt1] at z
                simpa using z
              rw [show (Str.ofString "z").cps.toList = [122] by
                decide +kernel, lt1]
              unfold azB
              rw [decide_eq_true (show 97 ≤ c0 by omega), Bool.true_and]
              congr 1
              by_cases y : c0 ≤ 122
              · rw [decide_eq_true y, decide_eq_false (by omega)]
                rfl
              · rw [decide_eq_false y, decide_eq_true (by omega)]
                rfl
            · refine ⟨?_, rfl⟩
              have z' : c0 < 97 := by
                rw [show (Str.ofString "a").cps.toList = [97] by
                  decide +kernel, lt1] at z
                simpa using z
              unfold azB
              rw [decide_eq_false (show ¬ 97 ≤ c0 by omega)]
              rfl
          · rintro v _ ⟨rfl, rfl⟩
            refine ⟨_, hD, ?_, ?_, ?_⟩
            · rw [List.length_map, List.length_map, List.length_take]
              refine sz' ?_
              have : x.length = x.cps.toList.length := TL.len_tl x
              omega
            · rw [upd_same, List.take_add_one, hc', List.map_append,
                List.map_append]
              rfl
            · exact OM.Same.put sm nD
        · rintro H1 ⟨hD, sm⟩
          rw [List.take_of_length_le (by
            rw [Array.length_toList]; exact Nat.le_refl _)] at hD
          refine ⟨D, _, rfl, SqL.of hD, ?_⟩
          rw [all_az]
          have := q H1 sm
          unfold nmB at this
          rw [← TL.len_tl x] at this
          rw [decide_eq_true c.1, decide_eq_true c.2, Bool.true_and,
            Bool.true_and] at this
          exact this
      · have e : (decide (1 ≤ x.length) && decide (x.length ≤ 8)) = false := by
          by_cases c1 : 1 ≤ x.length
          · rw [decide_eq_false (show ¬ x.length ≤ 8 from fun z => c ⟨c1, z⟩)]
            exact Bool.and_false _
          · rw [decide_eq_false c1]
            exact Bool.false_and _
        rw [e]
        refine iteT ?_
        have := q H (Same.refl H)
        unfold nmB at this
        rw [← TL.len_tl x, e, Bool.false_and] at this
        exact this
  · refine ⟨fun b H' => b = true ∧ H = H', ?_, ?_⟩
    · exact ⟨_, rfl, _, _, _, _, false, rfl, .ty "str", ty, kt, _, rfl,
        iteT ⟨rfl, rfl⟩⟩
    · rintro b _ ⟨rfl, rfl⟩
      exact iteT q
end
end OM
namespace OM
open PySem PySem.Spec PyProof.Rows L2
/-- what makes a base -/
structure Good (ls : List (List Nat)) : Prop where
  nm : ∀ l ∈ ls, Nm l
  nd : ls.Nodup
  lo : 1 ≤ ls.length
  hi : ls.length ≤ 40
theorem Nm.len {l : List Nat} (n : Nm l) : (SX.S l).length ≤ sizeLine := by
  rw [SX.S_len]
  have := n.hi
  exact sz (by omega)
theorem Nm.b {l : List Nat} (n : Nm l) : nmB (SX.S l).cps.toList = true :=
  nmB_iff.mpr n
theorem get_map {ls : List (List Nat)} {i : Nat} {v : V}
    (h : (ls.map vS)[i]? = some v) : ∃ l, ls[i]? = some l ∧ v = vS l := by
  rw [List.getElem?_map] at h
  cases e : ls[i]? with
  | none => rw [e] at h; cases h
  | some l => rw [e] at h; exact ⟨l, rfl, (Option.some.inj h).symm⟩
theorem nodup_take {α : Type} {ls : List α} {i : Nat} {l : α}
    (nd : ls.Nodup) (h : ls[i]? = some l) : l ∉ ls.take i := by
  intro hm
  obtain ⟨j, hj, e⟩ := List.getElem_of_mem hm
  rw [List.length_take] at hj
  rw [List.getElem_take] at e
  obtain ⟨hi, e2⟩ := List.getElem?_eq_some_iff.mp h
  have := (List.getElem_inj nd).mp (e.trans e2.symm)
  omega
def spCheckOk : Sp := fun vs H Q _ => ∃ (a : Addr) (ls : List (List Nat)),
  vs = [.ref a] ∧ H a = some (.lst (ls.map vS)) ∧ Good ls ∧
  ∀ H', Same H H' → Q .non H'
def spNFaultOk : Sp := fun vs H Q _ => ∃ (a : Addr) (ls : List (List Nat)),
  vs = [.ref a, .int 40] ∧ H a = some (.lst (ls.map vS)) ∧ Good ls ∧
  ∀ H', Same H H' → Q .non H'
section
variable {P : Program} {w : World} {K : PySem.W.Frag}
  {mg : Str → Option Value} {base : Heap}
abbrev CalIsName (P : Program) (w : World) (K : PySem.W.Frag)
    (mg : Str → Option Value) (base : Heap) (k : Nat) : Prop :=
  Cal P w K mg base k "is_name" ["value"] (spIsName K)
theorem ok_nfault {f : Addr} {fd : FuncData} {k : Nat}
    (F : Fun K "names_fault" "names_fault" s_names_fault f fd) (B : Bl mg)
    (C : CalIsName P w K mg base k) :
    FnOk P w K mg base CX0 (k + 1) f fd ["value", "most"] spNFaultOk := by
  refine F.ok sc_names_fault (fun vs H Q E h => ?_)
    (fun cv A outer s H vs Q E hr h => ?_)
  · obtain ⟨a, ls, rfl, _⟩ := h
    rfl
  obtain ⟨a, ls, rfl, ha, gd, q⟩ := h
  have nd := sc_names_fault.nd
  refine ⟨_, pss_cons (ps_if (pt_not (pt_val
      (pe_callB call_isi (by rfl) B.isi bt_isi (pa_cons (pv 0) (pa_cons
        (pe_bltn (v := .ty "list") (by rfl) B.list bt_list rfl) pa_nil)))))
      (pss_one ps_never) pss_nil)
    (pss_cons (ps_set (i := 2) nd rfl (.inl rfl)
      (pe_callTy0 cr_set0K (by rfl) B.set bt_set))
    (pss_cons (ps_for PassesOwn.never rfl
      (pi_enum (by rfl) B.enum (pa_cons (pv 0) pa_nil))
      (pg_tup rfl (pgs_cons (pg_name (i := 3) nd rfl (.inl rfl))
        (pgs_cons (pg_name (i := 4) nd rfl (.inl rfl)) pgs_nil)))
      (pss_cons (ps_if (pt_not (pt_val (pe_cal C hr (pa_cons (pv 4) pa_nil))))
        (pss_one ps_never) pss_nil)
      (pss_cons (ps_if (pt_cmpR or_sinK (pv 4) (pv 2) (by rfl))
        (pss_one ps_never) pss_nil)
      (pss_one (ps_expr (pe_saddK (pv 2) (pa_cons (pv 4) pa_nil)))))))
    (pss_cons (ps_if (pt_not (pt_chain op_le op_le pe_int
        (pe_callB call_len_seq (by rfl) B.len PySem.boot_len
          (pa_cons (pv 0) pa_nil)) (pv 1)))
      (pss_one ps_never) pss_nil)
    (pss_one (ps_ret pe_non))))), ?_⟩
  refine ⟨_, rfl, _, _, _, _, true, rfl, .ty "list", .base (.lst ha),
    kit_ty (by decide +kernel), _, rfl, iteF ?_⟩
  refine ⟨rfl, fun sn nsn => ?_⟩
  have nas : a ≠ sn := ne_of_none ha nsn
  have ha1 : (upd H sn (SetK P w sn (fun _ => false) 0)) a =
      some (.lst (ls.map vS)) := by rw [upd_ne nas]; exact ha
  refine ⟨_, rfl, a, _, rfl, SqL.of ha1, ?_⟩
  refine for_it (walk_enum (K := K) (a := a) (xs := ls.map vS))
    (fun i σ H' => ∃ (S : Key → Bool) (n : Nat) (y z : Option V),
      σ = [some (.ref a), some (.int 40), some (.ref sn), y, z] ∧ n ≤ i ∧
      (∀ l, S (Sum.inr (SX.S l)) = decide (l ∈ ls.take i)) ∧
      H' sn = some (SetK P w sn S n) ∧ H' a = some (.lst (ls.map vS)) ∧
      Same H H')
    ⟨fun _ => false, 0, none, none, rfl, Nat.le_refl _, fun l => by simp,
      upd_same, ha1, sameNew nsn⟩
    (fun i σ H' _ z => by obtain ⟨_, _, _, _, _, _, _, _, h, _⟩ := z; exact SqL.of h)
    ?_ ?_
  · rintro i v σ H1 H2 hi ⟨S, n, y, z, rfl, hn, hS, hs, ha2, sm⟩
      ⟨T, x1, x2, rfl, nT, rfl, e1, e2⟩
    obtain ⟨l, hl, rfl⟩ := get_map e2
    cases Option.some.inj e1
    rw [List.length_map] at hi
    have nl : Nm l := gd.nm l (List.mem_of_getElem? hl)
    have nTs : sn ≠ T := ne_of_none hs nT
    have nTa : a ≠ T := ne_of_none ha2 nT
    have sm1 : Same H (upd H1 T (.tup [.int (i : Nat), vS l])) :=
      sm.trans (sameNew nT)
    have nin : l ∉ ls.take i := nodup_take gd.nd hl
    refine ⟨T, _, rfl, .inl (.inl upd_same), rfl, _, _, rfl, _, _, rfl, rfl,
      ?_⟩
    refine ⟨_, rfl, _, rfl, .inl ⟨_, rfl, nl.len, fun H3 sm3 => ?_⟩⟩
    rw [nl.b]
    have hs3 : H3 sn = some (SetK P w sn S n) :=
      sm3 _ _ (by rw [upd_ne nTs]; exact hs)
    have ha3 : H3 a = some (.lst (ls.map vS)) :=
      sm3 _ _ (by rw [upd_ne nTa]; exact ha2)
    refine ⟨_, rfl, iteF ?_⟩
    refine ⟨_, rfl, _, rfl, Sum.inr (SX.S l), sn, S, n, rfl, rfl, hs3, _, rfl,
      ?_⟩
    have sf : S (Sum.inr (SX.S l)) = false := by
      rw [hS]; exact decide_eq_false nin
    rw [sf]
    refine iteF ?_
    refine ⟨_, rfl, ⟨sn, S, n, rfl, hs3⟩, _, rfl, sn, Sum.inr (SX.S l), S, n,
      rfl, rfl, hs3, ?_, ?_⟩
    · have := gd.hi
      show n + 1 < 4096
      omega
    refine ⟨_, _, _, _, rfl, ?_, ?_, upd_same, ?_, ?_⟩
    · rw [sf]
      show n + 1 ≤ i + 1
      omega
    · intro l'
      show (S (Sum.inr (SX.S l')) || decide ((Sum.inr (SX.S l') : Key) =
        Sum.inr (SX.S l))) = _
      rw [hS, List.take_add_one, hl]
      by_cases e : l' = l
      · subst e
        simp
      · have : ¬ ((Sum.inr (SX.S l') : Key) = Sum.inr (SX.S l)) :=
          fun z => e (SX.S_inj (Sum.inr.inj z))
        rw [decide_eq_false this, Bool.or_false]
        refine decide_eq_decide.mpr ?_
        rw [List.mem_append]
        constructor
        · exact Or.inl
        · rintro (z | z)
          · exact z
          · exact absurd (by simpa using z) e
    · rw [upd_ne nas]
      exact ha3
    · exact OM.Same.put (sm1.trans sm3) nsn
  · rintro σ H1 ⟨S, n, y, z, rfl, hn, hS, hs, ha2, sm⟩
    have h1 := gd.lo
    have h2 := gd.hi
    refine ⟨_, rfl, a, _, rfl, .inl (SqL.of ha2), _, _, rfl, rfl, _, rfl, ?_⟩
    rw [List.length_map, decide_eq_true (show (1 : Int) ≤ ls.length by omega)]
    refine iteT ⟨_, rfl, _, _, rfl, rfl, _, rfl, ?_⟩
    rw [decide_eq_true (show (ls.length : Int) ≤ 40 by omega)]
    exact iteF (q H1 sm)
theorem ok_check {f : Addr} {fd : FuncData} {k : Nat}
    (F : Fun K "check_items" "check_items" s_check_items f fd)
    (Cf : Cal P w K mg base k "names_fault" ["value", "most"] spNFaultOk)
    {t40 : Tok} (m40 : mg "MAX_ITEMS" = some (.int 40 t40)) :
    FnOk P w K mg base CX0 (k + 1) f fd ["items"] spCheckOk := by
  refine F.ok sc_check_items (fun vs H Q E h => ?_)
    (fun cv A outer s H vs Q E hr h => ?_)
  · obtain ⟨a, ls, rfl, _⟩ := h
    rfl
  obtain ⟨a, ls, rfl, ha, gd, q⟩ := h
  have nd := sc_check_items.nd
  refine ⟨_, pss_cons (ps_set (i := 1) nd rfl (.inl rfl)
      (pe_cal Cf hr (pa_cons (pv 0) (pa_cons
        (pe_glob (v := .int 40) (by rfl) m40 ⟨_, rfl⟩) pa_nil))))
    (pss_one (ps_if (pt_cmpR op_notN (pv 1) pe_non (nomark _))
      (pss_cons ps_never (pss_one ps_never)) pss_nil)), ?_⟩
  exact ⟨_, rfl, a, ls, rfl, ha, gd, fun H1 s1 =>
    ⟨_, rfl, rfl, _, rfl, iteF (q H1 s1)⟩⟩
end
end OM
namespace OM
open PySem PySem.Spec PyProof.Rows L2
/-- what the written part says of an error's class -/
structure XCl (K : PySem.W.Frag) (C : Addr) : Prop where
  ox : OexC K C
  xf : XfC K C
  ha : PySem.W.findIn K (.ref C) "__class__" =
    some (some (.builtin "object.__class__"))
  hn : PySem.W.specialIn K (.builtin "object.__class__") "__get__" =
    some (some (.builtin "getset_descriptor.__get__"))
  ht : PySem.W.takesIn K (.builtin "object.__class__") = some true
  hm : PySem.W.mroIn K C (.type "object") = some true
theorem ps_imp {X : Cx} {st : Stmt} {t t' : TS} (h : PS X st t)
    (i : ∀ D σ H, t' D σ H → t D σ H) : PS X st t' :=
  ⟨fun pins s σ H D I w => h.run pins s σ H D I (i D σ H w)⟩
/-- the promise of an error's __init__ of two fields -/
def spX2 (C : Addr) (f1 f2 : Str) : Sp := fun vs H Q _ =>
  ∃ (a : Addr) (v1 v2 : V), vs = [.ref a, v1, v2] ∧
  H a = some (exo a C none) ∧ ∀ dx, H dx = none → dx ≠ a →
    Q .non (upd (upd (upd H dx (exd dx [(f1, v1)])) a (exo a C (some dx))) dx
      (exd dx [(f2, v2), (f1, v1)]))
def spX1 (C : Addr) (f1 : Str) : Sp := fun vs H Q _ =>
  ∃ (a : Addr) (v1 : V), vs = [.ref a, v1] ∧
  H a = some (exo a C none) ∧ ∀ dx, H dx = none → dx ≠ a →
    Q .non (upd (upd H dx (exd dx [(f1, v1)])) a (exo a C (some dx)))
/-- a class whose error is raised, in one word -/
structure XMk (P : Program) (w : World) (K : PySem.W.Frag)
    (mg : Str → Option Value) (base : Heap) (C : Addr) (k : Nat) (x : Str)
    (ps : List Str) (sp : Sp) : Prop where
  mgC : mg x = some (.ref C)
  cl : XCl K C
  ex : ∃ f fd, FnOk P w K mg base CX0 k f fd ps sp ∧
    PySem.W.findIn K (.ref C) "__init__" = some (some (.ref f)) ∧
    PySem.W.typeIn K (.ref f) = some (.type "function") ∧ Binds K fd ps []
section
variable {X : Cx}
theorem pass0' {E : XK} : Passes CX0 X E := fun _ _ _ _ _ _ _ h => h.elim
/-- raise C(e1, e2) -/
def tRaise2 (C : Addr) (f1 f2 : Str) (W : WX) (ta : TA) : TS := fun _ σ H =>
  ta σ H fun vs H1 => ∃ v1 v2, vs = [v1, v2] ∧ ∀ d H', H1 d = none →
    H' d = some (.xd [(f2, v2), (f1, v1)]) → Same H1 H' →
    W (.ref C) (some d) σ H'
def tMidA (t : TA) : TA := fun σ H Q =>
  ∃ M : List V → Hp → Prop, t σ H M ∧ ∀ vs H', M vs H' → Q vs H'
theorem pa_mid {es : List Expr} {t : TA} (h : PA X es t) :
    PA X es (tMidA t) := by
  constructor
  intro pos pins s σ H Q I q
  obtain ⟨M, m, k⟩ := q
  refine thn (h.run pos pins s σ H M I m) ?_
  rintro u s1 ⟨v, H1, I1, r, z⟩
  exact ⟨v, H1, I1, r, k v H1 z⟩
theorem made_same {H : Hp} {a d : Addr} {C : Addr} {fs : List (Str × V)}
    {H2 : Hp} (na : H a = none) (nd : H d = none)
    (s : ∀ b o, H b = some o → H2 b = some o) :
    (upd (del H2 a) d (.xd fs)) d = some (.xd fs) ∧
    Same H (upd (del H2 a) d (.xd fs)) :=
  ⟨upd_same, fun b o e => by
    rw [upd_ne (ne_of_none e nd), del_ne (ne_of_none e na)]
    exact s b o e⟩
theorem ps_raise2 {C : Addr} {k : Nat} {x : Str} {ps : List Str}
    {f1 f2 : Str} {W : WX} {p pos pos2 : Pos} {e : Expr} {es : List Expr}
    {ta : TA} (M : XMk X.prog X.w X.K X.mg X.base C k x ps (spX2 C f1 f2))
    (room : Room (k + 1) X.A) (hc : X.calm = true) (tk : Takes X W)
    (ha : PA X (e :: es) ta) (hg : Gl X x := by rfl)
    (h1 : (x == ("__debug__" : Str)) = false := by decide)
    (h2 : starEach (e :: es) X.env =
      (false, eval e X.env) :: starEach es X.env := by rfl)
    (h3 : (backTo pos (starEach es X.env)).any (·.1) = false := by rfl) :
    PS X (.Raise (some (.Call (.Name x p) (e :: es) [] pos)) none pos2)
      (tRaise2 C f1 f2 W ta) := by
  obtain ⟨f, fd, F, iC, tI, b⟩ := M.ex
  refine ps_imp (ps_raise hc tk (pmk_oex M.cl.ox iC tI F room b .nil pass0' hg
    M.mgC (pa_mid ha) h1 h2 h3)) ?_
  intro D σ H h
  refine ⟨_, h, ?_⟩
  rintro vs H1 ⟨v1, v2, rfl, q⟩
  refine ⟨by simp, fun a na => ⟨a, v1, v2, rfl, upd_same, fun d nd ne => ?_⟩⟩
  have nd1 : H1 d = none := by rw [upd_ne ne] at nd; exact nd
  refine ⟨rfl, d, _, ?_, upd_same, nd1, ?_⟩
  · rw [upd_ne ne.symm, upd_same]
  · obtain ⟨e1, e2⟩ := made_same (C := C) (fs := [(f2, v2), (f1, v1)]) na nd1
      (H2 := upd (upd (upd (upd H1 a (exo a C none)) d (exd d [(f1, v1)])) a
        (exo a C (some d))) d (exd d [(f2, v2), (f1, v1)])) fun b o z => by
        rw [upd_ne (ne_of_none z nd1), upd_ne (ne_of_none z na),
          upd_ne (ne_of_none z nd1), upd_ne (ne_of_none z na)]
        exact z
    exact q d _ nd1 e1 e2
/-- raise C(e1) -/
def tRaise1 (C : Addr) (f1 : Str) (W : WX) (ta : TA) : TS := fun _ σ H =>
  ta σ H fun vs H1 => ∃ v1, vs = [v1] ∧ ∀ d H', H1 d = none →
    H' d = some (.xd [(f1, v1)]) → Same H1 H' → W (.ref C) (some d) σ H'
theorem ps_raise1 {C : Addr} {k : Nat} {x : Str} {ps : List Str}
    {f1 : Str} {W : WX} {p pos pos2 : Pos} {e : Expr} {es : List Expr}
    {ta : TA} (M : XMk X.prog X.w X.K X.mg X.base C k x ps (spX1 C f1))
    (room : Room (k + 1) X.A) (hc : X.calm = true) (tk : Takes X W)
    (ha : PA X (e :: es) ta) (hg : Gl X x := by rfl)
    (h1 : (x == ("__debug__" : Str)) = false := by decide)
    (h2 : starEach (e :: es) X.env =
      (false, eval e X.env) :: starEach es X.env := by rfl)
    (h3 : (backTo pos (starEach es X.env)).any (·.1) = false := by rfl) :
    PS X (.Raise (some (.Call (.Name x p) (e :: es) [] pos)) none pos2)
      (tRaise1 C f1 W ta) := by
  obtain ⟨f, fd, F, iC, tI, b⟩ := M.ex
  refine ps_imp (ps_raise hc tk (pmk_oex M.cl.ox iC tI F room b .nil pass0' hg
    M.mgC (pa_mid ha) h1 h2 h3)) ?_
  intro D σ H h
  refine ⟨_, h, ?_⟩
  rintro vs H1 ⟨v1, rfl, q⟩
  refine ⟨by simp, fun a na => ⟨a, v1, rfl, upd_same, fun d nd ne => ?_⟩⟩
  have nd1 : H1 d = none := by rw [upd_ne ne] at nd; exact nd
  refine ⟨rfl, d, [(f1, v1)], upd_same, ?_, nd1, ?_⟩
  · rw [upd_ne ne, upd_same]
  · obtain ⟨e1, e2⟩ := made_same (C := C) (fs := [(f1, v1)]) na nd1
      (H2 := upd (upd (upd H1 a (exo a C none)) d (exd d [(f1, v1)])) a
        (exo a C (some d))) fun b o z => by
        rw [upd_ne (ne_of_none z na), upd_ne (ne_of_none z nd1),
          upd_ne (ne_of_none z na)]
        exact z
    exact q d _ nd1 e1 e2
/-- the error that a suite holds -/
theorem suite_inst {a C dd : Addr} {oe : Obj} {pn : List (Addr × Obj)}
    {pins : List (Addr × Obj)} {σ : L2.St} {H : Hp} {s : Shared}
    {fs : List (Str × V)}
    (I : Inv (X.suite a ((a, oe) :: pn)) pins σ H s)
    (hz : Zc (.ref C) (some dd) oe) (hf : ∃ vs, oe.data = .fields vs)
    (hd : H dd = some (.xd fs)) :
    ∃ od, PySem.W.InstAt s.heap a oe C (some od) := by
  obtain ⟨ha, _⟩ := I.pin (a, oe) (List.mem_append_left _ List.mem_cons_self)
  obtain ⟨vs, hv⟩ := hf
  obtain ⟨mA, hns, _⟩ := (show ObjOk X.prog X.w H s.heap dd (.xd fs) from
    I.hok dd _ hd)
  obtain ⟨od, ho, _⟩ := lookIn_ns hns
  exact ⟨od, ha, hz.1, by unfold PySem.W.notCls; rw [hv] <;> rfl,
    by rw [hz.2]; exact ho⟩
def rIsX (K : PySem.W.Frag) (a : Addr) (cls : Value) (d : Option Addr) :
    List V → Hp → VK → Prop := fun xs H Q =>
  ∃ (C dd : Addr) (fs : List (Str × V)) (c : V) (cv : Value) (b : Bool),
    XCl K C ∧ cls = .ref C ∧ d = some dd ∧ H dd = some (.xd fs) ∧
    xs = [.ref a, c] ∧ ClsV c cv ∧
    PySem.W.kitOne K (.ref C) cv = some b ∧ Q (.bl b) H
theorem call_isX {a : Addr} {cls : Value} {d : Option Addr} {oe : Obj}
    {pn : List (Addr × Obj)} (hz : Zc cls d oe)
    (hf : ∃ vs, oe.data = .fields vs) :
    CallR (X.suite a ((a, oe) :: pn)) (.builtin "isinstance")
      (rIsX X.K a cls d) := by
  intro pins s σ H xs us Q I r h
  obtain ⟨C, dd, fs, c, cv, b, T, rfl, rfl, hd, rfl, k, e, q⟩ := h
  obtain ⟨u1, u2, rfl, r1, r2⟩ := vals2 r
  cases r1
  cases k.eq r2
  obtain ⟨od, J⟩ := suite_inst I hz hf hd
  obtain ⟨cd, hc, _⟩ := PySem.W.any_some T.xf.hdC
  exact PySem.W.kia_one (PySem.W.kitx_exc (by rw [hc]; rfl) T.xf.ga T.xf.gg
    T.xf.exC T.ha T.hn T.ht T.hm) I.kIn J e (fun z => nomatch z) fun tk =>
    ⟨.bl b, H, I.kept (t' := tk) fun _ _ z => z, rfl, q⟩
def rIsXT (K : PySem.W.Frag) (a : Addr) (cls : Value) (d : Option Addr) :
    List V → Hp → VK → Prop := fun xs H Q =>
  ∃ (C dd tp : Addr) (fs : List (Str × V)) (cs : List V) (us : List Value)
    (b : Bool), XCl K C ∧ cls = .ref C ∧ d = some dd ∧
    H dd = some (.xd fs) ∧ xs = [.ref a, .ref tp] ∧ H tp = some (.tup cs) ∧
    Paired ClsV cs us ∧ PySem.W.kitAny K (.ref C) us = some b ∧ Q (.bl b) H
theorem paired_eq : ∀ {cs : List V} {us vs : List Value},
    Paired ClsV cs us → Vals cs vs → vs = us
  | _, _, _, .nil, .nil => rfl
  | _, _, _, .cons h t, .cons r s => by
    rw [h.eq r, paired_eq t s]
theorem call_isXT {a : Addr} {cls : Value} {d : Option Addr} {oe : Obj}
    {pn : List (Addr × Obj)} (hz : Zc cls d oe)
    (hf : ∃ vs, oe.data = .fields vs) :
    CallR (X.suite a ((a, oe) :: pn)) (.builtin "isinstance")
      (rIsXT X.K a cls d) := by
  intro pins s σ H xs us Q I r h
  obtain ⟨C, dd, tp, fs, cs, vs, b, T, rfl, rfl, hd, rfl, ht, pr, e, q⟩ := h
  obtain ⟨u1, u2, rfl, r1, r2⟩ := vals2 r
  cases r1
  cases r2
  obtain ⟨od, J⟩ := suite_inst I hz hf hd
  obtain ⟨cd, hc, _⟩ := PySem.W.any_some T.xf.hdC
  obtain ⟨z, its, rv, ob, ho, hcl, n, hdt⟩ := I.hok tp _ ht
  cases paired_eq pr rv
  obtain ⟨oc, od', da, sl⟩ := ob
  dsimp only at hcl hdt
  subst hcl hdt
  exact PySem.W.kia_tup (PySem.W.kitx_exc (by rw [hc]; rfl) T.xf.ga T.xf.gg
    T.xf.exC T.ha T.hn T.ht T.hm) I.kIn J ho e (fun z => nomatch z) fun tk =>
    ⟨.bl b, H, I.kept (t' := tk) fun _ _ z => z, rfl, q⟩
end
end OM
namespace OM
open PySem PySem.Spec PyProof.Rows L2
/-! ### the first problem of a list -/
def tx : V → Option (List Nat)
  | .str x => some x.cps.toList
  | _ => none
def jd : List (List Nat) → Nat → List (Option (List Nat)) → Option (Str × Nat)
  | _, _, [] => none
  | _, i, none :: _ => some ("name", i)
  | seen, i, some l :: r =>
    if nmB l = true then
      if l ∈ seen then some ("duplicate", i) else jd (seen ++ [l]) (i + 1) r
    else some ("name", i)
def judge (xs : List V) : Option (Str × Nat) :=
  match jd [] 0 (xs.map tx) with
  | some r => some r
  | none => if 1 ≤ xs.length ∧ xs.length ≤ 40 then none else some ("count", 0)
/-- a value that is_name tells: a text, or one of another type -/
def Elt (K : PySem.W.Frag) (H : Hp) (v : V) : Prop :=
  (∃ l, v = vS l ∧ l.length ≤ 1000) ∨
  (∃ t, TyX K H v t ∧ PySem.W.kitOne K t (.type "str") = some false ∧
    tx v = none)
theorem TyOf.same {K : PySem.W.Frag} {H H' : Hp} {v : V} {t : Value}
    (h : TyOf K H v t) (s : Same H H') : TyOf K H' v t := by
  cases h with
  | non => exact .non
  | bl x => exact .bl x
  | int i => exact .int i
  | str x => exact .str x
  | flt x => exact .flt x
  | lst e => exact .lst (s _ _ e)
  | frz e => exact .frz (s _ _ e)
  | tup e => exact .tup (s _ _ e)
  | dK e => exact .dK (s _ _ e)
  | dT e => exact .dT (s _ _ e)
  | ins e cl ha hn ht hm => exact .ins (s _ _ e) cl ha hn ht hm
/-- the types that are asked about, and stay -/
def TyS (K : PySem.W.Frag) (H : Hp) (v : V) (t : Value) : Prop := TyOf K H v t
/-- InvalidBase leaves -/
def IbOut (C : Addr) (H : Hp) (E : XK) (r : Str × Nat) : Prop :=
  ∀ d H', H d = none → H' d = some (.xd [("position", .int (r.2 : Nat)),
    ("problem", .str r.1)]) → Same H H' → E (.ref C) (some d) H'
theorem IbOut.back {C : Addr} {H H1 : Hp} {E : XK} {r : Str × Nat}
    (h : IbOut C H E r) (s : Same H H1) : IbOut C H1 E r :=
  fun d H' n e s' => h d H' (s.free n) e (s.trans s')
def Elt1 (K : PySem.W.Frag) (H : Hp) (v : V) : Prop :=
  (∃ l, v = vS l ∧ l.length ≤ 1000) ∨
  (∃ t, TyOf K H v t ∧ PySem.W.kitOne K t (.type "str") = some false ∧
    tx v = none)
theorem Elt1.same {K : PySem.W.Frag} {H H' : Hp} {v : V}
    (h : Elt1 K H v) (s : Same H H') : Elt1 K H' v := by
  rcases h with h | ⟨t, a, b, c⟩
  · exact .inl h
  · exact .inr ⟨t, OM.TyOf.same a s, b, c⟩
/-- names_fault tells a problem -/
def NfOut (H : Hp) (Q : V → Hp → Prop) (r : Str × Nat) : Prop :=
  ∀ t H', H' t = some (.tup [.str r.1, .int (r.2 : Nat)]) → Same H H' →
    Q (.ref t) H'
theorem NfOut.back {H H1 : Hp} {Q : V → Hp → Prop} {r : Str × Nat}
    (h : NfOut H Q r) (s : Same H H1) : NfOut H1 Q r :=
  fun t H' e s' => h t H' e (s.trans s')
/-- names_fault, whatever it is given -/
def spNfX (K : PySem.W.Frag) : Sp := fun vs H Q _ =>
  ∃ v, vs = [v, .int 40] ∧
  ((∃ t, TyOf K H v t ∧ PySem.W.kitOne K t (.type "list") = some false ∧
      NfOut H Q ("list", 0)) ∨
   (∃ a xs, v = .ref a ∧ H a = some (.lst xs) ∧ (∀ x ∈ xs, Elt1 K H x) ∧
      xs.length ≤ 1000 ∧
      (∀ r, judge xs = some r → NfOut H Q r) ∧
      (judge xs = none → ∀ H', Same H H' → Q .non H')))
/-- check_items, whatever it is given -/
def spCheckX (K : PySem.W.Frag) (C : Addr) : Sp := fun vs H Q E =>
  ∃ v, vs = [v] ∧
  ((∃ t, TyOf K H v t ∧ PySem.W.kitOne K t (.type "list") = some false ∧
      IbOut C H E ("list", 0)) ∨
   (∃ a xs, v = .ref a ∧ H a = some (.lst xs) ∧ (∀ x ∈ xs, Elt1 K H x) ∧
      xs.length ≤ 1000 ∧
      (∀ r, judge xs = some r → IbOut C H E r) ∧
      (judge xs = none → ∀ H', Same H H' → Q .non H')))
theorem jd_step {ls : List (List Nat)} {l : List Nat} {i : Nat}
    {r : List (Option (List Nat))} (h1 : nmB l = true) (h2 : l ∉ ls) :
    jd ls i (some l :: r) = jd (ls ++ [l]) (i + 1) r := by
  show (if nmB l = true then _ else _) = _
  rw [if_pos h1, if_neg h2]
theorem drop_cons {α : Type} {xs : List α} {i : Nat} {x : α}
    (h : xs[i]? = some x) : xs.drop i = x :: xs.drop (i + 1) := by
  obtain ⟨hi, e⟩ := List.getElem?_eq_some_iff.mp h
  rw [List.drop_eq_getElem_cons hi, e]
section
variable {P : Program} {w : World} {K : PySem.W.Frag}
  {mg : Str → Option Value} {base : Heap} {CI : Addr}
/-- self.problem = problem; self.position = position -/
theorem ok_ibinit {f : Addr} {fd : FuncData} {k : Nat} {q : Str}
    (F : Fun K "__init__" q s_InvalidBase_init f fd) (T : OexC K CI)
    (n1 : PySem.W.findIn K (.ref CI) "problem" = some none)
    (n2 : PySem.W.findIn K (.ref CI) "position" = some none) :
    FnOk P w K mg base CX0 (k + 1) f fd ["self", "problem", "position"]
      (spX2 CI "problem" "position") := by
  refine F.ok sc_InvalidBase_init (fun vs H Q E h => ?_)
    (fun cv A outer s H vs Q E hr h => ?_)
  · obtain ⟨a, v1, v2, rfl, _⟩ := h
    rfl
  obtain ⟨a, v1, v2, rfl, ha, q⟩ := h
  refine ⟨_, pss_cons (ps_ost (pv 0) (pv 1)) (pss_one (ps_ost (pv 0) (pv 2))),
    ?_⟩
  refine ⟨_, rfl, _, rfl, a, CI, rfl, T, n1, .inl ⟨ha, fun dx nd ne => ?_⟩⟩
  refine ⟨_, rfl, _, rfl, a, CI, rfl, T, n2, .inr ⟨dx,
    [("problem", v1)], upd_same, ?_, ?_, ?_⟩⟩
  · rw [upd_ne ne, upd_same]
  · simp
  · exact q dx nd ne
theorem ok_nfaultX {f : Addr} {fd : FuncData} {k : Nat}
    (F : Fun K "names_fault" "names_fault" s_names_fault f fd) (B : Bl mg)
    (C : CalIsName P w K mg base k) :
    FnOk P w K mg base CX0 (k + 1) f fd ["value", "most"] (spNfX K) := by
  refine F.ok sc_names_fault (fun vs H Q E h => ?_)
    (fun cv A outer s H vs Q E hr h => ?_)
  · obtain ⟨v, rfl, _⟩ := h
    rfl
  obtain ⟨v, rfl, h⟩ := h
  have nd := sc_names_fault.nd
  refine ⟨_, pss_cons (ps_if (pt_not (pt_val
      (pe_callB call_isi (by rfl) B.isi bt_isi (pa_cons (pv 0) (pa_cons
        (pe_bltn (v := .ty "list") (by rfl) B.list bt_list rfl) pa_nil)))))
      (pss_one (ps_ret (pe_tup (pa_cons pe_str (pa_cons pe_int pa_nil))))) pss_nil)
    (pss_cons (ps_set (i := 2) nd rfl (.inl rfl)
      (pe_callTy0 cr_set0K (by rfl) B.set bt_set))
    (pss_cons (ps_for PassesOwn.never rfl
      (pi_enum (by rfl) B.enum (pa_cons (pv 0) pa_nil))
      (pg_tup rfl (pgs_cons (pg_name (i := 3) nd rfl (.inl rfl))
        (pgs_cons (pg_name (i := 4) nd rfl (.inl rfl)) pgs_nil)))
      (pss_cons (ps_if (pt_not (pt_val (pe_cal C hr (pa_cons (pv 4) pa_nil))))
        (pss_one (ps_ret (pe_tup (pa_cons pe_str (pa_cons (pv 3) pa_nil))))) pss_nil)
      (pss_cons (ps_if (pt_cmpR or_sinK (pv 4) (pv 2) (by rfl))
        (pss_one (ps_ret (pe_tup (pa_cons pe_str (pa_cons (pv 3) pa_nil))))) pss_nil)
      (pss_one (ps_expr (pe_saddK (pv 2) (pa_cons (pv 4) pa_nil)))))))
    (pss_cons (ps_if (pt_mid (pt_not (pt_chain op_le op_le pe_int
        (pe_callB call_len_seq (by rfl) B.len PySem.boot_len
          (pa_cons (pv 0) pa_nil)) (pv 1))))
      (pss_one (ps_ret (pe_tup (pa_cons pe_str (pa_cons pe_int pa_nil)))))
      pss_nil) (pss_one (ps_ret pe_non))))), ?_⟩
  rcases h with ⟨t, ty, kt, out⟩ | ⟨a, xs, rfl, ha, el, hx, bad, good⟩
  · refine ⟨_, rfl, _, _, _, _, false, rfl, .ty "list", .base ty, kt, _, rfl,
      iteT ⟨sz (by simp), fun t nt => ?_⟩⟩
    exact out t _ upd_same (sameNew nt)
  refine ⟨_, rfl, _, _, _, _, true, rfl, .ty "list", .base (.lst ha),
    kit_ty (by decide +kernel), _, rfl, iteF ?_⟩
  refine ⟨rfl, fun sn nsn => ?_⟩
  have nas : a ≠ sn := ne_of_none ha nsn
  have ha1 : (upd H sn (SetK P w sn (fun _ => false) 0)) a = some (.lst xs) := by
    rw [upd_ne nas]; exact ha
  refine ⟨_, rfl, a, _, rfl, SqL.of ha1, ?_⟩
  refine for_it (walk_enum (K := K) (a := a) (xs := xs))
    (fun i σ H' => ∃ (ls : List (List Nat)) (S : Key → Bool) (n : Nat)
      (y z : Option V),
      σ = [some (.ref a), some (.int 40), some (.ref sn), y, z] ∧ n ≤ i ∧ ls.length = i ∧
      xs.take i = ls.map vS ∧ (∀ l ∈ ls, nmB l = true) ∧
      jd [] 0 (xs.map tx) = jd ls i ((xs.drop i).map tx) ∧
      (∀ l, S (Sum.inr (SX.S l)) = decide (l ∈ ls)) ∧
      H' sn = some (SetK P w sn S n) ∧ H' a = some (.lst xs) ∧ Same H H')
    ⟨[], fun _ => false, 0, none, none, rfl, Nat.le_refl _, rfl, rfl, nofun, rfl,
      fun l => by simp, upd_same, ha1, sameNew nsn⟩
    (fun i σ H' _ z => by
      obtain ⟨_, _, _, _, _, _, _, _, _, _, _, _, _, h, _⟩ := z
      exact SqL.of h)
    ?_ ?_
  · rintro i v σ H1 H2 hi ⟨ls, S, n, y, z, rfl, hn, ll, tk, nml, jde, hS, hs,
      ha2, sm⟩ ⟨T, x1, x2, rfl, nT, rfl, e1, e2⟩
    cases Option.some.inj e1
    have nTs : sn ≠ T := ne_of_none hs nT
    have nTa : a ≠ T := ne_of_none ha2 nT
    have sm1 : Same H (upd H1 T (.tup [.int (i : Nat), x2])) :=
      sm.trans (sameNew nT)
    have dc := drop_cons e2
    rw [dc, List.map_cons] at jde
    have judg : ∀ r, jd ls i (tx x2 :: (xs.drop (i + 1)).map tx) = some r →
        judge xs = some r := fun r hr => by
      unfold judge
      rw [jde, hr]
    have hname : ∀ H3, Same (upd H1 T (.tup [.int (i : Nat), x2])) H3 →
        jd ls i (tx x2 :: (xs.drop (i + 1)).map tx) = some (("name" : Str), i) →
        NfOut H3 Q ("name", i) := fun H3 s3 hj =>
      (bad _ (judg _ hj)).back (sm1.trans s3)
    refine ⟨T, _, rfl, .inl (.inl upd_same), rfl, _, _, rfl, _, _, rfl, rfl,
      ?_⟩
    rcases (el x2 (List.mem_of_getElem? e2)) with ⟨l, rfl, hl⟩ | ⟨t, ty, kt, tn⟩
    · have ell : (SX.S l).length ≤ sizeLine := by
        rw [SX.S_len]; exact sz (by omega)
      refine ⟨_, rfl, _, rfl, .inl ⟨_, rfl, ell, fun H3 s3 => ?_⟩⟩
      have hs3 : H3 sn = some (SetK P w sn S n) :=
        s3 _ _ (by rw [upd_ne nTs]; exact hs)
      have ha3 : H3 a = some (.lst xs) :=
        s3 _ _ (by rw [upd_ne nTa]; exact ha2)
      cases nb : nmB l with
      | false =>
        refine ⟨_, rfl, iteT ⟨_, rfl, sz (by simp), fun t nt => ?_⟩⟩
        refine hname H3 s3 ?_ t _ upd_same (sameNew nt)
        show (if nmB l = true then _ else _) = _
        rw [if_neg (by rw [nb]; exact Bool.false_ne_true)]
      | true =>
        refine ⟨_, rfl, iteF ?_⟩
        refine ⟨_, rfl, _, rfl, Sum.inr (SX.S l), sn, S, n, rfl, rfl, hs3, _, rfl,
          ?_⟩
        by_cases ml : l ∈ ls
        · have st : S (Sum.inr (SX.S l)) = true := by
            rw [hS]; exact decide_eq_true ml
          rw [st]
          refine iteT ⟨_, rfl, sz (by simp), fun t nt => ?_⟩
          refine (bad ("duplicate", i) (judg _ ?_)).back (sm1.trans s3) t _
            upd_same (sameNew nt)
          show (if nmB l = true then _ else _) = _
          rw [if_pos nb, if_pos ml]
        · have sf : S (Sum.inr (SX.S l)) = false := by
            rw [hS]; exact decide_eq_false ml
          rw [sf]
          refine iteF ?_
          refine ⟨_, rfl, ⟨sn, S, n, rfl, hs3⟩, _, rfl, sn, Sum.inr (SX.S l), S,
            n, rfl, rfl, hs3, ?_, ?_⟩
          · show n + 1 < 4096
            omega
          refine ⟨ls ++ [l], _, _, _, _, rfl, ?_, ?_, ?_, ?_, ?_, ?_, upd_same,
            ?_, ?_⟩
          · rw [sf]
            show n + 1 ≤ i + 1
            omega
          · rw [List.length_append, ll]
            rfl
          · rw [List.take_add_one, show xs[i]? = some (vS l) from e2, tk,
              List.map_append]
            rfl
          · intro x hx
            rcases List.mem_append.mp hx with h | h
            · exact nml x h
            · rw [List.mem_singleton.mp h]
              exact nb
          · rw [jde]
            exact jd_step nb ml
          · intro l'
            show (S (Sum.inr (SX.S l')) || decide ((Sum.inr (SX.S l') : Key) =
              Sum.inr (SX.S l))) = _
            rw [hS]
            by_cases e : l' = l
            · subst e
              simp
            · have : ¬ ((Sum.inr (SX.S l') : Key) = Sum.inr (SX.S l)) :=
                fun z => e (SX.S_inj (Sum.inr.inj z))
              rw [decide_eq_false this, Bool.or_false]
              refine decide_eq_decide.mpr ?_
              rw [List.mem_append]
              constructor
              · exact Or.inl
              · rintro (z | z)
                · exact z
                · exact absurd (List.mem_singleton.mp z) e
          · rw [upd_ne nas]
            exact ha3
          · exact OM.Same.put (sm1.trans s3) nsn
    · refine ⟨_, rfl, _, rfl, .inr ⟨t, .base (OM.TyOf.same ty sm1), kt, ?_⟩⟩
      refine ⟨_, rfl, iteT ⟨_, rfl, sz (by simp), fun t nt => ?_⟩⟩
      refine hname _ (Same.refl _) ?_ t _ upd_same (sameNew nt)
      rw [tn]
      rfl
  · rintro σ H1 ⟨ls, S, n, y, z, rfl, hn, ll, tk, nml, jde, hS, hs, ha2, sm⟩
    rw [List.drop_length] at jde
    have jn : jd [] 0 (xs.map tx) = none := jde
    refine ⟨fun b H' => b = !(decide (1 ≤ xs.length) && decide (xs.length ≤ 40))
      ∧ H1 = H', ?_, ?_⟩
    · refine ⟨_, rfl, a, _, rfl, .inl (SqL.of ha2), _, _, rfl, rfl, _, rfl,
        ite2 (fun c => ?_) (fun c => ?_)⟩
      · have c' : (1 : Int) ≤ xs.length := of_decide_eq_true c
        refine ⟨_, rfl, _, _, rfl, rfl, _, rfl, ?_, rfl⟩
        rw [decide_eq_true (show 1 ≤ xs.length by omega), Bool.true_and]
        congr 1
        exact decide_eq_decide.mpr ⟨fun z => by omega, fun z => by omega⟩
      · refine ⟨_, rfl, ?_, rfl⟩
        rw [decide_eq_false (show ¬ 1 ≤ xs.length from fun z =>
          c (decide_eq_true (by omega)))]
        rfl
    · rintro b _ ⟨rfl, rfl⟩
      by_cases c : 1 ≤ xs.length ∧ xs.length ≤ 40
      · rw [decide_eq_true c.1, decide_eq_true c.2]
        refine iteF (good ?_ H1 sm)
        unfold judge
        rw [jn]
        exact if_pos c
      · have e : (decide (1 ≤ xs.length) && decide (xs.length ≤ 40)) = false := by
          by_cases c1 : 1 ≤ xs.length
          · rw [decide_eq_false (show ¬ xs.length ≤ 40 from fun z => c ⟨c1, z⟩)]
            exact Bool.and_false _
          · rw [decide_eq_false c1]
            exact Bool.false_and _
        rw [e]
        refine iteT ⟨sz (by simp), fun t nt => ?_⟩
        refine (bad ("count", 0) ?_).back sm t _ upd_same (sameNew nt)
        unfold judge
        rw [jn]
        exact if_neg c
theorem ok_checkX {f : Addr} {fd : FuncData} {k j : Nat}
    (F : Fun K "check_items" "check_items" s_check_items f fd)
    (Cf : Cal P w K mg base k "names_fault" ["value", "most"] (spNfX K))
    (M : XMk P w K mg base CI j "InvalidBase"
      ["self", "problem", "position"] (spX2 CI "problem" "position"))
    (hj : j + 1 ≤ k)
    {t40 : Tok} (m40 : mg "MAX_ITEMS" = some (.int 40 t40)) :
    FnOk P w K mg base (L2.CX P w) (k + 1) f fd ["items"]
      (spCheckX K CI) := by
  refine Fun.okX F sc_check_items (fun vs H Q E h => ?_)
    (fun cv A outer s H vs Q E hr h => ?_)
  · obtain ⟨v, rfl, _⟩ := h
    rfl
  obtain ⟨v, rfl, h⟩ := h
  have nd := sc_check_items.nd
  have hrj := hr.mono hj
  refine ⟨_, pss_cons (ps_set (i := 1) nd rfl (.inl rfl)
      (pe_cal Cf hr (pa_cons (pv 0) (pa_cons
        (pe_glob (v := .int 40) (by rfl) m40 ⟨_, rfl⟩) pa_nil))))
    (pss_one (ps_if (pt_cmpR op_notN (pv 1) pe_non (nomark _))
      (pss_cons (ps_asg (pv 1) (pg_tup rfl
        (pgs_cons (pg_name (i := 2) nd rfl (.inl rfl))
        (pgs_cons (pg_name (i := 3) nd rfl (.inl rfl)) pgs_nil))))
      (pss_one (ps_raise2 M hrj rfl (takes_of rfl rfl rfl rfl)
        (pa_cons (pv 2) (pa_cons (pv 3) pa_nil))))) pss_nil)), ?_⟩
  refine ⟨_, rfl, v, rfl, ?_⟩
  rcases h with ⟨t, ty, kt, out⟩ | ⟨a, xs, rfl, ha, el, hx, bad, good⟩
  · exact .inl ⟨t, ty, kt, fun T H1 e s => ⟨_, rfl, rfl, _, rfl, iteT ⟨_, rfl,
      T, _, rfl, .inl (.inl e), rfl, _, _, rfl, _, _, rfl, rfl, _, rfl, _, rfl,
      _, _, rfl, fun d H' n e' s' => out d H' (s.free n) e' (s.trans s')⟩⟩⟩
  · exact .inr ⟨a, xs, rfl, ha, el, hx, fun r hr T H1 e s => ⟨_, rfl, rfl, _,
      rfl, iteT ⟨_, rfl, T, _, rfl, .inl (.inl e), rfl, _, _, rfl, _, _, rfl, rfl,
      _, rfl, _, rfl, _, _, rfl, fun d H' n e' s' =>
      bad r hr d H' (s.free n) e' (s.trans s')⟩⟩,
      fun jn H1 s1 => ⟨_, rfl, rfl, _, rfl, iteF (good jn H1 s1)⟩⟩
end
end OM
namespace OM
open PySem PySem.Spec PyProof.Rows L2
/-! ### what a base holds -/
def prs : Nat → List (List Nat) → List (Key × V)
  | _, [] => []
  | n, l :: r => (Sum.inr (SX.S l), .int (n : Int)) :: prs (n + 1) r
theorem prs_len : ∀ (n : Nat) (ls : List (List Nat)),
    (prs n ls).length = ls.length
  | _, [] => rfl
  | n, _ :: r => congrArg (· + 1) (prs_len (n + 1) r)
theorem prs_snoc : ∀ (n : Nat) (ls : List (List Nat)) (l : List Nat),
    prs n (ls ++ [l]) =
      prs n ls ++ [(Sum.inr (SX.S l), .int ((n + ls.length : Nat) : Int))]
  | n, [], l => rfl
  | n, x :: r, l => by
    have ih := prs_snoc (n + 1) r l
    show (Sum.inr (SX.S x), V.int (n : Int)) :: prs (n + 1) (r ++ [l]) = _
    rw [ih, List.length_cons, show n + 1 + r.length = n + (r.length + 1) by
      omega]
    rfl
theorem val_prs (l : List Nat) : ∀ (n : Nat) (ls : List (List Nat)),
    valV (prs n ls) (Sum.inr (SX.S l) : Key) =
      if l ∈ ls then some (.int ((n + ls.idxOf l : Nat) : Int)) else none
  | n, [] => rfl
  | n, x :: r => by
    have ih := val_prs l (n + 1) r
    by_cases e : x = l
    · subst e
      rw [if_pos List.mem_cons_self, List.idxOf_cons_self]
      show Option.map _ (List.find? _ ((Sum.inr (SX.S x), _) :: _)) = _
      rw [List.find?_cons_of_pos (by simp)]
      rfl
    · have ne : ¬ ((Sum.inr (SX.S x) : Key) = Sum.inr (SX.S l)) :=
        fun z => e (SX.S_inj (Sum.inr.inj z))
      have hv : valV (prs n (x :: r)) (Sum.inr (SX.S l) : Key) =
          valV (prs (n + 1) r) (Sum.inr (SX.S l)) := by
        show Option.map _ (List.find? _ ((Sum.inr (SX.S x), _) :: _)) = _
        rw [List.find?_cons_of_neg (by simpa using ne)]
        rfl
      rw [hv, ih]
      by_cases m : l ∈ r
      · rw [if_pos m, if_pos (List.mem_cons_of_mem _ m),
          List.idxOf_cons, show (x == l) = false from
            beq_eq_false_iff_ne.mpr e]
        show some (V.int ((n + 1 + r.idxOf l : Nat) : Int)) =
          some (V.int ((n + (r.idxOf l + 1) : Nat) : Int))
        rw [show n + 1 + r.idxOf l = n + (r.idxOf l + 1) by omega]
      · rw [if_neg m, if_neg fun z => ?_]
        rcases List.mem_cons.mp z with z | z
        · exact e z.symm
        · exact m z
/-- the attributes -/
def bf (lo d : Addr) : List (Str × V) :=
  putF "places" (.ref d) (putF "listed" (.ref lo) [])
theorem ne_pl : ¬ (("listed" : Str) = "places") := by decide +kernel
theorem bf_listed (lo d : Addr) :
    (bf lo d).lookup ("listed" : Str) = some (.ref lo) := by
  unfold bf
  rw [lookup_putF, if_neg ne_pl, lookup_putF, if_pos rfl]
theorem bf_places (lo d : Addr) :
    (bf lo d).lookup ("places" : Str) = some (.ref d) := by
  unfold bf
  rw [lookup_putF, if_pos rfl]
theorem bf_no (lo d : Addr) {m : Str} (h1 : ¬ m = "places")
    (h2 : ¬ m = "listed") : (bf lo d).lookup m = none := by
  unfold bf
  rw [lookup_putF, if_neg h1, lookup_putF, if_neg h2]
  rfl
structure BaseAt (C : Addr) (H : Hp) (b : Addr) (ls : List (List Nat)) :
    Prop where
  ob : ∃ dx lo d, H b = some (.ins C dx (bf lo d)) ∧
    H lo = some (.lst (ls.map vS)) ∧ H d = some (.dK (prs 0 ls))
theorem BaseAt.same {C b : Addr} {H H' : Hp} {ls : List (List Nat)}
    (x : BaseAt C H b ls) (s : Same H H') : BaseAt C H' b ls := by
  obtain ⟨dx, lo, d, h1, h2, h3⟩ := x.ob
  exact ⟨dx, lo, d, s _ _ h1, s _ _ h2, s _ _ h3⟩
theorem neRng {H : Hp} {p q : Addr} {ls : List (List Nat)} (r : Rng H p)
    (h : H q = some (.lst (ls.map vS))) : q ≠ p := by
  obtain ⟨a, b, e, _⟩ := r
  refine ne_of h e fun z => ?_
  have z' := HO.lst.inj z
  cases ls with
  | nil => cases z'
  | cons l r =>
    rw [List.map_cons] at z'
    cases (List.cons.inj z').1
theorem BaseAt.but {C b p : Addr} {H H' : Hp} {ls : List (List Nat)}
    (x : BaseAt C H b ls) (r : Rng H p) (s : But p H H') :
    BaseAt C H' b ls := by
  obtain ⟨dx, lo, d, h1, h2, h3⟩ := x.ob
  have n2 := neRng r h2
  obtain ⟨i, j, e, _⟩ := r
  exact ⟨dx, lo, d, s _ _ h1 (ne_of h1 e nofun), s _ _ h2 n2,
    s _ _ h3 (ne_of h3 e nofun)⟩
theorem BaseAt.ne {C b p : Addr} {H : Hp} {ls : List (List Nat)}
    (x : BaseAt C H b ls) (n : H p = none) : b ≠ p := by
  obtain ⟨dx, lo, d, h1, h2, h3⟩ := x.ob
  exact ne_of_none h1 n
structure BC (K : PySem.W.Frag) (mg : Str → Option Value) (C : Addr) :
    Prop where
  ic : C8.InsC K C
  nL : NoAttr K C "listed"
  nP : NoAttr K C "places"
  mgC : mg "Base" = some (.ref C)
  kC : PySem.W.keepIn K (.ref C) = true
theorem BC.cl {K : PySem.W.Frag} {mg : Str → Option Value} {C : Addr}
    (x : BC K mg C) : Cls K C := x.ic.cl
/-- Base(items), the items being right -/
def spInitOk (C : Addr) : Sp := fun vs H Q _ =>
  ∃ (b a dx : Addr) (ls : List (List Nat)), vs = [.ref b, .ref a] ∧
  H b = some (.ins C dx []) ∧ H a = some (.lst (ls.map vS)) ∧ Good ls ∧
  ∀ H', BaseAt C H' b ls → But b H H' → Q .non H'
/-- a walk of a dict comprehension -/
theorem dc_walk {J : It} {n : Nat} {G : Hp → Prop}
    {Y : Nat → Hp → V → Hp → Prop} (wk : Walk J n G Y) {g : TG} {tt : TT}
    {tk tv : TE} {vs : List Nat} {σ : L2.St} {H1 : Hp} {D : Addr}
    {Qd : Hp → Prop} (Pv : Nat → Hp → Prop)
    (h0 : Pv 0 (upd H1 D (.dK []))) (hG : ∀ i H, i ≤ n → Pv i H → G H)
    (hs : ∀ i x H H', i < n → Pv i H → Y i H x H' →
      g x (wipe σ vs) H' fun σ2 H2 => wipe σ2 vs = wipe σ vs ∧
        tt σ2 H2 fun b H3 => if b = true then tk σ2 H3 fun y H4 =>
          tv σ2 H4 fun z H5 => ∃ kvs k, y = kV k ∧ H5 D = some (.dK kvs) ∧
            kvs.length < sizeLine ∧ Pv (i + 1) (upd H5 D (.dK (putK kvs k z)))
          else Pv (i + 1) H3)
    (hd : ∀ H, Pv n H → Qd H) :
    ∃ W : Nat → Nat → Hp → Prop, (∃ m, W 0 m (upd H1 D (.dK []))) ∧
      ∀ i m H, W i m H → (J.stop i H ∧ Qd H) ∨ (J.go i H ∧
        ∃ Nx : Hp → Prop, (∀ H', Nx H' → ∃ m', m' < m ∧ W (i + 1) m' H') ∧
        ∀ x H', J.yld i H x H' → g x (wipe σ vs) H' fun σ2 H2 =>
          wipe σ2 vs = wipe σ vs ∧ tt σ2 H2 fun b H3 => if b = true then
            tk σ2 H3 fun y H4 => tv σ2 H4 fun z H5 => ∃ kvs k, y = kV k ∧
              H5 D = some (.dK kvs) ∧ kvs.length < sizeLine ∧
              Nx (upd H5 D (.dK (putK kvs k z))) else Nx H3) := by
  refine ⟨fun i m H => m + i = n ∧ Pv i H, ⟨n, rfl, h0⟩, ?_⟩
  rintro i m H ⟨e, p⟩
  have q := hG i H (by omega) p
  rcases Nat.lt_or_ge i n with lt | ge
  · exact .inr ⟨wk.goes i H lt q, Pv (i + 1),
      fun H' p' => ⟨m - 1, by omega, by omega, p'⟩,
      fun x H' y => hs i x H H' lt p (wk.yields i H x H' lt q y)⟩
  · have e' : i = n := by omega
    subst e'
    exact .inl ⟨wk.stops H q, hd H p⟩
section
variable {P : Program} {w : World} {K : PySem.W.Frag}
  {mg : Str → Option Value} {base : Heap} {C : Addr}
theorem ok_init {f : Addr} {fd : FuncData} {k : Nat}
    (F : Fun K "__init__" "Base.__init__" s_Base_init f fd) (B : Bl mg)
    (T : BC K mg C)
    (Ck : Cal P w K mg base k "check_items" ["items"] spCheckOk) :
    FnOk P w K mg base CX0 (k + 1) f fd ["self", "items"] (spInitOk C) := by
  refine F.ok sc_Base_init (fun vs H Q E h => ?_)
    (fun cv A outer s H vs Q E hr h => ?_)
  · obtain ⟨b, a, dx, ls, rfl, _⟩ := h
    rfl
  obtain ⟨b, a, dx, ls, rfl, hb, ha, gd, q⟩ := h
  have nd := sc_Base_init.nd
  refine ⟨_, pss_cons (ps_expr (pe_cal Ck hr (pa_cons (pv 1) pa_nil)))
    (pss_cons (ps_fld (pv 0) (pe_callTy call_list_of (by rfl) B.list bt_list
      (pa_cons (pv 1) pa_nil)) rfl)
    (pss_one (ps_fld (pv 0)
      (pe_dc (own := [("name", 2), ("at", 3)])
        (g := gTup K 2 (gCons (gName 3) (gCons (gName 2) gNil)))
        (tt := tYes) rfl nd
        (pi_enum (by rfl) B.enum (pa_cons (pv 1) pa_nil))
        (blkOk_by (N := N_Base_init) (sc := defScope s_Base_init)
          (by decide +kernel))
        (fun _ _ _ _ _ => pg_tup rfl (pgs_cons (pg_name (i := 3) nd rfl
          (Or.inl rfl)) (pgs_cons (pg_name (i := 2) nd rfl (Or.inl rfl))
          pgs_nil)))
        (fun _ _ _ _ _ => pts_nil) (fun _ _ _ _ _ => pv 2)
        (fun _ _ _ _ _ => pv 3)) rfl))), ?_⟩
  refine ⟨_, rfl, a, ls, rfl, ha, gd, fun H1 s1 => ?_⟩
  have nba : b ≠ a := ne_of hb ha nofun
  have hb1 := s1 _ _ hb
  have ha1 := s1 _ _ ha
  refine ⟨_, rfl, a, _, rfl, .inl (SqL.of ha1), fun lo nlo => ?_⟩
  have nbl : b ≠ lo := ne_of_none hb1 nlo
  have nal : a ≠ lo := ne_of_none ha1 nlo
  refine ⟨_, rfl, b, C, dx, [], rfl, by rw [upd_ne nbl]; exact hb1, T.cl, T.nL,
    by decide, ?_⟩
  generalize eH2 : upd (upd H1 lo (.lst (ls.map vS))) b
    (.ins C dx (putF "listed" (.ref lo) [])) = H2
  have hb2 : H2 b = some (.ins C dx (putF "listed" (.ref lo) [])) := by
    rw [← eH2]; exact upd_same
  have ha2 : H2 a = some (.lst (ls.map vS)) := by
    rw [← eH2, upd_ne nba.symm, upd_ne nal]; exact ha1
  have hl2 : H2 lo = some (.lst (ls.map vS)) := by
    rw [← eH2, upd_ne nbl.symm, upd_same]
  have b2 : But b H H2 := by
    rw [← eH2]
    exact ((But.of s1).new (s1.free nlo)).at
  refine ⟨_, rfl, a, _, rfl, SqL.of ha2, fun d nd' => ?_⟩
  have ndb : b ≠ d := ne_of_none hb2 nd'
  have nda : a ≠ d := ne_of_none ha2 nd'
  have ndl : lo ≠ d := ne_of_none hl2 nd'
  refine dc_walk (walk_enum (K := K) (a := a) (xs := ls.map vS))
    (fun i H' => H' d = some (.dK (prs 0 (ls.take i))) ∧
      H' b = some (.ins C dx (putF "listed" (.ref lo) [])) ∧
      H' a = some (.lst (ls.map vS)) ∧ H' lo = some (.lst (ls.map vS)) ∧
      But b H H')
    ⟨upd_same, by rw [upd_ne ndb]; exact hb2, by rw [upd_ne nda]; exact ha2,
      by rw [upd_ne ndl]; exact hl2, b2.put nd' ndb.symm⟩
    (fun i H' _ z => SqL.of z.2.2.1) ?_ ?_
  · rintro i v H3 H4 hi ⟨hd, h1, h2, h3, b3⟩ ⟨T', x1, x2, rfl, nT, rfl, e1, e2⟩
    obtain ⟨l, hl, rfl⟩ := get_map e2
    cases Option.some.inj e1
    rw [List.length_map] at hi
    have hhi := gd.hi
    refine ⟨T', _, rfl, .inl (.inl upd_same), rfl, _, _, rfl, _, _, rfl, rfl,
      rfl, yes ⟨_, rfl, _, rfl, prs 0 (ls.take i), Sum.inr (SX.S l), rfl, ?_, ?_,
      ?_, ?_, ?_, ?_, ?_⟩⟩
    · rw [upd_ne (ne_of_none hd nT)]
      exact hd
    · rw [prs_len, List.length_take]
      exact sz' (by omega)
    · rw [upd_same, putK_new _ (by
        rw [val_prs, if_neg (nodup_take gd.nd hl)]),
        List.take_add_one, hl]
      show _ = some (HO.dK (prs 0 (ls.take i ++ [l])))
      rw [prs_snoc, List.length_take, Nat.min_eq_left (by omega),
        Nat.zero_add]
    · rw [upd_ne ndb, upd_ne (ne_of_none h1 nT)]
      exact h1
    · rw [upd_ne nda, upd_ne (ne_of_none h2 nT)]
      exact h2
    · rw [upd_ne ndl, upd_ne (ne_of_none h3 nT)]
      exact h3
    · exact (b3.put nT (ne_of_none h1 nT).symm).new (b2.free ndb.symm nd')
  · rintro H3 ⟨hd, h1, h2, h3, b3⟩
    rw [List.take_of_length_le (by rw [List.length_map]; exact Nat.le_refl _)]
      at hd
    refine ⟨_, rfl, b, C, dx, _, rfl, h1, T.cl, T.nP,
      by show 1 < 1000; decide, ?_⟩
    refine q _ ⟨dx, lo, d, upd_same, ?_, ?_⟩ b3.at
    · rw [upd_ne nbl.symm]
      exact h3
    · rw [upd_ne ndb.symm]
      exact hd
end
end OM
namespace OM
open PySem PySem.Spec PyProof.Rows L2
section
variable {X : Cx} {k : Nat} {ps : List Str} {sp : Sp} {x : Str} {C : Addr}
  {p pos : Pos} {e : Expr} {es : List Expr} {t : TA}
/-- a callee that may raise -/
structure CalX (P : Program) (w : World) (K : PySem.W.Frag)
    (mg : Str → Option Value) (base : Heap) (k : Nat) (x : Str)
    (ps : List Str) (sp : Sp) : Prop where
  ex : ∃ f fd, FnOk P w K mg base (L2.CX P w) k f fd ps sp ∧
    mg x = some (.ref f) ∧ PySem.W.keepIn K (.ref f) = true ∧
    Binds K fd ps []
/-- f(..), what leaves f leaves this def -/
theorem pe_calX {E : XK} {W : WX}
    (M : CalX X.prog X.w X.K X.mg X.base k x ps sp)
    (room : Room k X.A) (tk : Takes X W)
    (hW : ∀ cls d σ H, E cls d H → W cls d σ H) (ha : PA X (e :: es) t)
    (hg : Gl X x := by rfl)
    (h1 : (x == ("__debug__" : Str)) = false := by decide)
    (h2 : starEach (e :: es) X.env =
      (false, eval e X.env) :: starEach es X.env := by rfl)
    (h3 : (backTo pos (starEach es X.env)).any (·.1) = false := by rfl) :
    PE X (.Call (.Name x p) (e :: es) [] pos) (tCall sp [] E t) := by
  obtain ⟨f, fd, F, m, kp, b⟩ := M.ex
  exact pe_call F room hg m kp b .nil (passes_call tk hW) ha h1 h2 h3
/-- a class that is made, its __init__ may raise -/
structure CalCX (P : Program) (w : World) (K : PySem.W.Frag)
    (mg : Str → Option Value) (base : Heap) (C : Addr) (k : Nat) (x : Str)
    (ps : List Str) (sp : Sp) : Prop where
  mgC : mg x = some (.ref C)
  ex : ∃ f fd, FnOk P w K mg base (L2.CX P w) k f fd ps sp ∧ Mk K C f ∧
    Binds K fd ps []
def tMakeS (C : Addr) (sp : Sp) (E : L2.St → XK) (t : TA) : TE :=
  fun σ H Q => t σ H fun vs H1 => ∀ x dx, H1 x = none → H1 dx = none →
    dx ≠ x → sp (.ref x :: vs) (upd (upd H1 dx (.own x)) x (.ins C dx []))
      (fun v H2 => v = .non ∧ Q (.ref x) H2) (E σ)
theorem pe_makeS {E : L2.St → XK}
    (M : CalCX X.prog X.w X.K X.mg X.base C k x ps sp)
    (room : Room (k + 1) X.A)
    (hx : ∀ σ, PassesAt (L2.CX X.prog X.w) X σ (E σ))
    (ha : PA X (e :: es) t) (hg : Gl X x := by rfl)
    (h1 : (x == ("__debug__" : Str)) = false := by decide)
    (h2 : starEach (e :: es) X.env =
      (false, eval e X.env) :: starEach es X.env := by rfl)
    (h3 : (backTo pos (starEach es X.env)).any (·.1) = false := by rfl) :
    PE X (.Call (.Name x p) (e :: es) [] pos) (tMakeS C sp E t) := by
  obtain ⟨f, fd, F, mk, b⟩ := M.ex
  constructor
  intro pins s σ H Q I h
  refine wpAny_Call_Name_kw (ld_glob I hg M.mgC ?_ h1)
  refine PySem.W.callWith_K (h₀ := X.base) I.ok.mod.kin mk.kp
    (thn (ha.run pos pins s σ H _ I h) ?_) h2 h3
  rintro us s1 ⟨vs, H1, I1, r, q⟩
  refine ⟨I1.kIn, ?_⟩
  show wpAny _ _ (call (.ref C) us) _ _ s1
  let a := s1.heap.objs.size + 1
  have q1 := q a s1.heap.objs.size (I1.hok.fresh (Nat.le_succ _))
    (I1.hok.fresh (Nat.le_refl _)) (Nat.ne_of_lt (Nat.lt_succ_self _))
  have I2 := Inv.made (C := C) I1
  have rr : Vals (V.ref a :: vs) (Value.ref a :: us) := .cons rfl r
  have hl : (Value.ref a :: us).length = ps.length :=
    rr.length.symm.trans (F.len _ _ _ _ q1)
  have bd := b _ (Value.ref a :: us) I2.kIn (by
    rw [List.append_nil]; exact hl)
  rw [List.append_nil] at bd
  refine wpAny_call (make_map (f := f) I1.kIn mk.makes mk.init
    (beq_iff_eq.mp mk.fn) (codeAny_mono (F.run _ X.stack _ _
      ⟨Value.ref a :: us, []⟩ (Value.ref a :: us) _ _ (E σ)
      (room.make C us []) (I2.env0.make C us []) bd rr q1) ?_))
  intro r s' hq
  match r, hq with
  | .error e, hq => exact hx σ pins _ _ e s' I2 hq
  | .ok .next, hq => exact False.elim hq
  | .ok .brk, hq => exact False.elim hq
  | .ok .cont, hq => exact False.elim hq
  | .ok (.ret u), hq =>
    obtain ⟨v, H', I3, rv, ev, q3⟩ := I2.after hq
    subst ev
    exact ⟨rv, ⟨V.ref a, H', I3, rfl, q3⟩⟩
end
end OM
namespace OM
open PySem PySem.Spec PyProof.Rows L2
theorem jd_none {K : PySem.W.Frag} {H : Hp} : ∀ (xs : List V)
    (seen : List (List Nat)) (i : Nat), (∀ x ∈ xs, Elt1 K H x) →
    jd seen i (xs.map tx) = none →
    ∃ ls : List (List Nat), xs = ls.map vS ∧ (∀ l ∈ ls, Nm l) ∧ ls.Nodup ∧
      ∀ l ∈ ls, l ∉ seen
  | [], _, _, _, _ => ⟨[], rfl, nofun, List.nodup_nil, nofun⟩
  | x :: xs, seen, i, el, h => by
    rcases el x List.mem_cons_self with ⟨l, rfl, hl⟩ | ⟨t, _, _, tn⟩
    · have h' : jd seen i (some l :: xs.map tx) = none := h
      unfold jd at h'
      by_cases nb : nmB l = true
      · rw [if_pos nb] at h'
        by_cases ml : l ∈ seen
        · rw [if_pos ml] at h'; cases h'
        · rw [if_neg ml] at h'
          obtain ⟨ls, e, nm, nd, ns⟩ := jd_none xs _ _
            (fun y hy => el y (List.mem_cons_of_mem _ hy)) h'
          refine ⟨l :: ls, by rw [e]; rfl, ?_, ?_, ?_⟩
          · intro y hy
            rcases List.mem_cons.mp hy with rfl | hy
            · exact nmB_iff.mp nb
            · exact nm y hy
          · refine List.nodup_cons.mpr ⟨fun hm => ?_, nd⟩
            exact ns l hm (List.mem_append_right _ List.mem_cons_self)
          · intro y hy
            rcases List.mem_cons.mp hy with rfl | hy
            · exact ml
            · exact fun z => ns y hy (List.mem_append_left _ z)
      · rw [if_neg nb] at h'; cases h'
    · rw [List.map_cons, tn] at h
      cases h
theorem judge_none {K : PySem.W.Frag} {H : Hp} {xs : List V}
    (el : ∀ x ∈ xs, Elt1 K H x) (h : judge xs = none) :
    ∃ ls : List (List Nat), xs = ls.map vS ∧ Good ls := by
  unfold judge at h
  cases e : jd [] 0 (xs.map tx) with
  | some r => rw [e] at h; cases h
  | none =>
    rw [e] at h
    obtain ⟨ls, e', nm, nd, _⟩ := jd_none xs _ _ el e
    by_cases c : 1 ≤ xs.length ∧ xs.length ≤ 40
    · refine ⟨ls, e', nm, nd, ?_, ?_⟩
      · have := c.1; rw [e', List.length_map] at this; exact this
      · have := c.2; rw [e', List.length_map] at this; exact this
    · simp only [if_neg c] at h
      cases h
/-- Base(items), whatever the items are -/
def spInitX (K : PySem.W.Frag) (C CI : Addr) : Sp := fun vs H Q E =>
  ∃ (b dx : Addr) (v : V), vs = [.ref b, v] ∧ H b = some (.ins C dx []) ∧
  ((∃ t, TyOf K H v t ∧ PySem.W.kitOne K t (.type "list") = some false ∧
      IbOut CI H E ("list", 0)) ∨
   (∃ a xs, v = .ref a ∧ H a = some (.lst xs) ∧ (∀ x ∈ xs, Elt1 K H x) ∧
      xs.length ≤ 1000 ∧ (∀ r, judge xs = some r → IbOut CI H E r) ∧
      (judge xs = none → ∀ ls, xs = ls.map vS → Good ls → ∀ H',
        BaseAt C H' b ls → But b H H' → Q .non H')))
section
variable {P : Program} {w : World} {K : PySem.W.Frag}
  {mg : Str → Option Value} {base : Heap} {C CI : Addr}
theorem ok_initX {f : Addr} {fd : FuncData} {k : Nat}
    (F : Fun K "__init__" "Base.__init__" s_Base_init f fd) (B : Bl mg)
    (T : BC K mg C)
    (Ck : CalX P w K mg base k "check_items" ["items"] (spCheckX K CI)) :
    FnOk P w K mg base (L2.CX P w) (k + 1) f fd ["self", "items"]
      (spInitX K C CI) := by
  refine Fun.okX F sc_Base_init (fun vs H Q E h => ?_)
    (fun cv A outer s H vs Q E hr h => ?_)
  · obtain ⟨b, dx, v, rfl, _⟩ := h
    rfl
  obtain ⟨b, dx, v, rfl, hb, h⟩ := h
  have nd := sc_Base_init.nd
  refine ⟨_, pss_cons (ps_expr (pe_calX Ck hr (takes_of rfl rfl rfl rfl)
      (fun _ _ _ _ z => z) (pa_cons (pv 1) pa_nil)))
    (pss_cons (ps_fld (pv 0) (pe_callTy call_list_of (by rfl) B.list bt_list
      (pa_cons (pv 1) pa_nil)) rfl)
    (pss_one (ps_fld (pv 0)
      (pe_dc (own := [("name", 2), ("at", 3)])
        (g := gTup K 2 (gCons (gName 3) (gCons (gName 2) gNil)))
        (tt := tYes) rfl nd
        (pi_enum (by rfl) B.enum (pa_cons (pv 1) pa_nil))
        (blkOk_by (N := N_Base_init) (sc := defScope s_Base_init)
          (by decide +kernel))
        (fun _ _ _ _ _ => pg_tup rfl (pgs_cons (pg_name (i := 3) nd rfl
          (Or.inl rfl)) (pgs_cons (pg_name (i := 2) nd rfl (Or.inl rfl))
          pgs_nil)))
        (fun _ _ _ _ _ => pts_nil) (fun _ _ _ _ _ => pv 2)
        (fun _ _ _ _ _ => pv 3)) rfl))), ?_⟩
  rcases h with ⟨t, ty, kt, out⟩ | ⟨a, xs, rfl, ha, el, hx, bad, good⟩
  · exact ⟨_, rfl, _, rfl, .inl ⟨t, ty, kt, out⟩⟩
  refine ⟨_, rfl, _, rfl, .inr ⟨a, xs, rfl, ha, el, hx, bad, fun jn H1 s1 => ?_⟩⟩
  obtain ⟨ls, rfl, gd⟩ := judge_none el jn
  have q := good jn ls rfl gd
  have nba : b ≠ a := ne_of hb ha nofun
  have hb1 := s1 _ _ hb
  have ha1 := s1 _ _ ha
  refine ⟨_, rfl, a, _, rfl, .inl (SqL.of ha1), fun lo nlo => ?_⟩
  have nbl : b ≠ lo := ne_of_none hb1 nlo
  have nal : a ≠ lo := ne_of_none ha1 nlo
  refine ⟨_, rfl, b, C, dx, [], rfl, by rw [upd_ne nbl]; exact hb1, T.cl, T.nL,
    by decide, ?_⟩
  generalize eH2 : upd (upd H1 lo (.lst (ls.map vS))) b
    (.ins C dx (putF "listed" (.ref lo) [])) = H2
  have hb2 : H2 b = some (.ins C dx (putF "listed" (.ref lo) [])) := by
    rw [← eH2]; exact upd_same
  have ha2 : H2 a = some (.lst (ls.map vS)) := by
    rw [← eH2, upd_ne nba.symm, upd_ne nal]; exact ha1
  have hl2 : H2 lo = some (.lst (ls.map vS)) := by
    rw [← eH2, upd_ne nbl.symm, upd_same]
  have b2 : But b H H2 := by
    rw [← eH2]
    exact ((But.of s1).new (s1.free nlo)).at
  refine ⟨_, rfl, a, _, rfl, SqL.of ha2, fun d nd' => ?_⟩
  have ndb : b ≠ d := ne_of_none hb2 nd'
  have nda : a ≠ d := ne_of_none ha2 nd'
  have ndl : lo ≠ d := ne_of_none hl2 nd'
  refine dc_walk (walk_enum (K := K) (a := a) (xs := ls.map vS))
    (fun i H' => H' d = some (.dK (prs 0 (ls.take i))) ∧
      H' b = some (.ins C dx (putF "listed" (.ref lo) [])) ∧
      H' a = some (.lst (ls.map vS)) ∧ H' lo = some (.lst (ls.map vS)) ∧
      But b H H')
    ⟨upd_same, by rw [upd_ne ndb]; exact hb2, by rw [upd_ne nda]; exact ha2,
      by rw [upd_ne ndl]; exact hl2, b2.put nd' ndb.symm⟩
    (fun i H' _ z => SqL.of z.2.2.1) ?_ ?_
  · rintro i v H3 H4 hi ⟨hd, h1, h2, h3, b3⟩ ⟨T', x1, x2, rfl, nT, rfl, e1, e2⟩
    obtain ⟨l, hl, rfl⟩ := get_map e2
    cases Option.some.inj e1
    rw [List.length_map] at hi
    have hhi := gd.hi
    refine ⟨T', _, rfl, .inl (.inl upd_same), rfl, _, _, rfl, _, _, rfl, rfl,
      rfl, yes ⟨_, rfl, _, rfl, prs 0 (ls.take i), Sum.inr (SX.S l), rfl, ?_, ?_,
      ?_, ?_, ?_, ?_, ?_⟩⟩
    · rw [upd_ne (ne_of_none hd nT)]
      exact hd
    · rw [prs_len, List.length_take]
      exact sz' (by omega)
    · rw [upd_same, putK_new _ (by
        rw [val_prs, if_neg (nodup_take gd.nd hl)]),
        List.take_add_one, hl]
      show _ = some (HO.dK (prs 0 (ls.take i ++ [l])))
      rw [prs_snoc, List.length_take, Nat.min_eq_left (by omega),
        Nat.zero_add]
    · rw [upd_ne ndb, upd_ne (ne_of_none h1 nT)]
      exact h1
    · rw [upd_ne nda, upd_ne (ne_of_none h2 nT)]
      exact h2
    · rw [upd_ne ndl, upd_ne (ne_of_none h3 nT)]
      exact h3
    · exact (b3.put nT (ne_of_none h1 nT).symm).new (b2.free ndb.symm nd')
  · rintro H3 ⟨hd, h1, h2, h3, b3⟩
    rw [List.take_of_length_le (by rw [List.length_map]; exact Nat.le_refl _)]
      at hd
    refine ⟨_, rfl, b, C, dx, _, rfl, h1, T.cl, T.nP,
      by show 1 < 1000; decide, ?_⟩
    refine q _ ⟨dx, lo, d, upd_same, ?_, ?_⟩ b3.at
    · rw [upd_ne nbl.symm]
      exact h3
    · rw [upd_ne ndb.symm]
      exact hd
end
end OM
namespace OM
open PySem PySem.Spec PyProof.Rows L2
/-! ### a method, in one word -/
structure CalM (P : Program) (w : World) (K : PySem.W.Frag)
    (mg : Str → Option Value) (base : Heap) (C : Addr) (k : Nat) (x : Str)
    (ps : List Str) (sp : Sp) : Prop where
  cl : Cls K C
  ex : ∃ f fd, FnOk P w K mg base CX0 k f fd ps sp ∧ Meth K C x f ∧
    Binds K fd ps []
section
variable {X : Cx} {k : Nat} {ps : List Str} {sp : Sp} {x : Str} {C : Addr}
  {p pos : Pos} {o e : Expr} {es : List Expr} {t : TA} {to : TE}
theorem pe_calM {pl : Sem Bool} (M : CalM X.prog X.w X.K X.mg X.base C k x ps sp)
    (room : Room k X.A) (ho : PE X o to) (ha : PA X (e :: es) t)
    (h1 : starEach (e :: es) X.env =
      (false, eval e X.env) :: starEach es X.env := by rfl)
    (h2 : (backTo pos (starEach es X.env)).any (·.1) = false := by rfl)
    (h3 : eval (.Call (.Attribute o x p) (e :: es) [] pos) X.env = (do
      let ov ← eval o X.env
      standAt p.atName
      let (f, first) ← holding [ov] (getMethod ov x pl)
      callWith pos f first (backTo pos (starEach (e :: es) X.env))
        (backToKw pos (keywordEach [] X.env))) := by rfl) :
    PE X (.Call (.Attribute o x p) (e :: es) [] pos)
      (tMeth C x sp [] E0 to t) := by
  obtain ⟨f, fd, F, m, b⟩ := M.ex
  exact pe_meth (pl := pl) ho M.cl m F room b .nil pass0 ha h1 h2 h3
theorem pe_calM0 {pl : Sem Bool} (M : CalM X.prog X.w X.K X.mg X.base C k x ps sp)
    (room : Room k X.A) (ho : PE X o to)
    (h3 : eval (.Call (.Attribute o x p) [] [] pos) X.env = (do
      let ov ← eval o X.env
      standAt p.atName
      let (f, first) ← holding [ov] (getMethod ov x pl)
      callWith pos f first (backTo pos (starEach [] X.env))
        (backToKw pos (keywordEach [] X.env))) := by rfl) :
    PE X (.Call (.Attribute o x p) [] [] pos)
      (tMeth C x sp [] E0 to tNil) := by
  obtain ⟨f, fd, F, m, b⟩ := M.ex
  exact pe_meth0 (pl := pl) ho M.cl m F room b .nil pass0 h3
end
def spGetNames (C : Addr) : Sp := fun vs H Q _ =>
  ∃ (b : Addr) (ls : List (List Nat)), vs = [.ref b] ∧ BaseAt C H b ls ∧
  ∀ q H', H q = none → H' q = some (.lst (ls.map vS)) → Same H H' →
    Q (.ref q) H'
def spLenB (C : Addr) : Sp := fun vs H Q _ =>
  ∃ (b : Addr) (ls : List (List Nat)), vs = [.ref b] ∧ BaseAt C H b ls ∧
  Q (.int ls.length) H
/-- == of two bases -/
def spEqB (C : Addr) : Sp := fun vs H Q _ =>
  ∃ (b o : Addr) (ls ms : List (List Nat)), vs = [.ref b, .ref o] ∧
  BaseAt C H b ls ∧ BaseAt C H o ms ∧ Uni ls ∧ Uni ms ∧
  Q (.bl (decide (ls = ms))) H
def baseText (ls : List (List Nat)) : Str :=
  Str.empty ++ Str.ofString "Base(" ++ (PyData.list (dN ls)).shown ++
    Str.ofString ")"
/-- repr of a base -/
def spReprB (C : Addr) : Sp := fun vs H Q _ =>
  ∃ (b : Addr) (ls : List (List Nat)), vs = [.ref b] ∧ BaseAt C H b ls ∧
  Good ls ∧ Q (.str (baseText ls)) H
theorem Nm.uni {l : List Nat} (n : Nm l) : ∀ c ∈ l, c < 1114112 := fun c h => by
  have := n.az c h
  omega
theorem Good.uni {ls : List (List Nat)} (g : Good ls) : Uni ls :=
  fun l h => (g.nm l h).uni
theorem Good.shown {ls : List (List Nat)} (g : Good ls) :
    (PyData.list (dN ls)).shown.length ≤ sizeLine := by
  have := g.hi
  exact shown_L (m := 8) (by omega) (by omega) fun l h =>
    ⟨(g.nm l h).hi, (g.nm l h).uni⟩
section
variable {P : Program} {w : World} {K : PySem.W.Frag}
  {mg : Str → Option Value} {base : Heap} {C : Addr}
theorem ok_getnames {f : Addr} {fd : FuncData} {k : Nat}
    (F : Fun K "names" "Base.names" s_Base_names f fd) (B : Bl mg)
    (T : BC K mg C) :
    FnOk P w K mg base CX0 (k + 1) f fd ["self"] (spGetNames C) := by
  refine F.ok sc_Base_names (fun vs H Q E h => ?_)
    (fun cv A outer s H vs Q E hr h => ?_)
  · obtain ⟨b, ls, rfl, _⟩ := h
    rfl
  obtain ⟨b, ls, rfl, hb, q⟩ := h
  obtain ⟨dx, lo, d, h1, h2, h3⟩ := hb.ob
  refine ⟨_, pss_one (ps_ret (pe_callTy call_list_of (by rfl) B.list bt_list
    (pa_cons (pe_fld (pv 0) rfl) pa_nil))), ?_⟩
  exact ⟨_, rfl, b, C, dx, _, _, rfl, h1, T.cl, T.nL, bf_listed _ _, lo, _, rfl,
    .inl (SqL.of h2), fun l nl => q l _ nl upd_same (sameNew nl)⟩
theorem ok_lenB {f : Addr} {fd : FuncData} {k : Nat}
    (F : Fun K "__len__" "Base.__len__" s_Base_len f fd) (B : Bl mg)
    (T : BC K mg C) :
    FnOk P w K mg base CX0 (k + 1) f fd ["self"] (spLenB C) := by
  refine F.ok sc_Base_len (fun vs H Q E h => ?_)
    (fun cv A outer s H vs Q E hr h => ?_)
  · obtain ⟨b, ls, rfl, _⟩ := h
    rfl
  obtain ⟨b, ls, rfl, hb, q⟩ := h
  obtain ⟨dx, lo, d, h1, h2, h3⟩ := hb.ob
  refine ⟨_, pss_one (ps_ret (pe_callB call_len_seq (by rfl) B.len
    PySem.boot_len (pa_cons (pe_fld (pv 0) rfl) pa_nil))), ?_⟩
  refine ⟨_, rfl, b, C, dx, _, _, rfl, h1, T.cl, T.nL, bf_listed _ _, lo, _,
    rfl, .inl (SqL.of h2), ?_⟩
  rw [List.length_map]
  exact q
theorem ok_eqB {f : Addr} {fd : FuncData} {k : Nat}
    (F : Fun K "__eq__" "Base.__eq__" s_Base_eq f fd) (B : Bl mg)
    (T : BC K mg C) :
    FnOk P w K mg base CX0 (k + 1) f fd ["self", "other"] (spEqB C) := by
  refine F.ok sc_Base_eq (fun vs H Q E h => ?_)
    (fun cv A outer s H vs Q E hr h => ?_)
  · obtain ⟨b, o, ls, ms, rfl, _⟩ := h
    rfl
  obtain ⟨b, o, ls, ms, rfl, hb, ho, u1, u2, q⟩ := h
  obtain ⟨dx, lo, d, h1, h2, h3⟩ := hb.ob
  obtain ⟨dy, mo, e, g1, g2, g3⟩ := ho.ob
  refine ⟨_, pss_one (ps_ret (pe_and
    (pe_callB (C8.call_isC T.ic) (by rfl) B.isi bt_isi (pa_cons (pv 1)
      (pa_cons (pe_glob (v := .ref C) (by rfl) T.mgC rfl) pa_nil)))
    (pe_one (pe_cmpR (op_eqD hr.units) (pe_fld (pv 0) rfl) (pe_fld (pv 1) rfl)
      (nomark _))))), ?_⟩
  refine ⟨_, rfl, o, dy, _, rfl, g1, _, rfl, iteT ?_⟩
  refine ⟨_, rfl, b, C, dx, _, _, rfl, h1, T.cl, T.nL, bf_listed _ _, _, rfl, o,
    C, dy, _, _, rfl, g1, T.cl, T.nL, bf_listed _ _, _, _, dp_N (SqL.of h2),
    dp_N (SqL.of g2), shaped_L u1, shaped_L u2, ?_⟩
  rw [eqv_L]
  exact q
theorem ok_reprB {f : Addr} {fd : FuncData} {k : Nat}
    (F : Fun K "__repr__" "Base.__repr__" s_Base_repr f fd)
    (T : BC K mg C) :
    FnG P w K mg base CX0 (k + 1) f fd ["self"] (spReprB C) := by
  refine okG F sc_Base_repr (fun vs H Q E h => ?_)
    (fun cv A outer s H vs Q E hr gd h => ?_)
  · obtain ⟨b, ls, rfl, _⟩ := h
    rfl
  obtain ⟨b, ls, rfl, hb, good, q⟩ := h
  obtain ⟨dx, lo, d, h1, h2, h3⟩ := hb.ob
  refine ⟨_, pss_one (ps_ret (pe_joined (.cons pe_str (.cons
    (pe_fmtD hr gd (pe_fld (pv 0) rfl)) (.cons pe_str .nil))))), ?_⟩
  have l1 := good.shown
  have l2 : (PyData.list (dN ls)).shown.length ≤ 10004003 := by
    have e : (PyData.list (dN ls)).shown =
        listText (PyData.shownAll (dN ls)) := by simp only [PyData.shown]
    have p := piled_N ls 8 fun l h => ⟨(good.nm l h).hi, (good.nm l h).uni⟩
    have q := listText_len_le (PyData.shownAll (dN ls))
    rw [e]
    have r : ((PyData.shownAll (dN ls)).map (·.length)).sum +
        2 * (PyData.shownAll (dN ls)).length =
        piled (PyData.shownAll (dN ls)) := by
      generalize PyData.shownAll (dN ls) = ts
      induction ts with
      | nil => rfl
      | cons t ts ih =>
        rw [piled_cons, List.map_cons, List.sum_cons, List.length_cons]
        omega
    have s : ls.length * (10 * 8 + 4) ≤ 40 * 84 :=
      Nat.mul_le_mul good.hi (Nat.le_refl _)
    omega
  have l3 : (Str.ofString "Base(").length = 5 := by decide +kernel
  have l4 : (Str.ofString ")").length = 1 := by decide +kernel
  have l5 : (Str.empty).length = 0 := by decide +kernel
  have l6 : 10005000 ≤ sizeLine := by decide
  refine ⟨_, rfl, ?_, _, rfl, b, C, dx, _, _, rfl, h1, T.cl, T.nL,
    bf_listed _ _, lo, _, rfl, dp_N (SqL.of h2), showable_L ls,
    Nat.le_trans (depth_L ls) (by decide), l1, _, rfl, ?_, _, rfl, ?_, q⟩
  · rw [strLen_append]
    omega
  · rw [strLen_append, strLen_append]
    omega
  · rw [strLen_append, strLen_append, strLen_append]
    omega
end
end OM
namespace OM
open PySem PySem.Spec PyProof.Rows L2
/-! ### a class that is made, in one word -/
structure CalC (P : Program) (w : World) (K : PySem.W.Frag)
    (mg : Str → Option Value) (base : Heap) (C : Addr) (k : Nat) (x : Str)
    (ps : List Str) (sp : Sp) : Prop where
  mgC : mg x = some (.ref C)
  ex : ∃ f fd, FnOk P w K mg base CX0 k f fd ps sp ∧ Mk K C f ∧
    Binds K fd ps []
section
variable {X : Cx} {k : Nat} {ps : List Str} {sp : Sp} {x : Str} {C : Addr}
  {p pos : Pos} {e : Expr} {es : List Expr} {t : TA}
theorem pe_calC (M : CalC X.prog X.w X.K X.mg X.base C k x ps sp)
    (room : Room (k + 1) X.A) (ha : PA X (e :: es) t)
    (hg : Gl X x := by rfl)
    (h1 : (x == ("__debug__" : Str)) = false := by decide)
    (h2 : starEach (e :: es) X.env =
      (false, eval e X.env) :: starEach es X.env := by rfl)
    (h3 : (backTo pos (starEach es X.env)).any (·.1) = false := by rfl) :
    PE X (.Call (.Name x p) (e :: es) [] pos) (tMake C sp [] E0 t) := by
  obtain ⟨f, fd, F, m, b⟩ := M.ex
  exact pe_make m F room hg M.mgC b .nil pass0 ha h1 h2 h3
end
theorem cut_to (xs : List V) {n : Nat} (h : n ≤ xs.length) :
    cutV xs none (some (n : Int)) = xs.take n := by
  unfold cutV
  rw [HT.sIx_nat, HT.sIx_none, Nat.min_eq_left h, Nat.sub_zero,
    List.drop_zero]
theorem cut_from (xs : List V) {n : Nat} (h : n ≤ xs.length) :
    cutV xs (some (n : Int)) none = xs.drop n := by
  unfold cutV
  rw [HT.sIx_nat, HT.sIx_none, Nat.min_eq_left h]
  exact List.take_of_length_le (by rw [List.length_drop]; exact Nat.le_refl _)
/-- os is an order of the base -/
structure Ord (C : Addr) (H : Hp) (b a : Addr) (ls os : List (List Nat)) :
    Prop where
  ba : BaseAt C H b ls
  good : Good ls
  li : H a = some (.lst (os.map vS))
  pm : os.Perm ls
theorem Ord.same {C b a : Addr} {H H' : Hp} {ls os : List (List Nat)}
    (x : Ord C H b a ls os) (s : Same H H') : Ord C H' b a ls os :=
  ⟨x.ba.same s, x.good, s _ _ x.li, x.pm⟩
theorem Good.perm {ls os : List (List Nat)} (g : Good ls)
    (p : os.Perm ls) : Good os :=
  ⟨fun l h => g.nm l (p.mem_iff.mp h), p.nodup_iff.mpr g.nd,
    by rw [p.length_eq]; exact g.lo, by rw [p.length_eq]; exact g.hi⟩
end OM
namespace OM
open PySem PySem.Spec PyProof.Rows L2
/-! ### data with small dicts -/
mutual
inductive DX (H : Hp) : V → PyData → Prop
  | non : DX H .non .none
  | bl (b : Bool) : DX H (.bl b) (.bool b)
  | int (i : Int) : DX H (.int i) (.int i)
  | str (x : Str) : DX H (.str x) (.str x)
  | lst {a : Addr} {xs : List V} {ds : List PyData} :
      H a = some (.lst xs) → DXs H xs ds → DX H (.ref a) (.list ds)
  | tup {a : Addr} {xs : List V} {ds : List PyData} :
      H a = some (.tup xs) → DXs H xs ds → DX H (.ref a) (.tuple ds)
  | d0 {a : Addr} : H a = some (.dK []) → DX H (.ref a) (.dict [])
  | d1 {a : Addr} {x : Str} {v : V} {d : PyData} :
      H a = some (.dK [(Sum.inr x, v)]) → DX H v d →
      DX H (.ref a) (.dict [(.str x, d)])
inductive DXs (H : Hp) : List V → List PyData → Prop
  | nil : DXs H [] []
  | cons {v : V} {vs : List V} {d : PyData} {ds : List PyData} :
      DX H v d → DXs H vs ds → DXs H (v :: vs) (d :: ds)
end
mutual
theorem DX.same {H H' : Hp} (s : Same H H') : ∀ (d : PyData) (v : V),
    DX H v d → DX H' v d
  | .none, _, h => by cases h; exact .non
  | .bool b, _, h => by cases h; exact .bl b
  | .int i, _, h => by cases h; exact .int i
  | .str x, _, h => by cases h; exact .str x
  | .list ds, _, h => by
    cases h with
    | lst e t => exact .lst (s _ _ e) (DXs.same s ds _ t)
  | .tuple ds, _, h => by
    cases h with
    | tup e t => exact .tup (s _ _ e) (DXs.same s ds _ t)
  | .dict [], _, h => by
    cases h with
    | d0 e => exact .d0 (s _ _ e)
  | .dict [(k, d)], _, h => by
    cases h with
    | d1 e t => exact .d1 (s _ _ e) (DX.same s d _ t)
  | .dict (_ :: _ :: _), _, h => by cases h
theorem DXs.same {H H' : Hp} (s : Same H H') : ∀ (ds : List PyData)
    (vs : List V), DXs H vs ds → DXs H' vs ds
  | [], _, h => by cases h; exact .nil
  | d :: ds, _, h => by
    cases h with
    | cons a t => exact .cons (DX.same s d _ a) (DXs.same s ds _ t)
end
section
variable {X : Cx} {pins : List (Addr × Obj)} {σ : L2.St} {H : Hp} {s : Shared}
theorem dict_parts {a : Addr} {kvs : List (Key × V)} (I : Inv X pins σ H s)
    (e : H a = some (.dK kvs)) : ∃ o es n vs, s.heap.get? a = some o ∧
      o.cls = .type "dict" ∧ o.data = .dict es n ∧
      Pairs (mixKind X.prog X.w) es.toList vs ∧ KV kvs vs := by
  obtain ⟨_, _, vs, kv, o, es, ep, h1, h2, h3, _, h5, _⟩ := dk_of I.hok e
  exact ⟨o, es, ep, vs, h1, h2.1, h3, h5, kv⟩
theorem keyIs_inr {x : Str} {v : Value} (h : keyIs (.inr x) v = true) :
    ∃ t, v = .str x t := by
  rcases keyIs_shape h with ⟨i, t, e, _⟩ | ⟨y, t, e, e2⟩
  · cases e
  · cases e; exact ⟨t, e2⟩
mutual
theorem DX.reads (I : Inv X pins σ H s) (hs : H sysModules = none) :
    ∀ (d : PyData) (v : V) (u : Value), DX H v d → RelV v u →
      ∃ as, Reads s.heap u d as ∧ sysModules ∉ as
  | .none, _, _, h, r => by
    cases h; cases r; exact ⟨_, Reads.none, by simp⟩
  | .bool b, _, _, h, r => by
    cases h; cases r; exact ⟨_, Reads.bool b, by simp⟩
  | .int i, _, _, h, r => by
    cases h; obtain ⟨t, rfl⟩ := r; exact ⟨_, Reads.int i t, by simp⟩
  | .str x, _, _, h, r => by
    cases h; obtain ⟨t, rfl⟩ := r; exact ⟨_, Reads.str x t, by simp⟩
  | .list ds, _, _, h, r => by
    cases h with
    | lst e t =>
      cases r
      obtain ⟨_, its, n, rv, ho⟩ := I.hok _ _ e
      obtain ⟨as, q, nm⟩ := DXs.reads I hs ds _ its t rv
      refine ⟨_, Reads.list ho rfl rfl (by simpa using q), ?_⟩
      intro m
      rcases List.mem_cons.mp m with z | z
      · rw [z, e] at hs; cases hs
      · exact nm z
  | .tuple ds, _, _, h, r => by
    cases h with
    | tup e t =>
      cases r
      obtain ⟨_, its, rv, o, ho, hc, n, hd⟩ := I.hok _ _ e
      obtain ⟨as, q, nm⟩ := DXs.reads I hs ds _ its t rv
      exact ⟨_, Reads.tuple ho hc hd (by simpa using q), nm⟩
  | .dict [], _, _, h, r => by
    cases h with
    | d0 e =>
      cases r
      obtain ⟨o, es, n, vs, h1, h2, h3, h4, kv⟩ := dict_parts I e
      cases kv
      have ez : es.toList = [] := by cases hz : es.toList with
        | nil => rfl
        | cons a b => rw [hz] at h4; cases h4
      refine ⟨_, Reads.dict (kvs := []) h1 h2 h3 (by rw [ez]; exact .nil)
        (by rw [ez]; exact .nil), ?_⟩
      intro m
      rcases List.mem_cons.mp m with z | z
      · rw [z, e] at hs; cases hs
      · cases z
  | .dict [(k, d)], _, _, h, r => by
    cases h with
    | d1 e t =>
      cases r
      obtain ⟨o, es, n, vs, h1, h2, h3, h4, kv⟩ := dict_parts I e
      cases kv with
      | cons p q =>
        cases q
        cases ez : es.toList with
        | nil => rw [ez] at h4; cases h4
        | cons en er =>
          rw [ez] at h4
          cases h4 with
          | cons k1 v1 r1 =>
            cases r1
            obtain ⟨p1, p2⟩ := p
            obtain ⟨as, rd, nm⟩ := DX.reads I hs d _ _ t p2
            rw [← p1] at k1
            obtain ⟨tk, ek⟩ := keyIs_inr k1
            refine ⟨_, Reads.dict (kvs := [(_, d)]) h1 h2 h3 (as := [])
              (bs := as ++ []) ?_ ?_, ?_⟩
            · rw [ez]
              show ReadsAll _ [en.key] [_] ([] ++ [])
              rw [ek]
              exact .cons (.str _ _) .nil
            · rw [ez]
              show ReadsAll _ [en.val] [d] _
              rw [v1]
              exact .cons rd .nil
            · intro m
              rcases List.mem_cons.mp m with z | z
              · rw [z, e] at hs; cases hs
              · have z' : sysModules ∈ ([] : List Addr) ++ (as ++ []) := z
                rw [List.nil_append, List.append_nil] at z'
                exact nm z'
  | .dict (_ :: _ :: _), _, _, h, _ => by cases h
theorem DXs.reads (I : Inv X pins σ H s) (hs : H sysModules = none) :
    ∀ (ds : List PyData) (vs : List V) (us : List Value), DXs H vs ds →
      Vals vs us → ∃ as, ReadsAll s.heap us ds as ∧ sysModules ∉ as
  | [], _, _, h, r => by
    cases h; cases r; exact ⟨_, ReadsAll.nil, by simp⟩
  | d :: ds, _, _, h, r => by
    cases h with
    | cons h1 h2 =>
      cases r with
      | cons r1 r2 =>
        obtain ⟨as, q1, n1⟩ := DX.reads I hs d _ _ h1 r1
        obtain ⟨bs, q2, n2⟩ := DXs.reads I hs ds _ _ h2 r2
        exact ⟨_, ReadsAll.cons q1 q2, fun m => (List.mem_append.mp m).elim n1 n2⟩
end
/-- repr(x) of data with small dicts -/
def rReprX : List V → Hp → VK → Prop := fun xs H Q =>
  ∃ v d, xs = [v] ∧ DX H v d ∧ d.showable = true ∧ d.depth ≤ 60 ∧
    d.shown.length ≤ sizeLine ∧ Q (.str d.shown) H
theorem call_reprX {k : Nat} (room : Room k X.A)
    (gd : X.A.guards = some [])
    (sm : ∃ o, X.base.get? sysModules = some o) :
    CallR X (.builtin "repr") rReprX := by
  intro pins s σ H xs us Q I r h
  obtain ⟨v, d, rfl, hd, sh, dp, sz, q⟩ := h
  cases r with
  | cons rv rn =>
    cases rn
    rename_i u
    obtain ⟨o, ho⟩ := sm
    have hs : H sysModules = none := (I.env0.bs _ o ho).2
    obtain ⟨as, rd, nm⟩ := DX.reads I hs d v u hd rv
    have un := room.units
    have key : ∀ a : Addr, u = .ref a → wpAny (model X.prog X.w) X.A
        (call (.builtin "repr") [u]) (EP X pins σ Q) X.xe s := by
      rintro a rfl
      refine repr_of_reads' rd sh (fun _ => nm) gd (by omega) (fun _ _ e => e)
        (fun h' u tk hk => ?_) sz
      exact ⟨.str _, H, I.kept hk, ⟨_, rfl⟩, q⟩
    cases hd with
    | non =>
      cases rv
      exact PySem.P.repr_of_none ⟨.str _, H, I.tok _, ⟨_, rfl⟩, q⟩
    | bl b =>
      cases rv
      exact PySem.P.repr_of_bool ⟨.str _, H, I.tok _, ⟨_, rfl⟩, q⟩
    | int i =>
      obtain ⟨t, rfl⟩ := rv
      refine PySem.P.repr_of_int ?_ ⟨.str _, H, I.tok _, ⟨_, rfl⟩, q⟩
      simpa [PyData.showable] using sh
    | str x =>
      obtain ⟨t, rfl⟩ := rv
      exact PySem.P.repr_of_str ⟨.str _, H, I.tok _, ⟨_, rfl⟩, q⟩ sz
    | lst a b => cases rv; exact key _ rfl
    | tup a b => cases rv; exact key _ rfl
    | d0 a => cases rv; exact key _ rfl
    | d1 a b => cases rv; exact key _ rfl
end
end OM
namespace OM
open PySem PySem.Spec PyProof.Rows L2

/-- the law's call, nothing being shown around it -/
theorem lawS {P : Program} {w : World} {K : PySem.W.Frag}
    {mg mb : Str → Option Value} {k : Nat} {fa a : Addr} {fd : FuncData}
    {x : Str} {sp : Sp} {s1 : Shared} {vs : List Value} {ns : List Int}
    (kin : K.In s1.heap) (glob : s1.heap.Ns mainGlobals mg)
    (blt : s1.heap.Ns builtinsNs mb)
    (boot : ∀ x : Str, x ≠ "__name__" → mb x = bootBuiltins x)
    (nol : s1.heap.NoLimit) (gens : s1.gens = #[])
    (ha : s1.heap.get? a =
      some { cls := .type "list", data := .seq vs.toArray })
    (hints : IntsAre vs ns) (hl : ns.length ≤ sizeLine)
    (room : Room k callerA)
    (smod : ∃ mm, s1.heap.Ns sysModules mm)
    (F : ∀ base : Heap, K.In base → base.Ns mainGlobals mg →
      (∃ o, base.get? sysModules = some o) →
      FnG P w K mg base CX0 k fa fd [x] sp)
    (bind : ∀ (s : Shared) (u : Value), BindsTo s fd ⟨[u], []⟩ [(x, u)])
    (hsp : ∀ H : Hp, Only H → SqL K H a (ns.map V.int) →
      sp [.ref a] H (fun v _ => v = .bl true) E0) :
    codeAny (model P w) callerA (.call (.ref fa) ⟨[.ref a], []⟩)
      (fun r s' => r = .ok (.ret (.bool true)) ∧ OldK s1.heap s'.heap ∧
        s'.os = s1.os ∧ AllBare s'.gens) s1 := by
  have rel := vals_ints hints
  have lv := hints.length
  -- H tracks the script alone, or nothing
  suffices core : ∀ H : Hp, Only H → SqL K H a (ns.map V.int) →
      HOk P w H s1.heap → (∀ b, H b ≠ none → b = a) →
      (H a ≠ none → K.lookup a = none) →
      codeAny (model P w) callerA (.call (.ref fa) ⟨[.ref a], []⟩)
        (fun r s' => r = .ok (.ret (.bool true)) ∧ OldK s1.heap s'.heap ∧
          s'.os = s1.os ∧ AllBare s'.gens) s1 by
    by_cases hk : ∃ o, K.lookup a = some o
    · obtain ⟨o, hk⟩ := hk
      have e := kin a o hk
      rw [ha] at e
      cases e
      refine core (fun _ => none) (fun _ => Or.inl rfl) (Or.inr ?_)
        (fun b u z => ?_) (fun b z => absurd rfl z) (fun z => absurd rfl z)
      · exact ⟨_, vs.toArray, _, hk, rfl, rfl, rfl,
          by rw [List.size_toArray, lv]; exact hl, by simpa using rel⟩
      · cases (show (none : Option HO) = some u from z)
    · have hk : K.lookup a = none := by
        cases q : K.lookup a with
        | none => rfl
        | some o => exact absurd ⟨o, q⟩ hk
      let ob : Obj := { cls := .type "list", data := .seq vs.toArray }
      refine core (fun b => if b = a then
          some (.frz ob (.lst (ns.map V.int))) else none)
        (fun b => ?_) (Or.inl (Or.inr ⟨ob, if_pos rfl⟩))
        (fun b u z => ?_) (fun b z => ?_) (fun _ => hk)
      · by_cases hb : b = a
        · exact Or.inr ⟨_, _, if_pos hb⟩
        · exact Or.inl (if_neg hb)
      · by_cases hb : b = a
        · cases (if_pos hb).symm.trans z
          subst hb
          exact ⟨ha, by rw [List.length_map]; exact hl, vs, _, rel, ha⟩
        · cases (if_neg hb).symm.trans z
      · by_cases hb : b = a
        · exact hb
        · exact absurd (if_neg hb) z
  intro H only sq ok alone notK
  have untracked : ∀ {b : Addr} {o : Obj}, s1.heap.get? b = some o →
      (∀ z, o.data ≠ .seq z 0) → H b = none := by
    intro b o e d
    cases q : H b with
    | none => rfl
    | some u =>
      have z : b = a := alone b (by rw [q]; exact nofun)
      subst z
      rw [ha] at e
      cases e
      exact absurd rfl (d _)
  have ns' : ∀ {b : Addr} {m : Str → Option Value}, s1.heap.Ns b m →
      (hidT s1.heap H).Ns b m := by
    rintro b m ⟨o, es, ep, e, d, r⟩
    refine ⟨o, es, ep, hidT_get e (untracked e fun z y => ?_), d, r⟩
    cases d.symm.trans y
  have kin' : K.In (hidT s1.heap H) := by
    intro b o e
    refine hidT_get (kin b o e) ?_
    cases q : H b with
    | none => rfl
    | some u =>
      have z : b = a := alone b (by rw [q]; exact nofun)
      subst z
      rw [notK (by rw [q]; exact nofun)] at e
      cases e
  have md : Mod K mg (hidT s1.heap H) := by
    obtain ⟨mc, h1, h2⟩ := nol
    exact ⟨kin', ns' glob, ⟨mb, ns' blt, boot⟩, ⟨mc, ns' h1, h2⟩⟩
  have env : Env0 P w K mg (hidT s1.heap H) callerA [] s1 H :=
    ⟨rfl, md, fun b o e => of_hidT e, Nat.le_of_eq (hidT_size _ _), trivial,
      fun b hb => (nomatch (show b ∈ ([] : List Addr) from hb)), ok,
      .of_eq gens⟩
  have smd : ∃ o, (hidT s1.heap H).get? sysModules = some o := by
    obtain ⟨mm, hm⟩ := smod
    obtain ⟨o, es, ep, e, _⟩ := ns' hm
    exact ⟨o, e⟩
  refine codeAny_mono ((F _ kin' (ns' glob) smd).run callerA [] s1 H ⟨[.ref a], []⟩
    [.ref a] [.ref a] _ _ room rfl env (bind s1 (.ref a)) (.cons rfl .nil)
    (hsp H only sq)) ?_
  intro r s' h
  match r, h with
  | .error e, h => exact False.elim h
  | .ok .next, h => exact False.elim h
  | .ok .brk, h => exact False.elim h
  | .ok .cont, h => exact False.elim h
  | .ok (.ret u), h =>
    obtain ⟨v, H', os, bare, un, ok', rv, q⟩ := h
    cases (show v = .bl true from q)
    cases (show u = Value.bool true from rv)
    refine ⟨rfl, OldK.of_keep fun b o e => ?_, os, bare⟩
    cases q : H b with
    | none =>
      exact un.keep b o e q
        (fun z => nomatch (show b ∈ ([] : List Addr) from z)) (by simp)
    | some u =>
      cases only b with
      | inl z => rw [q] at z; cases z
      | inr z =>
        obtain ⟨ob, xs, z⟩ := z
        have e1 := (ok b _ z).1
        have e2 := (ok' b _ (un.frzs b ob _ z)).1
        rw [e] at e1
        cases e1
        exact e2

/-- what the head leaves, from the law's promise -/
theorem walkS {l : PySem.W.OpenLaw} {n k : Nat} {q : Program} {ls : List Str}
    {XP : (Str → Option Value) → Heap → Prop} {YP : World → Heap → Prop}
    {d : DefRec} {K : Params → PySem.W.Frag} {sp : PySem.W.Frag → Sp} {x : Str}
    (hn : l.most = some n) (hn2 : n ≤ sizeLine) (hq : importsNone q = true)
    (hdf : d.params.defaults = []) (room : Room k callerA)
    (hY : ∀ (w : World) (h : Heap), YP w h → (K w.params).In h)
    (F : ∀ (w : World) (mg : Str → Option Value) (fa : Addr) (h : Heap),
      (K w.params).In h → h.Ns mainGlobals mg → mg d.name = some (.ref fa) →
      ∃ fd : FuncData,
        (∀ (s : Shared) (u : Value), BindsTo s fd ⟨[u], []⟩ [(x, u)]) ∧
        ∀ base : Heap, (K w.params).In base → base.Ns mainGlobals mg →
          (∃ o, base.get? sysModules = some o) →
          FnG l.prog w (K w.params) mg base CX0 k fa fd [x]
            (sp (K w.params)))
    (hsp : ∀ (K : PySem.W.Frag) (H : Hp) (a : Addr) (ns : List Int),
      ns.length ≤ n → Only H → SqL K H a (ns.map V.int) →
      sp K [.ref a] H (fun v _ => v = .bl true) E0) :
    PySem.W.WalkO q ls XP YP l.row.toRowW d []
      (fun f vs => PySem.call f vs) := by
  refine Att.attach_call hn hdf ?_
  intro w s₀ s1 mg mb fa o pm cd doc a vs ns G Y ho hd hcd hmg hobj hi hlen hg
  have KX := hY w _ Y
  obtain ⟨fd, hb, hF⟩ := F w mg fa _ KX G.T.g hmg
  exact lawS KX G.T.g G.T.b G.T.builtins G.T.nolimit hg hobj hi
    (Nat.le_trans hlen hn2) room
    (by obtain ⟨mm, h, _⟩ := (G.T.seer hq).mods; exact ⟨mm, h⟩) hF hb
    (fun H hO hS => hsp (K w.params) H a ns hlen hO hS)
end OM
namespace OM
open PySem PySem.Spec PyProof.Rows L2
section
variable {X : Cx}
/-- xs == [], whatever xs holds -/
def rEqNil : R2 := fun x y H Q => ∃ a b xs, x = .ref a ∧ y = .ref b ∧
  H a = some (.lst xs) ∧ H b = some (.lst []) ∧ Q (.bl xs.isEmpty) H
theorem op_eqNil {k : Nat} (room : Room k X.A) :
    OpR X (compareOp .Eq) rEqNil := by
  intro pins s σ H x y v u Q I rx ry h
  obtain ⟨a, b, xs, rfl, rfl, ha, hb, q⟩ := h
  cases rx
  cases ry
  obtain ⟨_, its, n, rv, ho⟩ := I.hok _ _ ha
  obtain ⟨_, jts, m, rw', ho'⟩ := I.hok _ _ hb
  cases rw'
  have un := room.units
  cases rv with
  | nil =>
    refine SeqAt.eq_listAt (e := fun _ => true) ⟨_, ho, rfl, _, rfl⟩
      ⟨_, ho', rfl, _, rfl⟩ rfl (by omega) (fun j h1 h2 => ?_) ?_
    · simp at h1
    · exact ⟨.bl true, H, I, rfl, q⟩
  | cons r rs =>
    refine SeqAt.eq_list_lengthsAt ⟨_, ho, rfl, _, rfl⟩
      ⟨_, ho', rfl, _, rfl⟩ (by simp) (by omega) ?_
    exact ⟨.bl false, H, I, rfl, q⟩
end
end OM
namespace OM
open PySem PySem.Spec PyProof.Rows L2
def abc : Str := Str.ofString "abcdefghijklmnopqrstuvwxyz"
theorem mem_abc (c : Nat) : decide (c ∈ abc.cps.toList) = azB c := by
  have e : abc.cps.toList = (List.range 26).map (97 + ·) := by decide +kernel
  rw [e]
  unfold azB
  rw [← Bool.decide_and]
  refine decide_eq_decide.mpr ?_
  simp only [List.mem_map, List.mem_range]
  constructor
  · rintro ⟨k, hk, rfl⟩
    omega
  · intro h
    exact ⟨c - 97, by omega, by omega⟩
theorem len0 (x : Str) : decide (V.str x = V.str (Str.ofString "")) =
    decide (x.length = 0) := by
  refine decide_eq_decide.mpr ⟨fun h => ?_, fun h => ?_⟩
  · cases h
    decide +kernel
  · have : x.cps.toList = [] := by
      rw [TL.len_tl] at h
      exact List.eq_nil_of_length_eq_zero h
    rw [← SX.S_tl x, this]
    rfl
theorem two_le {a b : V} : [a, b].length ≤ sizeLine := by
  show 2 ≤ sizeLine
  decide
def badS (l : List Nat) : List V :=
  (l.filter fun c => !azB c).map fun c => .str ⟨#[c]⟩
theorem badS_nil (l : List Nat) : (badS l).isEmpty = l.all azB := by
  unfold badS
  rw [List.isEmpty_map]
  induction l with
  | nil => rfl
  | cons c r ih =>
    rw [List.all_cons, ← ih]
    cases h : azB c with
    | false => simp [h]
    | true => simp [h]
theorem badS_len (l : List Nat) : (badS l).length ≤ l.length := by
  unfold badS
  rw [List.length_map]
  exact List.length_filter_le _ _
section
variable {P : Program} {w : World} {K : PySem.W.Frag}
  {mg : Str → Option Value} {base : Heap}
theorem ok_lisname {f : Addr} {fd : FuncData} {k : Nat}
    (F : Fun K "_law_is_name" "_law_is_name" s_Lis_name f fd) (B : Bl mg) :
    FnOk P w K mg base CX0 (k + 1) f fd ["_law_value"] (spIsName K) := by
  refine F.ok sc_Lis_name (fun vs H Q E h => ?_)
    (fun cv A outer s H vs Q E hr h => ?_)
  · obtain ⟨v, rfl, _⟩ := h
    rfl
  obtain ⟨v, rfl, h⟩ := h
  have nd := sc_Lis_name.nd
  refine ⟨_, pss_cons (ps_if (pt_mid (PW.pt (pw_or (pt_not (pt_val
      (pe_callB call_isi (by rfl) B.isi bt_isi (pa_cons (pv 0) (pa_cons
        (pe_bltn (v := .ty "str") (by rfl) B.str bt_str rfl) pa_nil)))))
      (pw_or (pt_cmpR op_eq (pv 0) pe_str (nomark _))
      (pw_or1 (pt_cmpR op_gt
        (pe_callB call_len_str (by rfl) B.len PySem.boot_len
          (pa_cons (pv 0) pa_nil)) pe_int (nomark _)))))))
      (pss_one (ps_ret pe_bl)) pss_nil)
    (pss_one (ps_ret (pe_cmpR (op_eqNil hr)
      (pe_lc (own := [("_law_sign", 1)]) (g := gName 1) rfl nd
        (pi_str (pv 0))
        (blkOk_by (N := N_Lis_name) (sc := defScope s_Lis_name)
          (by decide +kernel))
        (fun _ _ _ _ _ => pg_name (i := 1) nd rfl (Or.inl rfl))
        (fun _ _ _ _ _ => pts_one (pt_cmpR op_notIn_sign (pv 1) pe_str
          (by rfl)))
        (fun _ _ _ _ _ => pv 1))
      (pe_lst pa_nil) (nomark _)))), ?_⟩
  rcases h with ⟨x, rfl, hx, q⟩ | ⟨t, ty, kt, q⟩
  · refine ⟨fun b H' => b = !(decide (1 ≤ x.length) && decide (x.length ≤ 8)) ∧
      H = H', ?_, ?_⟩
    · refine ⟨_, rfl, _, _, _, _, true, rfl, .ty "str", .base (.str x),
        kit_ty (by decide +kernel), _, rfl, iteF ?_⟩
      refine ⟨_, rfl, rfl, _, rfl, ?_⟩
      rw [len0]
      by_cases c0 : x.length = 0
      · rw [decide_eq_true c0]
        refine iteT ⟨?_, rfl⟩
        rw [decide_eq_false (show ¬ 1 ≤ x.length by omega)]
        rfl
      · rw [decide_eq_false c0]
        refine iteF ⟨_, rfl, x, rfl, hx, _, _, rfl, rfl, _, rfl, ?_, rfl⟩
        rw [decide_eq_true (show 1 ≤ x.length by omega), Bool.true_and]
        by_cases c1 : x.length ≤ 8
        · rw [decide_eq_true c1]
          exact decide_eq_false (by omega)
        · rw [decide_eq_false c1]
          exact decide_eq_true (by omega)
    · rintro b _ ⟨rfl, rfl⟩
      by_cases c : 1 ≤ x.length ∧ x.length ≤ 8
      · rw [decide_eq_true c.1, decide_eq_true c.2]
        refine iteF ⟨_, rfl, x, rfl, fun D nD => ?_⟩
        refine lc_it walk_str (fun i H' => H' D = some (.lst
          (badS (x.cps.toList.take i))) ∧ Same H H')
          ⟨upd_same, sameNew nD⟩ (fun _ _ _ _ => trivial) ?_ ?_
        · rintro i v _ H1 hi ⟨hD, sm⟩ ⟨rfl, c0, hc, rfl⟩
          have hc' : x.cps.toList[i]? = some c0 := by
            rw [Array.getElem?_toList]; exact hc
          have st : x.cps.toList.take (i + 1) = x.cps.toList.take i ++ [c0] := by
            rw [List.take_add_one, hc']
            rfl
          refine ⟨rfl, _, rfl, c0, _, rfl, rfl, _, rfl, ?_⟩
          rw [show decide (c0 ∈ (Str.ofString
            "abcdefghijklmnopqrstuvwxyz").cps.toList) = azB c0 from mem_abc c0]
          cases az : azB c0 with
          | true =>
            refine iteF ⟨?_, sm⟩
            rw [hD, st]
            unfold badS
            rw [List.filter_append]
            simp [az]
          | false =>
            refine iteT ⟨_, rfl, _, hD, ?_, ?_, OM.Same.put sm nD⟩
            · have h1 := badS_len (x.cps.toList.take i)
              rw [List.length_take] at h1
              have h2 : x.length = x.cps.toList.length := TL.len_tl x
              exact sz' (by omega)
            · rw [upd_same, st]
              unfold badS
              rw [List.filter_append]
              simp [az]
        · rintro H1 ⟨hD, sm⟩
          rw [List.take_of_length_le (by
            rw [Array.length_toList]; exact Nat.le_refl _)] at hD
          refine ⟨by decide, fun l nl => ?_⟩
          refine ⟨D, l, _, rfl, rfl, by rw [upd_ne (ne_of_none hD nl)]; exact hD,
            upd_same, ?_⟩
          rw [badS_nil]
          have := q (upd H1 l (.lst [])) (sm.trans (sameNew nl))
          unfold nmB at this
          rw [← TL.len_tl x] at this
          rw [decide_eq_true c.1, decide_eq_true c.2, Bool.true_and,
            Bool.true_and] at this
          exact this
      · have e : (decide (1 ≤ x.length) && decide (x.length ≤ 8)) = false := by
          by_cases c1 : 1 ≤ x.length
          · rw [decide_eq_false (show ¬ x.length ≤ 8 from fun z => c ⟨c1, z⟩)]
            exact Bool.and_false _
          · rw [decide_eq_false c1]
            exact Bool.false_and _
        rw [e]
        refine iteT ?_
        have := q H (Same.refl H)
        unfold nmB at this
        rw [← TL.len_tl x, e, Bool.false_and] at this
        exact this
  · refine ⟨fun b H' => b = true ∧ H = H', ?_, ?_⟩
    · exact ⟨_, rfl, _, _, _, _, false, rfl, .ty "str", ty, kt, _, rfl,
        iteT ⟨rfl, rfl⟩⟩
    · rintro b _ ⟨rfl, rfl⟩
      exact iteT q
/-- a new pair -/
def NewP (H : Hp) (Q : VK) (r : Str × Nat) : Prop := ∀ T H', H T = none →
  H' T = some (.tup [.str r.1, .int (r.2 : Nat)]) → Same H H' → Q (.ref T) H'
theorem NewP.back {H H1 : Hp} {Q : VK} {r : Str × Nat} (h : NewP H Q r)
    (s : Same H H1) : NewP H1 Q r :=
  fun T H' n e s' => h T H' (s.free n) e (s.trans s')
theorem NewP.at_ {H : Hp} {Q : VK} {r : Str × Nat} (h : NewP H Q r) :
    ∀ p, H p = none → Q (.ref p) (upd H p (.tup [.str r.1, .int (r.2 : Nat)])) :=
  fun p n => h p _ n upd_same (sameNew n)
/-- what is due -/
def spDue (K : PySem.W.Frag) : Sp := fun vs H Q _ => ∃ v, vs = [v] ∧
  ((∃ t, TyOf K H v t ∧ PySem.W.kitOne K t (.type "list") = some false ∧
      NewP H Q ("list", 0)) ∨
   (∃ a xs, v = .ref a ∧ H a = some (.lst xs) ∧ (∀ x ∈ xs, Elt1 K H x) ∧
      xs.length ≤ 1000 ∧ (∀ r, judge xs = some r → NewP H Q r) ∧
      (judge xs = none → ∀ H', Same H H' → Q .non H')))
theorem ok_due {f : Addr} {fd : FuncData} {k : Nat}
    (F : Fun K "_law_due" "_law_due" s_Ldue f fd) (B : Bl mg)
    (C : Cal P w K mg base k "_law_is_name" ["_law_value"] (spIsName K)) :
    FnOk P w K mg base CX0 (k + 1) f fd ["_law_value"] (spDue K) := by
  refine F.ok sc_Ldue (fun vs H Q E h => ?_)
    (fun cv A outer s H vs Q E hr h => ?_)
  · obtain ⟨v, rfl, _⟩ := h
    rfl
  obtain ⟨v, rfl, h⟩ := h
  have nd := sc_Ldue.nd
  refine ⟨_, pss_cons (ps_if (pt_not (pt_val
      (pe_callB call_isi (by rfl) B.isi bt_isi (pa_cons (pv 0) (pa_cons
        (pe_bltn (v := .ty "list") (by rfl) B.list bt_list rfl) pa_nil)))))
      (pss_one (ps_ret (pe_tup (pa_cons pe_str (pa_cons pe_int pa_nil)))))
      pss_nil)
    (pss_cons (ps_for PassesOwn.never rfl
      (pi_enum (by rfl) B.enum (pa_cons (pv 0) pa_nil))
      (pg_tup rfl (pgs_cons (pg_name (i := 1) nd rfl (.inl rfl))
        (pgs_cons (pg_name (i := 2) nd rfl (.inl rfl)) pgs_nil)))
      (pss_cons (ps_if (pt_not (pt_val (pe_cal C hr (pa_cons (pv 2) pa_nil))))
        (pss_one (ps_ret (pe_tup (pa_cons pe_str (pa_cons (pv 1) pa_nil)))))
        pss_nil)
      (pss_one (ps_if (pt_cmpR op_in_seq (pv 2)
          (pe_slice sl_list (pv 0) po_none (po_some (pv 1))) (by rfl))
        (pss_one (ps_ret (pe_tup (pa_cons pe_str (pa_cons (pv 1) pa_nil)))))
        pss_nil))))
    (pss_one (ps_ret (pe_ifExp (pt_mid (pt_chain op_lt op_lt pe_int
        (pe_callB call_len_seq (by rfl) B.len PySem.boot_len
          (pa_cons (pv 0) pa_nil)) pe_int))
      pe_non (pe_tup (pa_cons pe_str (pa_cons pe_int pa_nil))))))), ?_⟩
  rcases h with ⟨t, ty, kt, out⟩ | ⟨a, xs, rfl, ha, el, hx, bad, good⟩
  · exact ⟨_, rfl, _, _, _, _, false, rfl, .ty "list", .base ty, kt, _, rfl,
      iteT ⟨by decide, out.at_⟩⟩
  refine ⟨_, rfl, _, _, _, _, true, rfl, .ty "list", .base (.lst ha),
    kit_ty (by decide +kernel), _, rfl, iteF ?_⟩
  refine ⟨_, rfl, a, _, rfl, SqL.of ha, ?_⟩
  refine for_it (walk_enum (K := K) (a := a) (xs := xs))
    (fun i σ H' => ∃ (ls : List (List Nat)) (y z : Option V),
      σ = [some (.ref a), y, z] ∧ ls.length = i ∧
      xs.take i = ls.map vS ∧ (∀ l ∈ ls, nmB l = true) ∧
      jd [] 0 (xs.map tx) = jd ls i ((xs.drop i).map tx) ∧ Same H H')
    ⟨[], none, none, rfl, rfl, rfl, nofun, rfl, Same.refl H⟩
    (fun i σ H' _ z => by
      obtain ⟨_, _, _, _, _, _, _, _, sm⟩ := z
      exact SqL.of (sm _ _ ha))
    ?_ ?_
  · rintro i v σ H1 H2 hi ⟨ls, y, z, rfl, ll, tk, nml, jde, sm⟩
      ⟨T, x1, x2, rfl, nT, rfl, e1, e2⟩
    cases Option.some.inj e1
    have ha2 := sm _ _ ha
    have nTa : a ≠ T := ne_of_none ha2 nT
    have sm1 : Same H (upd H1 T (.tup [.int (i : Nat), x2])) :=
      sm.trans (sameNew nT)
    have dc := drop_cons e2
    rw [dc, List.map_cons] at jde
    have judg : ∀ r, jd ls i (tx x2 :: (xs.drop (i + 1)).map tx) = some r →
        judge xs = some r := fun r hr => by
      unfold judge
      rw [jde, hr]
    have hname : ∀ H3, Same (upd H1 T (.tup [.int (i : Nat), x2])) H3 →
        jd ls i (tx x2 :: (xs.drop (i + 1)).map tx) = some (("name" : Str), i) →
        NewP H3 Q ("name", i) := fun H3 s3 hj =>
      (bad _ (judg _ hj)).back (sm1.trans s3)
    refine ⟨T, _, rfl, .inl (.inl upd_same), rfl, _, _, rfl, _, _, rfl, rfl,
      ?_⟩
    rcases (el x2 (List.mem_of_getElem? e2)) with ⟨l, rfl, hl⟩ | ⟨t, ty, kt, tn⟩
    · have ell : (SX.S l).length ≤ sizeLine := by
        rw [SX.S_len]; exact sz (by omega)
      refine ⟨_, rfl, _, rfl, .inl ⟨_, rfl, ell, fun H3 s3 => ?_⟩⟩
      have ha3 : H3 a = some (.lst xs) :=
        s3 _ _ (by rw [upd_ne nTa]; exact ha2)
      cases nb : nmB l with
      | false =>
        refine ⟨_, rfl, iteT ⟨_, rfl, two_le, ?_⟩⟩
        refine (hname H3 s3 ?_).at_
        show (if nmB l = true then _ else _) = _
        rw [if_neg (by rw [nb]; exact Bool.false_ne_true)]
      | true =>
        refine ⟨_, rfl, iteF ?_⟩
        refine ⟨_, rfl, _, rfl, _, rfl, i, rfl, a, _, rfl, SqL.of ha3,
          fun t nt => ?_⟩
        rw [cut_to _ (Nat.le_of_lt hi), tk]
        refine ⟨t, _, rfl, .inl (SqL.of upd_same), rfl, flat_S _, _, rfl, ?_⟩
        rw [inV_S]
        by_cases ml : l ∈ ls
        · rw [decide_eq_true ml]
          refine iteT ⟨_, rfl, two_le, ?_⟩
          refine ((bad ("duplicate", i) (judg _ ?_)).back
            ((sm1.trans s3).trans (sameNew nt))).at_
          show (if nmB l = true then _ else _) = _
          rw [if_pos nb, if_pos ml]
        · rw [decide_eq_false ml]
          refine iteF ⟨ls ++ [l], _, _, rfl, ?_, ?_, ?_, ?_, ?_⟩
          · rw [List.length_append, ll]
            rfl
          · rw [List.take_add_one, show xs[i]? = some (vS l) from e2, tk,
              List.map_append]
            rfl
          · intro x hx
            rcases List.mem_append.mp hx with h | h
            · exact nml x h
            · rw [List.mem_singleton.mp h]
              exact nb
          · rw [jde]
            exact jd_step nb ml
          · exact (sm1.trans s3).trans (sameNew nt)
    · refine ⟨_, rfl, _, rfl, .inr ⟨t, .base (OM.TyOf.same ty sm1), kt, ?_⟩⟩
      refine ⟨_, rfl, iteT ⟨_, rfl, two_le, ?_⟩⟩
      refine (hname _ (Same.refl _) ?_).at_
      rw [tn]
      rfl
  · rintro σ H1 ⟨ls, y, z, rfl, ll, tk, nml, jde, sm⟩
    rw [List.drop_length] at jde
    have jn : jd [] 0 (xs.map tx) = none := jde
    refine ⟨fun b H' => b = (decide (1 ≤ xs.length) && decide (xs.length ≤ 40))
      ∧ H1 = H', ?_, ?_⟩
    · refine ⟨_, rfl, a, _, rfl, .inl (SqL.of (sm _ _ ha)), _, _, rfl, rfl, _,
        rfl, ite2 (fun c => ?_) (fun c => ?_)⟩
      · have c' : (0 : Int) < xs.length := of_decide_eq_true c
        refine ⟨_, _, rfl, rfl, _, rfl, ?_, rfl⟩
        rw [decide_eq_true (show 1 ≤ xs.length by omega), Bool.true_and]
        exact decide_eq_decide.mpr ⟨fun z => by omega, fun z => by omega⟩
      · refine ⟨_, rfl, ?_, rfl⟩
        rw [decide_eq_false (show ¬ 1 ≤ xs.length from fun z =>
          c (decide_eq_true (by omega)))]
        rfl
    · rintro b _ ⟨rfl, rfl⟩
      by_cases c : 1 ≤ xs.length ∧ xs.length ≤ 40
      · rw [decide_eq_true c.1, decide_eq_true c.2]
        refine iteT (good ?_ H1 sm)
        unfold judge
        rw [jn]
        exact if_pos c
      · have e : (decide (1 ≤ xs.length) && decide (xs.length ≤ 40)) = false := by
          by_cases c1 : 1 ≤ xs.length
          · rw [decide_eq_false (show ¬ xs.length ≤ 40 from fun z => c ⟨c1, z⟩)]
            exact Bool.and_false _
          · rw [decide_eq_false c1]
            exact Bool.false_and _
        rw [e]
        refine iteF ⟨by decide, ?_⟩
        refine ((bad ("count", 0) ?_).back sm).at_
        unfold judge
        rw [jn]
        exact if_neg c
end
end OM
namespace OM
open PySem PySem.Spec PyProof.Rows L2
/-! ### texts of what is told -/
structure Shw (d : PyData) : Prop where
  sh : d.showable = true
  dp : d.depth ≤ 60
  sz : d.shown.length ≤ sizeLine
def pairD (r : Str × Nat) : PyData := .tuple [.str r.1, .int (r.2 : Nat)]
def namesD (ls : List (List Nat)) : PyData :=
  .tuple [.str "names", .list (dN ls)]
theorem big_line : 10005000 ≤ sizeLine := by decide
theorem log_small {n : Nat} (h : n < 10 ^ 9) : n.log2 < 1920 := by
  by_cases e : n = 0
  · subst e
    decide
  · refine (Nat.log2_lt e).mpr (Nat.lt_trans h ?_)
    calc (10 : Nat) ^ 9 < 2 ^ 30 := by decide
      _ ≤ 2 ^ 1920 := Nat.pow_le_pow_right (by decide) (by decide)
theorem pair_shw {r : Str × Nat} (h1 : (reprText r.1).length ≤ 100)
    (h2 : r.2 < 10 ^ 9) : Shw (pairD r) := by
  refine ⟨?_, ?_, ?_⟩
  · unfold pairD
    simp only [PyData.showable, PyData.showableAll, Bool.true_and,
      Bool.and_true]
    exact decide_eq_true (log_small (by simpa using h2))
  · unfold pairD
    simp only [PyData.depth, PyData.depthAll]
    omega
  · unfold pairD
    simp only [PyData.shown, PyData.shownAll]
    refine Nat.le_trans (tupleText_len_le _) (Nat.le_trans ?_ big_line)
    have h3 : (Str.ofString (toString ((r.2 : Nat) : Int))).length ≤ 10 :=
      PyProof.Rows.toString_length_le (by omega) (by decide) (by omega)
    simp only [List.map_cons, List.map_nil, List.sum_cons, List.sum_nil,
      List.length_cons, List.length_nil]
    omega
theorem nm100 : (reprText (Str.ofString "name")).length ≤ 100 := by
  decide +kernel
theorem du100 : (reprText (Str.ofString "duplicate")).length ≤ 100 := by
  decide +kernel
theorem jd_bound : ∀ (xs : List (Option (List Nat))) (seen : List (List Nat))
    (i : Nat) (r : Str × Nat), jd seen i xs = some r →
    (reprText r.1).length ≤ 100 ∧ r.2 ≤ i + xs.length
  | [], _, _, _, h => by cases h
  | none :: xs, _, i, r, h => by
    cases h
    exact ⟨nm100, by show i ≤ _; omega⟩
  | some l :: xs, seen, i, r, h => by
    unfold jd at h
    by_cases nb : nmB l = true
    · rw [if_pos nb] at h
      by_cases ml : l ∈ seen
      · rw [if_pos ml] at h
        cases h
        exact ⟨du100, by show i ≤ _; omega⟩
      · rw [if_neg ml] at h
        obtain ⟨a, b⟩ := jd_bound xs _ _ _ h
        refine ⟨a, ?_⟩
        rw [List.length_cons]
        omega
    · rw [if_neg nb] at h
      cases h
      exact ⟨nm100, by show i ≤ _; omega⟩
theorem judge_shw {xs : List V} {r : Str × Nat} (h : judge xs = some r)
    (hx : xs.length ≤ 1000) : Shw (pairD r) := by
  unfold judge at h
  cases e : jd [] 0 (xs.map tx) with
  | some z =>
    rw [e] at h
    cases h
    obtain ⟨a, b⟩ := jd_bound _ _ _ _ e
    rw [List.length_map] at b
    exact pair_shw a (by omega)
  | none =>
    rw [e] at h
    by_cases c : 1 ≤ xs.length ∧ xs.length ≤ 40
    · simp only [if_pos c] at h
      cases h
    · simp only [if_neg c] at h
      cases h
      exact pair_shw (by decide +kernel) (by decide)
theorem list_shw : Shw (pairD ("list", 0)) :=
  pair_shw (by decide +kernel) (by decide)
theorem sum2_piled (ts : List Str) :
    (ts.map (·.length)).sum + 2 * ts.length = piled ts := by
  induction ts with
  | nil => rfl
  | cons t ts ih =>
    rw [piled_cons, List.map_cons, List.sum_cons, List.length_cons]
    omega
theorem Good.shown2 {ls : List (List Nat)} (g : Good ls) :
    (PyData.list (dN ls)).shown.length ≤ 4000 := by
  have e : (PyData.list (dN ls)).shown =
      listText (PyData.shownAll (dN ls)) := by simp only [PyData.shown]
  have p := piled_N ls 8 fun l h => ⟨(g.nm l h).hi, (g.nm l h).uni⟩
  have q := listText_len_le (PyData.shownAll (dN ls))
  rw [e]
  have r := sum2_piled (PyData.shownAll (dN ls))
  have s : ls.length * (10 * 8 + 4) ≤ 40 * 84 :=
    Nat.mul_le_mul g.hi (Nat.le_refl _)
  omega
theorem names_shw {ls : List (List Nat)} (g : Good ls) : Shw (namesD ls) := by
  refine ⟨?_, ?_, ?_⟩
  · unfold namesD
    simp only [PyData.showable, PyData.showableAll, Bool.true_and,
      Bool.and_true]
    exact showable_N ls
  · unfold namesD
    have h := depth_N ls
    simp only [PyData.depth, PyData.depthAll]
    omega
  · unfold namesD
    have h := g.shown2
    have h0 : (reprText (Str.ofString "names")).length ≤ 100 := by
      decide +kernel
    simp only [PyData.shown, PyData.shownAll] at h ⊢
    refine Nat.le_trans (tupleText_len_le _) (Nat.le_trans ?_ big_line)
    simp only [List.map_cons, List.map_nil, List.sum_cons, List.sum_nil,
      List.length_cons, List.length_nil]
    omega
theorem dxs_N {H : Hp} : ∀ ls : List (List Nat), DXs H (ls.map vS) (dN ls)
  | [] => .nil
  | l :: r => .cons (.str _) (dxs_N r)
/-! ### the errors' classes -/
structure XB (K : PySem.W.Frag) (mg : Str → Option Value)
    (CI CO CV CT CU : Addr) : Prop where
  cl : XCl K CI
  mI : mg "InvalidBase" = some (.ref CI)
  mO : mg "OrderError" = some (.ref CO)
  mV : mg "InvalidOrder" = some (.ref CV)
  mT : mg "InvalidText" = some (.ref CT)
  mU : mg "InvalidUsers" = some (.ref CU)
  mE : mg "ValueError" = none
  ex : PySem.W.exmOne K (.ref CI) (.ref CO) = some true
  kA : PySem.W.kitAny K (.ref CI) [.ref CV, .ref CT, .ref CU] = some false
  kE : PySem.W.kitOne K (.ref CI) (.type "ValueError") = some true
  n1 : PySem.W.findIn K (.ref CI) "problem" = some none
  n2 : PySem.W.findIn K (.ref CI) "position" = some none
theorem bt_VE : bootBuiltins "ValueError" = some (.type "ValueError") := by
  decide +kernel
/-- what is due of a value -/
inductive Jdg (K : PySem.W.Frag) (H : Hp) :
    V → Option (Str × Nat) → List (List Nat) → Prop
  | non {v : V} {t : Value} : TyOf K H v t →
      PySem.W.kitOne K t (.type "list") = some false →
      Jdg K H v (some ("list", 0)) []
  | bad {a : Addr} {xs : List V} {r : Str × Nat} : H a = some (.lst xs) →
      (∀ x ∈ xs, Elt1 K H x) → xs.length ≤ 1000 → judge xs = some r →
      Jdg K H (.ref a) (some r) []
  | good {a : Addr} {ls : List (List Nat)} : H a = some (.lst (ls.map vS)) →
      Good ls → judge (ls.map vS) = none → Jdg K H (.ref a) none ls
def outD : Option (Str × Nat) → List (List Nat) → PyData
  | some r, _ => pairD r
  | none, ls => namesD ls
section
variable {K : PySem.W.Frag} {H : Hp} {v : V} {j : Option (Str × Nat)}
  {ls : List (List Nat)}
theorem Jdg.same {H' : Hp} (h : Jdg K H v j ls) (s : Same H H') :
    Jdg K H' v j ls := by
  cases h with
  | non a b => exact .non (OM.TyOf.same a s) b
  | bad a b c d => exact .bad (s _ _ a) (fun x hx => (b x hx).same s) c d
  | good a b c => exact .good (s _ _ a) b c
theorem Jdg.shw (h : Jdg K H v j ls) : Shw (outD j ls) := by
  cases h with
  | non a b => exact list_shw
  | bad a b c d => exact judge_shw d c
  | good a b c => exact names_shw b
theorem elt_S {ls : List (List Nat)} (g : Good ls) :
    ∀ x ∈ ls.map vS, Elt1 K H x := fun x hx => by
  obtain ⟨l, hl, rfl⟩ := List.mem_map.mp hx
  have := (g.nm l hl).hi
  exact .inl ⟨l, rfl, by omega⟩
theorem map_vS_inj {ls ms : List (List Nat)} (h : ls.map vS = ms.map vS) :
    ls = ms := by
  induction ls generalizing ms with
  | nil => cases ms with
    | nil => rfl
    | cons a b => cases h
  | cons x r ih => cases ms with
    | nil => cases h
    | cons a b =>
      rw [List.map_cons, List.map_cons] at h
      rw [vS_inj (List.cons.inj h).1, ih (List.cons.inj h).2]
theorem Jdg.init {C CI b dx : Addr} {Q : VK} {E : XK} (h : Jdg K H v j ls)
    (hb : H b = some (.ins C dx []))
    (bad : ∀ r, j = some r → IbOut CI H E r)
    (good : j = none → ∀ H', BaseAt C H' b ls → But b H H' → Q .non H') :
    spInitX K C CI [.ref b, v] H Q E := by
  refine ⟨b, dx, v, rfl, hb, ?_⟩
  cases h with
  | non a b => exact .inl ⟨_, a, b, bad _ rfl⟩
  | bad a b c d =>
    refine .inr ⟨_, _, rfl, a, b, c, fun r hr => ?_, fun z => ?_⟩
    · rw [d] at hr
      exact bad r hr
    · rw [d] at z
      cases z
  | good a b c =>
    have := b.hi
    refine .inr ⟨_, _, rfl, a, elt_S b, by rw [List.length_map]; omega,
      fun r hr => ?_, fun _ ms e _ H' x y => ?_⟩
    · rw [c] at hr
      cases hr
    · rw [← map_vS_inj e] at x
      exact good rfl H' x y
theorem Jdg.due {Q : VK} {E : XK} (h : Jdg K H v j ls)
    (bad : ∀ r, j = some r → NewP H Q r)
    (good : j = none → ∀ H', Same H H' → Q .non H') :
    spDue K [v] H Q E := by
  refine ⟨v, rfl, ?_⟩
  cases h with
  | non a b => exact .inl ⟨_, a, b, bad _ rfl⟩
  | bad a b c d =>
    refine .inr ⟨_, _, rfl, a, b, c, fun r hr => ?_, fun z => ?_⟩
    · rw [d] at hr
      exact bad r hr
    · rw [d] at z
      cases z
  | good a b c =>
    have := b.hi
    refine .inr ⟨_, _, rfl, a, elt_S b, by rw [List.length_map]; omega,
      fun r hr => ?_, fun _ => good rfl⟩
    rw [c] at hr
    cases hr
end
/-- what the program says of a value -/
def spOut (K : PySem.W.Frag) : Sp := fun vs H Q _ => ∃ v j ls, vs = [v] ∧
  Jdg K H v j ls ∧ ∀ H', Same H H' → Q (.str (outD j ls).shown) H'
section
variable {P : Program} {w : World} {K : PySem.W.Frag}
  {mg : Str → Option Value} {base : Heap} {C CI CO CV CT CU : Addr}
theorem ok_out {f : Addr} {fd : FuncData} {k : Nat}
    (F : Fun K "_law_outcome" "_law_outcome" s_Loutcome f fd) (B : Bl mg)
    (T : XB K mg CI CO CV CT CU)
    (sm : ∃ o, base.get? sysModules = some o)
    (Mb : CalCX P w K mg base C k "Base" ["self", "items"] (spInitX K C CI))
    (Mn : CalM P w K mg base C k "names" ["self"] (spGetNames C)) :
    FnG P w K mg base CX0 (k + 2) f fd ["_law_value"] (spOut K) := by
  refine okG F sc_Loutcome (fun vs H Q E h => ?_)
    (fun cv A outer s H vs Q E hr1 gd h => ?_)
  · obtain ⟨v, j, ls, rfl, _⟩ := h
    rfl
  obtain ⟨v, j, ls, rfl, jg, q⟩ := h
  have nd := sc_Loutcome.nd
  have hr := hr1.mono (Nat.le_succ k)
  refine ⟨_, pss_cons (ps_set (i := 1) nd rfl (.inl rfl)
      (pe_tup (pa_cons pe_str (pa_cons pe_int pa_nil))))
    (pss_cons (ps_try_as (i := 2) rfl rfl nd rfl rfl
        ⟨rfl, by decide, .inl T.mO⟩ takes0
      (fun W pn xe tk _ => pss_one (ps_set (i := 1) nd rfl (.inl rfl)
        (pe_tup (pa_cons pe_str (pa_cons (pe_calM0 Mn hr
          (pe_makeS Mb hr1 (fun σ => passAt tk σ) (pa_cons (pv 0) pa_nil)))
          pa_nil)))))
      (fun a oe cls d pn hz hf => pss_cons (ps_set (i := 3) nd rfl (.inl rfl)
        (pe_or (pe_callB (call_isXT hz hf) (by rfl) B.isi bt_isi
          (pa_cons (pv 2) (pa_cons (pe_tup (pa_cons
            (pe_glob (v := .ref CV) (by rfl) T.mV rfl) (pa_cons
            (pe_glob (v := .ref CT) (by rfl) T.mT rfl) (pa_cons
            (pe_glob (v := .ref CU) (by rfl) T.mU rfl) pa_nil)))) pa_nil)))
        (pe_one (pe_not (pe_callB (call_isX hz hf) (by rfl) B.isi bt_isi
          (pa_cons (pv 2) (pa_cons (pe_bltn (v := .ty "ValueError") (by rfl)
            T.mE bt_VE rfl) pa_nil)))))))
      (pss_one (ps_if (PW.pt (pw_and (pt_val
          (pe_callB (call_isX hz hf) (by rfl) B.isi bt_isi
            (pa_cons (pv 2) (pa_cons (pe_glob (v := .ref CI) (by rfl) T.mI rfl)
              pa_nil))))
          (pw_and1 (pt_not (pt_val (pv 3))))))
        (pss_one (ps_set (i := 1) nd rfl (.inl rfl) (pe_tup (pa_cons
          (pe_xf T.cl.xf T.n1 hz hf (pv 2)) (pa_cons
          (pe_xf T.cl.xf T.n2 hz hf (pv 2)) pa_nil)))))
        pss_nil))))
    (pss_one (ps_ret (pe_callB (call_reprX hr gd sm) (by rfl) B.repr bt_repr
      (pa_cons (pv 1) pa_nil))))), ?_⟩
  refine ⟨two_le, fun p0 n0 => ?_⟩
  refine ⟨_, rfl, fun x dx nx ndx ne => ?_⟩
  have s1 : Same H (upd H p0 (.tup [.str "other", .int 0])) := sameNew n0
  generalize upd H p0 (.tup [.str "other", .int 0]) = H1 at nx ndx s1 ⊢
  have s2 : Same H (upd (upd H1 dx (.own x)) x (.ins C dx [])) :=
    OM.Same.put (OM.Same.put s1 (s1.free ndx)) (s1.free nx)
  have hx2 : (upd (upd H1 dx (.own x)) x (.ins C dx [])) x =
      some (.ins C dx []) := upd_same
  generalize upd (upd H1 dx (.own x)) x (.ins C dx []) = H2 at s2 hx2 ⊢
  have shw := jg.shw
  refine (jg.same s2).init hx2 (fun r hr d H3 nd3 hd3 s3 => ?_)
    (fun hj H3 hb b3 => ?_)
  · subst hr
    refine ⟨true, T.ex, fun _ a ha => ?_, fun z => nomatch z⟩
    have s4 := s2.trans s3
    refine ⟨_, rfl, by show 3 ≤ sizeLine; decide, fun tp ntp => ?_⟩
    have hd4 : ∀ o, (upd H3 tp o) d = some (.xd [("position", .int (r.2 : Nat)),
        ("problem", .str r.1)]) := fun o => by
      rw [upd_ne (ne_of_none hd3 ntp)]; exact hd3
    refine ⟨CI, d, tp, _, _, _, false, T.cl, rfl, rfl, hd4 _, rfl, upd_same,
      .cons (.own _) (.cons (.own _) (.cons (.own _) .nil)), T.kA, _, rfl,
      iteF ?_⟩
    refine ⟨_, rfl, CI, d, _, _, _, true, T.cl, rfl, rfl, hd4 _, rfl, .ty _, T.kE,
      _, rfl, ?_⟩
    refine ⟨_, rfl, CI, d, _, _, _, true, T.cl, rfl, rfl, hd4 _, rfl, .own _,
      if_pos (beq_self_eq_true _), _, rfl, iteT ?_⟩
    refine ⟨_, rfl, _, rfl, iteT ?_⟩
    refine ⟨_, rfl, rfl, rfl, d, _, _, rfl, hd4 _, rfl, ?_⟩
    refine ⟨_, rfl, rfl, rfl, d, _, _, rfl, hd4 _, rfl, two_le, fun t nt => ?_⟩
    refine ⟨_, rfl, _, pairD r, rfl, .tup upd_same (.cons (.str _) (.cons (.int _)
      .nil)), shw.sh, shw.dp, shw.sz, ?_⟩
    exact q _ ((s4.trans (sameNew ntp)).trans (sameNew nt))
  · subst hj
    obtain ⟨dx', lo, d, h1, h2, h3⟩ := hb.ob
    refine ⟨rfl, x, dx', _, rfl, h1, bf_no _ _ (by decide +kernel)
      (by decide +kernel), x, ls, rfl, hb, fun n H4 nn hn s4 => ⟨two_le,
      fun t nt => ?_⟩⟩
    have nnt : n ≠ t := ne_of_none hn nt
    refine ⟨_, rfl, _, namesD ls, rfl, .tup upd_same (.cons (.str _) (.cons
      (.lst (by rw [upd_ne nnt]; exact hn) (dxs_N ls)) .nil)), shw.sh, shw.dp,
      shw.sz, ?_⟩
    refine q _ ?_
    have s3 : Same H H3 := fun b o z => b3 b o (s2 b o z)
      (ne_of_none z (s1.free nx))
    exact (s3.trans s4).trans (sameNew nt)
end
end OM
namespace OM
open PySem PySem.Spec PyProof.Rows L2
section
variable {X : Cx}
theorem callR_or {f : Value} {r r' : List V → Hp → VK → Prop}
    (a : CallR X f r) (b : CallR X f r') :
    CallR X f (fun xs H Q => r xs H Q ∨ r' xs H Q) := by
  intro pins s σ H xs us Q I rv h
  rcases h with h | h
  · exact a pins s σ H xs us Q I rv h
  · exact b pins s σ H xs us Q I rv h
end
theorem iteEq {a b : V} {x y : Prop} (h : a = b) (hx : x) :
    if decide (a = b) = true then x else y := by
  rw [decide_eq_true h]
  exact hx
/-- a value that can be shown: data, or a base -/
inductive Sees (C : Addr) (H : Hp) : V → Str → Prop
  | dat {v : V} {d : PyData} : DX H v d → Shw d → Sees C H v d.shown
  | bas {b : Addr} {ls : List (List Nat)} : BaseAt C H b ls → Good ls →
      Sees C H (.ref b) (baseText ls)
theorem Sees.same {C : Addr} {H H' : Hp} {v : V} {x : Str} (h : Sees C H v x)
    (s : Same H H') : Sees C H' v x := by
  cases h with
  | dat a b => exact .dat (DX.same s _ _ a) b
  | bas a b => exact .bas (a.same s) b
def spChk12 (K : PySem.W.Frag) (C : Addr) : Sp := fun vs H Q _ =>
  ∃ v j ls x, vs = [v] ∧ Jdg K H v j ls ∧ Sees C H v x ∧
    ∀ H', Same H H' → Q (.bl true) H'
section
variable {P : Program} {w : World} {K : PySem.W.Frag}
  {mg : Str → Option Value} {base : Heap} {C : Addr}
/-- repr of such a value -/
theorem sees_go {H : Hp} {v : V} {x : Str} {Q : VK} (h : Sees C H v x)
    (q : Q (.str x) H) : rReprX [v] H Q ∨ rReprOwn C (spReprB C) [v] H Q := by
  cases h with
  | dat a b => exact .inl ⟨_, _, rfl, a, b.sh, b.dp, b.sz, q⟩
  | bas a b =>
    obtain ⟨dx, lo, d, h1, h2, h3⟩ := a.ob
    exact .inr ⟨_, _, _, rfl, h1, _, _, rfl, a, b, _, rfl, q⟩
theorem ok_chk12 {f fr : Addr} {fd fdr : FuncData} {k n : Nat}
    (F : Fun K "_law_check" "_law_check" s_Lcheck f fd) (B : Bl mg)
    (sm : ∃ o, base.get? sysModules = some o)
    (Sr : Spec1 K C "__repr__" fr fdr ["self"])
    (Gr : FnG P w K mg base CX0 n fr fdr ["self"] (spReprB C))
    (hn : n + 1 ≤ k)
    (Cd : Cal P w K mg base k "_law_due" ["_law_value"] (spDue K))
    (Co : CalG P w K mg base k "_law_outcome" ["_law_value"] (spOut K)) :
    FnG P w K mg base CX0 (k + 1) f fd ["_law_value"] (spChk12 K C) := by
  refine okG F sc_Lcheck (fun vs H Q E h => ?_)
    (fun cv A outer s H vs Q E hr gd h => ?_)
  · obtain ⟨v, j, ls, x, rfl, _⟩ := h
    rfl
  obtain ⟨v, j, ls, x, rfl, jg, se, q⟩ := h
  have nd := sc_Lcheck.nd
  have hrn := hr.mono hn
  refine ⟨_, pss_cons (ps_par (i := 1) (j := 2) (by rfl) nd rfl rfl (by decide)
      rfl rfl (pa_cons (pe_cal Cd hr (pa_cons (pv 0) pa_nil)) (pa_cons
        (pe_callB (callR_or (call_reprX hr gd sm) (call_reprOwn Sr Gr hrn gd))
          (by rfl) B.repr bt_repr (pa_cons (pv 0) pa_nil)) pa_nil)) (by rfl))
    (pss_cons (ps_set (i := 3) nd rfl (.inl rfl)
      (pe_callB (call_reprX hr gd sm) (by rfl) B.repr bt_repr (pa_cons
        (pe_ifExp (pt_cmpR op_isN (pv 1) pe_non (nomark _))
          (pe_tup (pa_cons pe_str (pa_cons (pv 0) pa_nil))) (pv 1)) pa_nil)))
    (pss_one (ps_ret (pe_and
      (pe_cmpR op_eq (pe_calG Co hr gd (pa_cons (pv 0) pa_nil)) (pv 3)
        (nomark _))
      (pe_and
        (pe_cmpR op_eq (pe_calG Co hr gd (pa_cons (pv 0) pa_nil)) (pv 3)
          (nomark _))
        (pe_one (pe_cmpR op_eq
          (pe_callB (callR_or (call_reprX hr gd sm)
            (call_reprOwn Sr Gr hrn gd)) (by rfl) B.repr bt_repr
            (pa_cons (pv 0) pa_nil)) (pv 2) (nomark _)))))))), ?_⟩
  have shw := jg.shw
  refine ⟨_, rfl, jg.due (E := E0) (fun r hr' T H1 nT hT s1 => ?_) (fun hj H1 s1 => ?_)⟩
  · refine ⟨_, rfl, sees_go (se.same s1) ⟨_, _, rfl, ?_⟩⟩
    subst hr'
    refine ⟨_, rfl, rfl, _, rfl, iteF ⟨_, rfl, _, pairD r, rfl, .tup hT
      (.cons (.str _) (.cons (.int _) .nil)), shw.sh, shw.dp, shw.sz, ?_⟩⟩
    refine ⟨_, rfl, _, _, _, rfl, jg.same s1, fun H2 s2 => ?_⟩
    refine ⟨_, rfl, rfl, _, rfl, ?_⟩
    refine iteEq rfl ⟨_, rfl, _, _, _, rfl, jg.same (s1.trans s2), fun H3 s3 => ?_⟩
    refine ⟨_, rfl, rfl, _, rfl, ?_⟩
    refine iteEq rfl ⟨_, rfl, sees_go (se.same ((s1.trans s2).trans s3)) ⟨_, rfl, rfl,
      ?_⟩⟩
    rw [decide_eq_true (rfl : (V.str _) = V.str _)]
    exact q H3 ((s1.trans s2).trans s3)
  · refine ⟨_, rfl, sees_go (se.same s1) ⟨_, _, rfl, ?_⟩⟩
    subst hj
    cases jg with
    | good a b c =>
    rename_i av
    have jg := Jdg.good (K := K) a b c
    refine ⟨_, rfl, rfl, _, rfl, iteT ⟨_, rfl, two_le, fun t nt => ?_⟩⟩
    have sT : Same H (upd H1 t (.tup [.str "names", .ref av])) :=
      s1.trans (sameNew nt)
    refine ⟨_, namesD ls, rfl, .tup upd_same (.cons (.str _) (.cons
      (.lst (sT _ _ a) (dxs_N ls)) .nil)), shw.sh, shw.dp, shw.sz, ?_⟩
    refine ⟨_, rfl, _, _, _, rfl, jg.same sT, fun H2 s2 => ?_⟩
    refine ⟨_, rfl, rfl, _, rfl, ?_⟩
    refine iteEq rfl ⟨_, rfl, _, _, _, rfl, jg.same (sT.trans s2), fun H3 s3 => ?_⟩
    refine ⟨_, rfl, rfl, _, rfl, ?_⟩
    refine iteEq rfl ⟨_, rfl, sees_go (se.same ((sT.trans s2).trans s3)) ⟨_, rfl, rfl,
      ?_⟩⟩
    rw [decide_eq_true (rfl : (V.str _) = V.str _)]
    exact q H3 ((sT.trans s2).trans s3)
end
end OM
namespace OM
open PySem PySem.Spec PyProof.Rows L2
/-- one of the options -/
def spChoice (K : PySem.W.Frag) : Sp := fun vs H Q _ =>
  ∃ (p a : Addr) (xs : List V), vs = [.ref p, .ref a] ∧ Rng H p ∧
  SqL K H a xs ∧ a ≠ p ∧ 0 < xs.length ∧ xs.length ≤ 1000 ∧
  ∀ (x : V) (H' : Hp), x ∈ xs → Rng H' p → But p H H' → Q x H'
section
variable {P : Program} {w : World} {K : PySem.W.Frag}
  {mg : Str → Option Value} {base : Heap}
theorem ok_choice {f : Addr} {fd : FuncData} {k : Nat}
    (F : Fun K "_law_choice" "_law_choice" s_Lchoice f fd) (B : Bl mg)
    (Cd : CalDraw P w K mg base k) :
    FnOk P w K mg base CX0 (k + 1) f fd ["_law_rng_here", "_law_options"]
      (spChoice K) := by
  refine F.ok sc_Lchoice (fun vs H Q E h => ?_)
    (fun cv A outer s H vs Q E hr h => ?_)
  · obtain ⟨p, a, xs, rfl, _⟩ := h
    rfl
  obtain ⟨p, a, xs, rfl, rg, hS, nap, h0, h1, q⟩ := h
  refine ⟨_, pss_one (ps_ret (pe_ix ix_list (pv 1) (pe_cal Cd hr
    (pa_cons (pv 0) (pa_cons (pe_callB call_len_seq (by rfl) B.len
      PySem.boot_len (pa_cons (pv 1) pa_nil)) pa_nil))) (fun _ _ => rfl))), ?_⟩
  refine ⟨_, rfl, _, rfl, _, rfl, a, _, rfl, .inl hS, p, xs.length, rfl, rg,
    by omega, by omega, fun d H1 d0 d1 rg1 b1 => ?_⟩
  have hd : d.toNat < xs.length := by omega
  have ed : d = ((d.toNat : Nat) : Int) := by omega
  refine ⟨a, xs, d, xs[d.toNat], rfl, rfl, b1.seq hS nap, ?_,
    q _ H1 (List.getElem_mem hd) rg1 b1⟩
  have := atI_nat (List.getElem?_eq_getElem hd)
  rw [← ed] at this
  exact this
end
end OM
namespace OM
open PySem PySem.Spec PyProof.Rows L2
/-! ### values of many kinds -/
def okS (x : Str) : Bool := decide (x.cps.toList.length ≤ 9) &&
  x.cps.toList.all fun c => decide (c < 1114112)
inductive FlatE : V → Prop
  | non : FlatE .non
  | tru : FlatE (.bl true)
  | zer : FlatE (.int 0)
  | neg : FlatE (.int (-1))
  | str (x : Str) : okS x = true → FlatE (.str x)
inductive PlainO : HO → Bool → Prop
  | t0 : PlainO (.tup []) false
  | t1 : PlainO (.tup [.str "a"]) false
  | l0 : PlainO (.lst []) true
  | l1 : PlainO (.lst [.str "a"]) true
  | d0 : PlainO (.dK []) false
  | d1 : PlainO (.dK [(Sum.inr "a", .int 0)]) false
def EV (H : Hp) (v : V) : Prop :=
  FlatE v ∨ ∃ a o b, v = .ref a ∧ H a = some o ∧ PlainO o b
theorem EV.keep {H H' : Hp} {v : V} (e : EV H v)
    (k : ∀ a o b, H a = some o → PlainO o b → H' a = some o) : EV H' v := by
  rcases e with e | ⟨a, o, b, rfl, h, p⟩
  · exact .inl e
  · exact .inr ⟨a, o, b, rfl, k a o b h p, p⟩
theorem EV.same {H H' : Hp} {v : V} (e : EV H v) (s : Same H H') : EV H' v :=
  e.keep fun a o _ h _ => s a o h
theorem EV.but {H H' : Hp} {v : V} {p : Addr} (e : EV H v) (r : Rng H p)
    (s : But p H H') : EV H' v :=
  e.keep fun a o _ h pl => s a o h fun z => by
    subst z
    obtain ⟨i, j, e, _⟩ := r
    rw [e] at h
    cases h
    cases pl
theorem EV.elt {K : PySem.W.Frag} {H : Hp} {v : V} (e : EV H v) :
    Elt1 K H v := by
  rcases e with e | ⟨a, o, b, rfl, h, p⟩
  · cases e with
    | non => exact .inr ⟨_, .non, kit_ty (by decide +kernel), rfl⟩
    | tru => exact .inr ⟨_, .bl _, kit_ty (by decide +kernel), rfl⟩
    | zer => exact .inr ⟨_, .int _, kit_ty (by decide +kernel), rfl⟩
    | neg => exact .inr ⟨_, .int _, kit_ty (by decide +kernel), rfl⟩
    | str x h =>
      have h1 := of_decide_eq_true (Bool.and_eq_true_iff.mp h).1
      exact .inl ⟨x.cps.toList, by rw [vS, SX.S_tl], by omega⟩
  · cases p with
    | t0 => exact .inr ⟨_, .tup h, kit_ty (by decide +kernel), rfl⟩
    | t1 => exact .inr ⟨_, .tup h, kit_ty (by decide +kernel), rfl⟩
    | l0 => exact .inr ⟨_, .lst h, kit_ty (by decide +kernel), rfl⟩
    | l1 => exact .inr ⟨_, .lst h, kit_ty (by decide +kernel), rfl⟩
    | d0 => exact .inr ⟨_, .dK h, kit_ty (by decide +kernel), rfl⟩
    | d1 => exact .inr ⟨_, .dK h, kit_ty (by decide +kernel), rfl⟩
/-- no list -/
def OV (H : Hp) (v : V) : Prop :=
  FlatE v ∨ ∃ a o, v = .ref a ∧ H a = some o ∧ PlainO o false
theorem OV.ev {H : Hp} {v : V} (e : OV H v) : EV H v := by
  rcases e with e | ⟨a, o, rfl, h, p⟩
  · exact .inl e
  · exact .inr ⟨a, o, _, rfl, h, p⟩
theorem OV.but {H H' : Hp} {v : V} {p : Addr} (e : OV H v) (r : Rng H p)
    (s : But p H H') : OV H' v := by
  rcases e with e | ⟨a, o, rfl, h, pl⟩
  · exact .inl e
  · refine .inr ⟨a, o, rfl, s a o h fun z => ?_, pl⟩
    subst z
    obtain ⟨i, j, e, _⟩ := r
    rw [e] at h
    cases h
    cases pl
theorem OV.jdg {K : PySem.W.Frag} {H : Hp} {v : V} (e : OV H v) :
    Jdg K H v (some ("list", 0)) [] := by
  rcases e with e | ⟨a, o, rfl, h, p⟩
  · cases e with
    | non => exact .non .non (kit_ty (by decide +kernel))
    | tru => exact .non (.bl _) (kit_ty (by decide +kernel))
    | zer => exact .non (.int _) (kit_ty (by decide +kernel))
    | neg => exact .non (.int _) (kit_ty (by decide +kernel))
    | str x h => exact .non (.str _) (kit_ty (by decide +kernel))
  · cases p with
    | t0 => exact .non (.tup h) (kit_ty (by decide +kernel))
    | t1 => exact .non (.tup h) (kit_ty (by decide +kernel))
    | d0 => exact .non (.dK h) (kit_ty (by decide +kernel))
    | d1 => exact .non (.dK h) (kit_ty (by decide +kernel))
structure Small (d : PyData) : Prop where
  sh : d.showable = true
  dp : d.depth ≤ 3
  sz : d.shown.length ≤ 200
theorem EV.dx {H : Hp} {v : V} (e : EV H v) : ∃ d, DX H v d ∧ Small d := by
  rcases e with e | ⟨a, o, b, rfl, h, p⟩
  · cases e with
    | non => exact ⟨_, .non, by decide +kernel, by decide +kernel,
        by decide +kernel⟩
    | tru => exact ⟨_, .bl _, by decide +kernel, by decide +kernel,
        by decide +kernel⟩
    | zer => exact ⟨_, .int _, by decide +kernel, by decide +kernel,
        by decide +kernel⟩
    | neg => exact ⟨_, .int _, by decide +kernel, by decide +kernel,
        by decide +kernel⟩
    | str x h =>
      obtain ⟨h1, h2⟩ := Bool.and_eq_true_iff.mp h
      have h1 := of_decide_eq_true h1
      refine ⟨_, .str x, by simp only [PyData.showable],
        by simp only [PyData.depth]; omega, ?_⟩
      simp only [PyData.shown]
      have h3 := StrLaws.reprText_len x (fun c hc => Nat.lt_of_lt_of_le
        (of_decide_eq_true (List.all_eq_true.mp h2 c hc)) (by decide))
      have h4 : x.length = x.cps.toList.length := TL.len_tl x
      omega
  · cases p with
    | t0 => exact ⟨_, .tup h .nil, by decide +kernel, by decide +kernel,
        by decide +kernel⟩
    | t1 => exact ⟨_, .tup h (.cons (.str _) .nil), by decide +kernel,
        by decide +kernel, by decide +kernel⟩
    | l0 => exact ⟨_, .lst h .nil, by decide +kernel, by decide +kernel,
        by decide +kernel⟩
    | l1 => exact ⟨_, .lst h (.cons (.str _) .nil), by decide +kernel,
        by decide +kernel, by decide +kernel⟩
    | d0 => exact ⟨_, .d0 h, by decide +kernel, by decide +kernel,
        by decide +kernel⟩
    | d1 => exact ⟨_, .d1 h (.int _), by decide +kernel, by decide +kernel,
        by decide +kernel⟩
theorem Small.shw {d : PyData} (s : Small d) : Shw d :=
  ⟨s.sh, by have := s.dp; omega, Nat.le_trans s.sz (by decide)⟩
theorem dxs_ev {H : Hp} : ∀ xs : List V, (∀ x ∈ xs, EV H x) →
    ∃ ds, DXs H xs ds ∧ PyData.showableAll ds = true ∧
      PyData.depthAll ds ≤ 3 ∧ piled (PyData.shownAll ds) ≤ xs.length * 202
  | [], _ => ⟨[], .nil, by simp only [PyData.showableAll],
      by simp only [PyData.depthAll]; omega,
      by simp only [PyData.shownAll]; exact Nat.zero_le _⟩
  | x :: xs, h => by
    obtain ⟨d, a, b⟩ := (h x List.mem_cons_self).dx
    obtain ⟨ds, a', b1, b2, b3⟩ := dxs_ev xs
      fun y hy => h y (List.mem_cons_of_mem _ hy)
    refine ⟨d :: ds, .cons a a', ?_, ?_, ?_⟩
    · simp only [PyData.showableAll, b.sh, b1, Bool.and_self]
    · simp only [PyData.depthAll]
      have := b.dp
      omega
    · simp only [PyData.shownAll]
      rw [piled_cons, List.length_cons, Nat.add_mul]
      have := b.sz
      omega
theorem ev_sees {H : Hp} {C a : Addr} {xs : List V}
    (h : H a = some (.lst xs)) (e : ∀ x ∈ xs, EV H x)
    (n : xs.length ≤ 1000) : ∃ t, Sees C H (.ref a) t := by
  obtain ⟨ds, a', b1, b2, b3⟩ := dxs_ev xs e
  refine ⟨_, .dat (.lst h a') ⟨?_, ?_, ?_⟩⟩
  · simp only [PyData.showable]
    exact b1
  · simp only [PyData.depth]
    omega
  · simp only [PyData.shown]
    refine Nat.le_trans (listText_len_le _) (Nat.le_trans ?_ big_line)
    rw [sum2_piled]
    have := Nat.mul_le_mul_right 202 n
    omega
theorem ev_jdg {K : PySem.W.Frag} {H : Hp} {a : Addr} {xs : List V}
    (h : H a = some (.lst xs)) (e : ∀ x ∈ xs, EV H x)
    (n : xs.length ≤ 1000) : ∃ j ls, Jdg K H (.ref a) j ls := by
  have el : ∀ x ∈ xs, Elt1 K H x := fun x hx => (e x hx).elt
  cases hj : judge xs with
  | some r => exact ⟨_, _, .bad h el n hj⟩
  | none =>
    obtain ⟨ls, rfl, g⟩ := judge_none el hj
    exact ⟨_, _, .good h g hj⟩
def spInvalid : Sp := fun vs H Q _ => ∃ (p : Addr) (v : V),
  vs = [.ref p, v] ∧ Rng H p ∧
  ∀ x H', EV H' x → Rng H' p → But p H H' → Q x H'
def spSpoilt : Sp := fun vs H Q _ => ∃ (p a : Addr) (xs : List V),
  vs = [.ref p, .ref a] ∧ Rng H p ∧ a ≠ p ∧ H a = some (.lst xs) ∧
  (∀ x ∈ xs, EV H x) ∧ xs.length ≤ 100 ∧
  ∀ b ys H', H b = none → H' b = some (.lst ys) → (∀ y ∈ ys, EV H' y) →
    ys.length ≤ xs.length + 2 → Rng H' p → But p H H' → Q (.ref b) H'
section
variable {P : Program} {w : World} {K : PySem.W.Frag}
  {mg : Str → Option Value} {base : Heap}
theorem ok_invalid {f : Addr} {fd : FuncData} {k : Nat}
    (F : Fun K "_law_invalid_name" "_law_invalid_name" s_Linvalid_name f fd)
    (Cc : Cal P w K mg base k "_law_choice" ["_law_rng_here", "_law_options"]
      (spChoice K)) :
    FnOk P w K mg base CX0 (k + 1) f fd ["_law_rng_here", "_law_items"]
      spInvalid := by
  refine F.ok sc_Linvalid_name (fun vs H Q E h => ?_)
    (fun cv A outer s H vs Q E hr h => ?_)
  · obtain ⟨p, v, rfl, _⟩ := h
    rfl
  obtain ⟨p, v, rfl, rg, q⟩ := h
  have nd := sc_Linvalid_name.nd
  refine ⟨_, pss_cons (ps_set (i := 2) nd rfl (.inl rfl) (pe_lst
      (pa_cons pe_non (pa_cons pe_int (pa_cons pe_bl (pa_cons pe_str
      (pa_cons pe_str (pa_cons pe_str (pa_cons pe_str
      (pa_cons (pe_tup pa_nil) (pa_cons (pe_lst pa_nil) (pa_cons pe_dnewK
      (pa_cons (pe_lst (pa_cons pe_str pa_nil))
      (pa_cons (pe_tup (pa_cons pe_str pa_nil))
      (pa_cons pe_str (pa_cons pe_str
      (pa_cons (pe_disp (pps_cons pe_str pe_int pps_nil) (by rfl) (by rfl)
        (fun z => by cases z) (by decide))
      (pa_cons (pe_un un_neg pe_int) pa_nil))))))))))))))))))
    (pss_one (ps_ret (pe_cal Cc hr (pa_cons (pv 0) (pa_cons (pv 2)
      pa_nil))))), ?_⟩
  refine ⟨by decide, fun p1 n1 => ?_⟩
  have s1 := sameNew (o := .tup []) n1
  have e1 : EV (upd H p1 (.tup [])) (.ref p1) :=
    .inr ⟨_, _, _, rfl, upd_same, .t0⟩
  generalize upd H p1 (.tup []) = H1 at s1 e1 ⊢
  refine ⟨by decide, fun p2 n2 => ?_⟩
  have s2 := s1.trans (sameNew (o := .lst []) n2)
  have e2 : EV (upd H1 p2 (.lst [])) (.ref p2) :=
    .inr ⟨_, _, _, rfl, upd_same, .l0⟩
  replace e1 := e1.same (sameNew (o := .lst []) n2)
  generalize upd H1 p2 (.lst []) = H2 at s2 e1 e2 ⊢
  intro p3 n3
  have s3 := s2.trans (sameNew (o := .dK []) n3)
  have e3 : EV (upd H2 p3 (.dK [])) (.ref p3) :=
    .inr ⟨_, _, _, rfl, upd_same, .d0⟩
  replace e1 := e1.same (sameNew (o := .dK []) n3)
  replace e2 := e2.same (sameNew (o := .dK []) n3)
  generalize upd H2 p3 (.dK []) = H3 at s3 e1 e2 e3 ⊢
  refine ⟨by decide, fun p4 n4 => ?_⟩
  have s4 := s3.trans (sameNew (o := .lst [.str "a"]) n4)
  have e4 : EV (upd H3 p4 (.lst [.str "a"])) (.ref p4) :=
    .inr ⟨_, _, _, rfl, upd_same, .l1⟩
  replace e1 := e1.same (sameNew (o := .lst [.str "a"]) n4)
  replace e2 := e2.same (sameNew (o := .lst [.str "a"]) n4)
  replace e3 := e3.same (sameNew (o := .lst [.str "a"]) n4)
  generalize upd H3 p4 (.lst [.str "a"]) = H4 at s4 e1 e2 e3 e4 ⊢
  refine ⟨by decide, fun p5 n5 => ?_⟩
  have s5 := s4.trans (sameNew (o := .tup [.str "a"]) n5)
  have e5 : EV (upd H4 p5 (.tup [.str "a"])) (.ref p5) :=
    .inr ⟨_, _, _, rfl, upd_same, .t1⟩
  replace e1 := e1.same (sameNew (o := .tup [.str "a"]) n5)
  replace e2 := e2.same (sameNew (o := .tup [.str "a"]) n5)
  replace e3 := e3.same (sameNew (o := .tup [.str "a"]) n5)
  replace e4 := e4.same (sameNew (o := .tup [.str "a"]) n5)
  generalize upd H4 p5 (.tup [.str "a"]) = H5 at s5 e1 e2 e3 e4 e5 ⊢
  intro p6 n6
  refine ⟨upd_same, [(Sum.inr "a", .int 0)], rfl, by decide, 1, rfl, ?_⟩
  have t6 : Same H5 (upd (upd H5 p6 (.dK [])) p6
      (.dK (mergeK [] [(Sum.inr "a", .int 0)]))) :=
    OM.Same.put (sameNew n6) n6
  have e6 : EV (upd (upd H5 p6 (.dK [])) p6
      (.dK (mergeK [] [(Sum.inr "a", .int 0)]))) (.ref p6) :=
    .inr ⟨_, _, _, rfl, upd_same, .d1⟩
  have s6 := s5.trans t6
  replace e1 := e1.same t6
  replace e2 := e2.same t6
  replace e3 := e3.same t6
  replace e4 := e4.same t6
  replace e5 := e5.same t6
  generalize upd (upd H5 p6 (.dK [])) p6
      (.dK (mergeK [] [(Sum.inr "a", .int 0)])) = H6 at s6 e1 e2 e3 e4 e5 e6 ⊢
  refine ⟨by show 16 ≤ sizeLine; decide, fun p7 n7 => ?_⟩
  have rg6 := rg.same s6
  have n7p := rg6.ne n7
  refine ⟨_, rfl, _, rfl, p, p7, _, rfl, rg6.same (sameNew n7),
    SqL.of upd_same, n7p.symm, by show 0 < 16; decide, by show 16 ≤ 1000; decide,
    fun x H' hx rg' b' => ?_⟩
  have bb : But p H6 H' := fun a o ha na =>
    b' a o (by rw [upd_ne (ne_of_none ha n7)]; exact ha) na
  refine q x H' (EV.but (H := H6) ?_ rg6 bb) rg' ((But.of s6).trans bb)
  simp only [List.mem_cons, List.not_mem_nil, or_false] at hx
  rcases hx with rfl | rfl | rfl | rfl | rfl | rfl | rfl | rfl | rfl | rfl |
    rfl | rfl | rfl | rfl | rfl | rfl
  · exact .inl .non
  · exact .inl .zer
  · exact .inl .tru
  · exact .inl (.str _ (by decide +kernel))
  · exact .inl (.str _ (by decide +kernel))
  · exact .inl (.str _ (by decide +kernel))
  · exact .inl (.str _ (by decide +kernel))
  · exact e1
  · exact e2
  · exact e3
  · exact e4
  · exact e5
  · exact .inl (.str _ (by decide +kernel))
  · exact .inl (.str _ (by decide +kernel))
  · exact e6
  · exact .inl .neg
theorem ok_spoilt {f : Addr} {fd : FuncData} {k : Nat}
    (F : Fun K "_law_spoilt" "_law_spoilt" s_Lspoilt f fd) (B : Bl mg)
    (Cd : CalDraw P w K mg base k)
    (Ci : Cal P w K mg base k "_law_invalid_name"
      ["_law_rng_here", "_law_items"] spInvalid) :
    FnOk P w K mg base CX0 (k + 1) f fd ["_law_rng_here", "_law_items"]
      spSpoilt := by
  refine F.ok sc_Lspoilt (fun vs H Q E h => ?_)
    (fun cv A outer s H vs Q E hr h => ?_)
  · obtain ⟨p, a, xs, rfl, _⟩ := h
    rfl
  obtain ⟨p, a, xs, rfl, rg, nap, ha, ev, hx, q⟩ := h
  have nd := sc_Lspoilt.nd
  refine ⟨_, pss_cons (ps_if (pt_cmpR (op_eqNil hr) (pv 1) (pe_lst pa_nil)
        (nomark _))
      (pss_one (ps_ret (pe_ix ix_list (pe_lst (pa_cons (pe_lst pa_nil)
        (pa_cons (pe_lst (pa_cons pe_str (pa_cons pe_str pa_nil)))
        (pa_cons (pe_lst (pa_cons pe_non pa_nil))
        (pa_cons (pe_lst (pa_cons pe_str pa_nil)) pa_nil)))))
        (pe_cal Cd hr (pa_cons (pv 0) (pa_cons pe_int pa_nil)))
        (fun _ _ => rfl)))) pss_nil)
    (pss_cons (ps_par (i := 2) (j := 3) (by rfl) nd rfl rfl (by decide) rfl rfl
      (pa_cons (pe_cal Cd hr (pa_cons (pv 0) (pa_cons
          (pe_callB call_len_seq (by rfl) B.len PySem.boot_len
            (pa_cons (pv 1) pa_nil)) pa_nil)))
        (pa_cons (pe_cal Cd hr (pa_cons (pv 0) (pa_cons pe_int pa_nil)))
          pa_nil)) (by rfl))
    (pss_cons (ps_set (i := 4) nd rfl (.inl rfl) (pe_mid (pe_ifExp
        (pt_cmpR op_eq (pv 3) pe_int (nomark _))
        (pe_cal Ci hr (pa_cons (pv 0) (pa_cons (pv 1) pa_nil)))
        (pe_ix ix_list (pv 1) (pe_cal Cd hr (pa_cons (pv 0) (pa_cons
          (pe_callB call_len_seq (by rfl) B.len PySem.boot_len
            (pa_cons (pv 1) pa_nil)) pa_nil))) (fun _ _ => rfl)))))
    (pss_cons (ps_if (pt_cmpR op_eq (pv 3) pe_int (nomark _))
      (pss_one (ps_ret (pe_op op_cat (pe_op op_cat
        (pe_slice sl_list (pv 1) po_none (po_some (pv 2)))
        (pe_lst (pa_cons (pv 4) pa_nil)))
        (pe_slice sl_list (pv 1) (po_some (pv 2)) po_none)))) pss_nil)
    (pss_one (ps_ret (pe_op op_cat (pe_op op_cat
        (pe_slice sl_list (pv 1) po_none (po_some (pv 2)))
        (pe_lst (pa_cons (pv 4) pa_nil)))
        (pe_slice sl_list (pv 1) (po_some (pe_op op_add (pv 2) pe_int))
          po_none))))))), ?_⟩
  refine ⟨_, rfl, by decide, fun p0 n0 => ?_⟩
  have na0 : a ≠ p0 := ne_of_none ha n0
  refine ⟨a, p0, xs, rfl, rfl, by rw [upd_ne na0]; exact ha, upd_same, _, rfl,
    ?_⟩
  have s0 := sameNew (o := .lst []) n0
  generalize upd H p0 (.lst []) = H0 at s0 ⊢
  cases xs with
  | nil =>
    have rg0 := rg.same s0
    refine iteT ?_
    refine ⟨by decide, fun q1 m1 => ?_⟩
    have t1 := s0.trans (sameNew (o := .lst []) m1)
    have f1 : (upd H0 q1 (.lst [])) q1 = some (.lst []) := upd_same
    have r1 := rg0.ne m1
    replace m1 := s0.free m1
    generalize upd H0 q1 (.lst []) = H1 at t1 f1 ⊢
    refine ⟨by decide, fun q2 m2 => ?_⟩
    have t2 := t1.trans (sameNew (o := .lst [.str "a", .str "a"]) m2)
    have f2 : (upd H1 q2 (.lst [.str "a", .str "a"])) q2 =
      some (.lst [.str "a", .str "a"]) := upd_same
    replace f1 := sameNew (o := .lst [.str "a", .str "a"]) m2 _ _ f1
    have r2 := (rg.same t1).ne m2
    replace m2 := t1.free m2
    generalize upd H1 q2 (.lst [.str "a", .str "a"]) = H2 at t2 f1 f2 ⊢
    refine ⟨by decide, fun q3 m3 => ?_⟩
    have t3 := t2.trans (sameNew (o := .lst [.non]) m3)
    have f3 : (upd H2 q3 (.lst [.non])) q3 = some (.lst [.non]) := upd_same
    replace f1 := sameNew (o := .lst [.non]) m3 _ _ f1
    replace f2 := sameNew (o := .lst [.non]) m3 _ _ f2
    have r3 := (rg.same t2).ne m3
    replace m3 := t2.free m3
    generalize upd H2 q3 (.lst [.non]) = H3 at t3 f1 f2 f3 ⊢
    refine ⟨by decide, fun q4 m4 => ?_⟩
    have t4 := t3.trans (sameNew (o := .lst [.str "A"]) m4)
    have f4 : (upd H3 q4 (.lst [.str "A"])) q4 = some (.lst [.str "A"]) :=
      upd_same
    replace f1 := sameNew (o := .lst [.str "A"]) m4 _ _ f1
    replace f2 := sameNew (o := .lst [.str "A"]) m4 _ _ f2
    replace f3 := sameNew (o := .lst [.str "A"]) m4 _ _ f3
    have r4 := (rg.same t3).ne m4
    replace m4 := t3.free m4
    generalize upd H3 q4 (.lst [.str "A"]) = H4 at t4 f1 f2 f3 f4 ⊢
    refine ⟨by show 4 ≤ sizeLine; decide, fun q5 m5 => ?_⟩
    have t5 := t4.trans (sameNew (o := .lst [.ref q1, .ref q2, .ref q3,
      .ref q4]) m5)
    replace f1 := sameNew (o := .lst [.ref q1, .ref q2, .ref q3,
      .ref q4]) m5 _ _ f1
    replace f2 := sameNew (o := .lst [.ref q1, .ref q2, .ref q3,
      .ref q4]) m5 _ _ f2
    replace f3 := sameNew (o := .lst [.ref q1, .ref q2, .ref q3,
      .ref q4]) m5 _ _ f3
    replace f4 := sameNew (o := .lst [.ref q1, .ref q2, .ref q3,
      .ref q4]) m5 _ _ f4
    have f5 : (upd H4 q5 (.lst [.ref q1, .ref q2, .ref q3, .ref q4])) q5 =
      some (.lst [.ref q1, .ref q2, .ref q3, .ref q4]) := upd_same
    have r5 := (rg.same t4).ne m5
    generalize upd H4 q5 (.lst [.ref q1, .ref q2, .ref q3,
      .ref q4]) = H5 at t5 f1 f2 f3 f4 f5 ⊢
    refine ⟨_, rfl, p, 4, rfl, rg.same t5, by decide, by decide,
      fun d H6 d0 d1 rg6 b6 => ?_⟩
    have bf : But p H H6 := (But.of t5).trans b6
    have e : ∃ v, atI [V.ref q1, V.ref q2, V.ref q3, V.ref q4] d = some v ∧
        Q v H6 := by
      have e : d = 0 ∨ d = 1 ∨ d = 2 ∨ d = 3 := by omega
      rcases e with rfl | rfl | rfl | rfl
      · exact ⟨_, rfl, q q1 _ H6 m1 (b6 _ _ f1 r1.symm) nofun
          (by show 0 ≤ _; omega) rg6 bf⟩
      · refine ⟨_, rfl, q q2 _ H6 m2 (b6 _ _ f2 r2.symm) (fun y hy => ?_)
          (by show 2 ≤ _; omega) rg6 bf⟩
        simp only [List.mem_cons, List.not_mem_nil, or_false, or_self] at hy
        subst hy
        exact .inl (.str _ (by decide +kernel))
      · refine ⟨_, rfl, q q3 _ H6 m3 (b6 _ _ f3 r3.symm) (fun y hy => ?_)
          (by show 1 ≤ _; omega) rg6 bf⟩
        simp only [List.mem_cons, List.not_mem_nil, or_false] at hy
        subst hy
        exact .inl .non
      · refine ⟨_, rfl, q q4 _ H6 m4 (b6 _ _ f4 r4.symm) (fun y hy => ?_)
          (by show 1 ≤ _; omega) rg6 bf⟩
        simp only [List.mem_cons, List.not_mem_nil, or_false] at hy
        subst hy
        exact .inl (.str _ (by decide +kernel))
    obtain ⟨v, ea, qa⟩ := e
    exact ⟨q5, _, d, v, rfl, rfl, SqL.of (b6 _ _ f5 r5.symm), ea, qa⟩
  | cons x0 xr =>
  refine iteF ?_
  have hl : 0 < (x0 :: xr).length := by rw [List.length_cons]; omega
  generalize x0 :: xr = xs at ha ev hx q hl ⊢
  have rg0 := rg.same s0
  have h0 := s0 _ _ ha
  refine ⟨_, rfl, _, rfl, a, _, rfl, .inl (SqL.of h0), p, xs.length, rfl, rg0,
    by omega, by omega, fun d1 H1 c0 c1 rg1 b1 => ⟨_, rfl, p, 3, rfl, rg1,
    by decide, by decide, fun d2 H2 e0 e1 rg2 b2 => ⟨_, _, rfl, ?_⟩⟩⟩
  obtain ⟨m, rfl⟩ : ∃ m : Nat, d1 = m := ⟨d1.toNat, by omega⟩
  have bb : But p H H2 := (But.of s0).trans (b1.trans b2)
  have h2 := bb _ _ ha nap
  refine ⟨fun v H' => EV H' v ∧ Rng H' p ∧ But p H2 H', ?_, ?_⟩
  · refine ⟨_, rfl, rfl, _, rfl, ite2 (fun c => ?_) (fun c => ?_)⟩
    · exact ⟨_, rfl, _, rfl, p, _, rfl, rg2, fun x H' e r b => ⟨e, r, b⟩⟩
    · refine ⟨_, rfl, _, rfl, _, rfl, a, _, rfl, .inl (SqL.of h2), p, xs.length,
        rfl, rg2, by omega, by omega, fun d H3 g0 g1 rg3 b3 => ?_⟩
      have hd : d.toNat < xs.length := by omega
      have ed : d = ((d.toNat : Nat) : Int) := by omega
      refine ⟨a, xs, d, xs[d.toNat], rfl, rfl, SqL.of (b3 _ _ h2 nap), ?_,
        ((ev _ (List.getElem_mem hd)).but rg bb).but rg2 b3, rg3, b3⟩
      have := atI_nat (List.getElem?_eq_getElem hd)
      rw [← ed] at this
      exact this
  rintro v H3 ⟨ev3, rg3, b3⟩
  have b03 : But p H H3 := bb.trans b3
  have h3 := b03 _ _ ha nap
  have evs : ∀ x ∈ xs, EV H3 x := fun x hx => (ev x hx).but rg b03
  have hm : m ≤ xs.length := by omega
  -- the same for both ways
  have fin : ∀ (t : Addr) (n : Nat) (H4 : Hp), m ≤ n → Same H3 H4 →
      H4 t = none →
      Q (.ref t) (upd H4 t (.lst (xs.take m ++ [v] ++ xs.drop n))) := by
    intro t n H4 mn s4 nt
    have rg4 := rg3.same s4
    have ntp := rg4.ne nt
    have b4 : But p H H4 := b03.trans (But.of s4)
    refine q t _ _ (b4.free ntp.symm nt) upd_same (fun y hy => ?_) ?_
      (rg4.same (sameNew nt)) (b4.put nt ntp.symm)
    · refine EV.same (H := H3) ?_ (s4.trans (sameNew nt))
      rcases List.mem_append.mp hy with hy | hy
      · rcases List.mem_append.mp hy with hy | hy
        · exact evs y (List.mem_of_mem_take hy)
        · rw [List.mem_singleton.mp hy]
          exact ev3
      · exact evs y (List.mem_of_mem_drop hy)
    · rw [List.length_append, List.length_append, List.length_take,
        List.length_drop, List.length_singleton]
      omega
  refine ⟨_, rfl, rfl, _, rfl, ite2 (fun c => ?_) (fun c => ?_)⟩
  · refine ⟨_, rfl, _, rfl, m, rfl, a, _, rfl, SqL.of h3, fun t1 nt1 => ?_⟩
    rw [cut_to _ hm]
    have s4 := sameNew (o := .lst (xs.take m)) nt1
    have g1 : (upd H3 t1 (.lst (xs.take m))) t1 = some (.lst (xs.take m)) :=
      upd_same
    generalize upd H3 t1 (.lst (xs.take m)) = H4 at s4 g1 ⊢
    refine ⟨_, rfl, by show 1 ≤ sizeLine; decide, fun t2 nt2 => ?_⟩
    have s5 := s4.trans (sameNew (o := .lst [v]) nt2)
    replace g1 := sameNew (o := .lst [v]) nt2 _ _ g1
    have g2 : (upd H4 t2 (.lst [v])) t2 = some (.lst [v]) := upd_same
    generalize upd H4 t2 (.lst [v]) = H5 at s5 g1 g2 ⊢
    refine ⟨t1, t2, _, _, rfl, rfl, g1, g2, ?_, fun t3 nt3 => ?_⟩
    · rw [List.length_take, List.length_singleton]
      exact sz (by omega)
    have s6 := s5.trans (sameNew (o := .lst (xs.take m ++ [v])) nt3)
    have g3 : (upd H5 t3 (.lst (xs.take m ++ [v]))) t3 =
      some (.lst (xs.take m ++ [v])) := upd_same
    generalize upd H5 t3 (.lst (xs.take m ++ [v])) = H6 at s6 g3 ⊢
    refine ⟨_, rfl, _, rfl, m, rfl, a, _, rfl, SqL.of (s6 _ _ h3), fun t4 nt4 => ?_⟩
    rw [cut_from _ hm]
    have s7 := s6.trans (sameNew (o := .lst (xs.drop m)) nt4)
    replace g3 := sameNew (o := .lst (xs.drop m)) nt4 _ _ g3
    have g4 : (upd H6 t4 (.lst (xs.drop m))) t4 =
      some (.lst (xs.drop m)) := upd_same
    generalize upd H6 t4 (.lst (xs.drop m)) = H7 at s7 g3 g4 ⊢
    refine ⟨t3, t4, _, _, rfl, rfl, g3, g4, ?_, fun t5 nt5 => ?_⟩
    · rw [List.length_append, List.length_take,
        List.length_singleton, List.length_drop]
      exact sz (by omega)
    exact fin t5 _ H7 (by omega) s7 nt5
  · refine ⟨_, rfl, _, rfl, m, rfl, a, _, rfl, SqL.of h3, fun t1 nt1 => ?_⟩
    rw [cut_to _ hm]
    have s4 := sameNew (o := .lst (xs.take m)) nt1
    have g1 : (upd H3 t1 (.lst (xs.take m))) t1 = some (.lst (xs.take m)) :=
      upd_same
    generalize upd H3 t1 (.lst (xs.take m)) = H4 at s4 g1 ⊢
    refine ⟨_, rfl, by show 1 ≤ sizeLine; decide, fun t2 nt2 => ?_⟩
    have s5 := s4.trans (sameNew (o := .lst [v]) nt2)
    replace g1 := sameNew (o := .lst [v]) nt2 _ _ g1
    have g2 : (upd H4 t2 (.lst [v])) t2 = some (.lst [v]) := upd_same
    generalize upd H4 t2 (.lst [v]) = H5 at s5 g1 g2 ⊢
    refine ⟨t1, t2, _, _, rfl, rfl, g1, g2, ?_, fun t3 nt3 => ?_⟩
    · rw [List.length_take, List.length_singleton]
      exact sz (by omega)
    have s6 := s5.trans (sameNew (o := .lst (xs.take m ++ [v])) nt3)
    have g3 : (upd H5 t3 (.lst (xs.take m ++ [v]))) t3 =
      some (.lst (xs.take m ++ [v])) := upd_same
    generalize upd H5 t3 (.lst (xs.take m ++ [v])) = H6 at s6 g3 ⊢
    refine ⟨_, rfl, _, rfl, _, _, rfl, rfl, ((m + 1 : Nat) : Int), rfl, a, _, rfl, SqL.of (s6 _ _ h3), fun t4 nt4 => ?_⟩
    rw [cut_from _ (show m + 1 ≤ xs.length by omega)]
    have s7 := s6.trans (sameNew (o := .lst (xs.drop (m + 1))) nt4)
    replace g3 := sameNew (o := .lst (xs.drop (m + 1))) nt4 _ _ g3
    have g4 : (upd H6 t4 (.lst (xs.drop (m + 1)))) t4 =
      some (.lst (xs.drop (m + 1))) := upd_same
    generalize upd H6 t4 (.lst (xs.drop (m + 1))) = H7 at s7 g3 g4 ⊢
    refine ⟨t3, t4, _, _, rfl, rfl, g3, g4, ?_, fun t5 nt5 => ?_⟩
    · rw [List.length_append, List.length_take,
        List.length_singleton, List.length_drop]
      exact sz (by omega)
    exact fin t5 _ H7 (by omega) s7 nt5
end
end OM
namespace OM
open PySem PySem.Spec PyProof.Rows L2
def spLaw (K : PySem.W.Frag) : Sp := fun vs H Q _ =>
  ∃ (a : Addr) (ns : List Int), vs = [.ref a] ∧ SqL K H a (ns.map V.int) ∧
  ns.length ≤ 63 ∧ ∀ H', Q (.bl true) H'
theorem at3 {α : Type} {P : α → Prop} {a b c : α} {i : Int}
    (h0 : 0 ≤ i) (h1 : i < 3) (pa : P a) (pb : P b) (pc : P c) :
    ∃ v, atI [a, b, c] i = some v ∧ P v := by
  have e : i = 0 ∨ i = 1 ∨ i = 2 := by omega
  rcases e with rfl | rfl | rfl
  · exact ⟨a, rfl, pa⟩
  · exact ⟨b, rfl, pb⟩
  · exact ⟨c, rfl, pc⟩
theorem nm_ok {l : List Nat} (n : Nm l) : okS (SX.S l) = true := by
  refine Bool.and_eq_true_iff.mpr ⟨decide_eq_true ?_, ?_⟩
  · show l.length ≤ 9
    have := n.hi
    omega
  · rw [List.all_eq_true]
    intro c hc
    exact decide_eq_true (n.uni c hc)
theorem ev_names {H : Hp} {ls : List (List Nat)} (h : ∀ l ∈ ls, Nm l) :
    ∀ x ∈ ls.map vS, EV H x := fun x hx => by
  obtain ⟨l, hl, rfl⟩ := List.mem_map.mp hx
  exact .inl (.str _ (nm_ok (h l hl)))
theorem good_a : Good [[97]] := by
  refine ⟨fun l h => ?_, by simp, by decide, by decide⟩
  rw [List.mem_singleton.mp h]
  exact nmB_iff.mp (by decide +kernel)
structure EL (H : Hp) (r : Addr) (n : Nat) : Prop where
  ex : ∃ xs, H r = some (.lst xs) ∧ (∀ x ∈ xs, EV H x) ∧ xs.length ≤ n
theorem EL.same {H H' : Hp} {r : Addr} {n : Nat} (e : EL H r n)
    (s : Same H H') : EL H' r n := by
  obtain ⟨xs, a, b, c⟩ := e.ex
  exact ⟨xs, s _ _ a, fun x hx => (b x hx).same s, c⟩
theorem EL.but {H H' : Hp} {r p : Addr} {n : Nat} (e : EL H r n) (rg : Rng H p)
    (s : But p H H') (ne : r ≠ p) : EL H' r n := by
  obtain ⟨xs, a, b, c⟩ := e.ex
  exact ⟨xs, s _ _ a ne, fun x hx => (b x hx).but rg s, c⟩
theorem EL.put {H : Hp} {r vl y : Addr} {n : Nat} {ys : List V} {o : HO}
    (e : EL H r n) (hv : H vl = some (.lst (.ref y :: ys))) (ne : r ≠ vl) :
    EL (upd H vl o) r n := by
  obtain ⟨xs, a, b, c⟩ := e.ex
  refine ⟨xs, by rw [upd_ne ne]; exact a, fun x hx => (b x hx).keep
    fun q u z h pl => ?_, c⟩
  rw [upd_ne]
  · exact h
  · intro eq
    subst eq
    rw [hv] at h
    cases h
    cases pl
structure Vs (H : Hp) (p vl : Addr) (rs : List Addr) : Prop where
  rg : Rng H p
  hv : H vl = some (.lst (rs.map V.ref))
  vp : vl ≠ p
  ne : rs ≠ []
  el : ∀ r ∈ rs, r ≠ p ∧ r ≠ vl ∧ EL H r 100
theorem Vs.same {H H' : Hp} {p vl : Addr} {rs : List Addr}
    (v : Vs H p vl rs) (s : Same H H') : Vs H' p vl rs :=
  ⟨v.rg.same s, s _ _ v.hv, v.vp, v.ne, fun r hr =>
    ⟨(v.el r hr).1, (v.el r hr).2.1, (v.el r hr).2.2.same s⟩⟩
theorem Vs.but {H H' : Hp} {p vl : Addr} {rs : List Addr}
    (v : Vs H p vl rs) (s : But p H H') (rg : Rng H' p) : Vs H' p vl rs :=
  ⟨rg, s _ _ v.hv v.vp, v.vp, v.ne, fun r hr =>
    ⟨(v.el r hr).1, (v.el r hr).2.1,
      (v.el r hr).2.2.but v.rg s (v.el r hr).1⟩⟩
theorem Vs.push {H : Hp} {p vl b : Addr} {rs : List Addr} {n : Nat}
    (v : Vs H p vl rs) (hb : EL H b n) (nbp : b ≠ p) (nbv : b ≠ vl)
    (hn : n ≤ 100) :
    Vs (upd H vl (.lst (rs.map V.ref ++ [.ref b]))) p vl (rs ++ [b]) ∧
    EL (upd H vl (.lst (rs.map V.ref ++ [.ref b]))) b n := by
  obtain ⟨r0, rr, e0⟩ : ∃ r0 rr, rs = r0 :: rr := by
    cases h : rs with
    | nil => exact absurd h v.ne
    | cons a b => exact ⟨a, b, rfl⟩
  have hv : H vl = some (.lst (.ref r0 :: rr.map V.ref)) := by
    rw [v.hv, e0]; rfl
  have eb := hb.put (o := .lst (rs.map V.ref ++ [.ref b])) hv nbv
  refine ⟨⟨?_, ?_, v.vp, by simp, fun r hr => ?_⟩, eb⟩
  · obtain ⟨i, j, e, z⟩ := v.rg
    exact ⟨i, j, by rw [upd_ne v.vp.symm]; exact e, z⟩
  · rw [upd_same, List.map_append]
    rfl
  · rcases List.mem_append.mp hr with hr | hr
    · obtain ⟨a, b', c⟩ := v.el r hr
      exact ⟨a, b', c.put hv b'⟩
    · rw [List.mem_singleton.mp hr]
      obtain ⟨xs, h1, h2, h3⟩ := eb.ex
      exact ⟨nbp, nbv, xs, h1, h2, by omega⟩
section
variable {P : Program} {w : World} {K : PySem.W.Frag}
  {mg : Str → Option Value} {base : Heap} {C CI : Addr}
theorem ok_law12 {f : Addr} {fd : FuncData} {k : Nat}
    (F : Fun K "law" "law" s_law f fd)
    (B : Bl mg) (T : BC K mg C)
    (kL : PySem.W.kitOne K (.ref C) (.type "list") = some false)
    (Cr : Cal P w K mg base k "_law_rng" ["_law_script", "_law_k"] (spRng K))
    (Cd : CalDraw P w K mg base k)
    (Cn : Cal P w K mg base k "_law_names"
      ["_law_rng_here", "_law_many", "_law_used"] spNames)
    (Cs : Cal P w K mg base k "_law_spoilt" ["_law_rng_here", "_law_items"]
      spSpoilt)
    (Cc : Cal P w K mg base k "_law_choice" ["_law_rng_here", "_law_options"]
      (spChoice K))
    (Mb : CalCX P w K mg base C k "Base" ["self", "items"] (spInitX K C CI))
    (Ck : CalG P w K mg base k "_law_check" ["_law_value"] (spChk12 K C)) :
    FnG P w K mg base CX0 (k + 2) f fd ["_law_script"] (spLaw K) := by
  refine okG F sc_law (fun vs H Q E h => ?_)
    (fun cv A outer s H vs Q E hr1 gd h => ?_)
  · obtain ⟨a, ns, rfl, _⟩ := h
    rfl
  obtain ⟨a, ns, rfl, hS, hlen, q⟩ := h
  have nd := sc_law.nd
  have hr := hr1.mono (Nat.le_succ k)
  refine ⟨_, pss_cons (ps_for PassesOwn.never rfl
      (pi_range1 (by rfl) B.range (pa_cons
        (pe_callB (call_max2 rfl) (by rfl) B.max bt_max (pa_cons pe_int (pa_cons
          (pe_callB (call_min2 rfl) (by rfl) B.min bt_min (pa_cons
            (pe_callB call_len_seq (by rfl) B.len PySem.boot_len
              (pa_cons (pv 0) pa_nil)) (pa_cons pe_int pa_nil))) pa_nil)))
        pa_nil))
      (pg_name (i := 1) nd rfl (.inl rfl))
      (C8.pss_cut (ps_set (i := 2) nd rfl (.inl rfl)
        (pe_cal Cr hr (pa_cons (pv 0) (pa_cons (pv 1) pa_nil))))
      (C8.pss_cut (ps_set (i := 3) nd rfl (.inl rfl)
        (pe_ix ix_list (pe_lst (pa_cons
          (pe_cal Cd hr (pa_cons (pv 2) (pa_cons pe_int pa_nil)))
          (pa_cons (pe_cal Cd hr (pa_cons (pv 2) (pa_cons pe_int pa_nil)))
          (pa_cons (pe_op op_add pe_int (pe_cal Cd hr (pa_cons (pv 2)
              (pa_cons pe_int pa_nil)))) pa_nil))))
          (pe_cal Cd hr (pa_cons (pv 2) (pa_cons pe_int pa_nil)))
          (fun _ _ => rfl)))
      (C8.pss_cut (ps_set (i := 4) nd rfl (.inl rfl)
        (pe_cal Cn hr (pa_cons (pv 2) (pa_cons (pv 3)
          (pa_cons (pe_lst pa_nil) pa_nil)))))
      (C8.pss_cut (ps_set (i := 5) nd rfl (.inl rfl)
        (pe_lst (pa_cons (pe_callTy call_list_of (by rfl) B.list bt_list
          (pa_cons (pv 4) pa_nil)) pa_nil)))
      (C8.pss_cut (ps_for PassesOwn.never rfl
          (pi_range1 (by rfl) B.range (pa_cons pe_int pa_nil))
          (pg_name (i := 6) nd rfl (.inl rfl))
          (pss_cons (ps_set (i := 4) nd rfl (.inl rfl)
            (pe_cal Cs hr (pa_cons (pv 2) (pa_cons (pv 4) pa_nil))))
          (pss_one (ps_expr (pe_bm PySem.F.plainAttrs_list
            PySem.F.slot_list_append PySem.F.type_list_append mt_append (pv 5)
            (pa_cons (pv 4) pa_nil))))))
      (C8.pss_cut (ps_set (i := 7) nd rfl (.inl rfl)
        (pe_cal Cc hr (pa_cons (pv 2) (pa_cons (pe_lst (pa_cons pe_non
          (pa_cons pe_int (pa_cons pe_str (pa_cons pe_str (pa_cons pe_str
          (pa_cons (pe_tup pa_nil) (pa_cons (pe_tup (pa_cons pe_str pa_nil))
          (pa_cons pe_dnewK (pa_cons (pe_disp (pps_cons pe_str pe_int pps_nil)
            (by rfl) (by rfl) (fun z => by cases z) (by decide))
          (pa_cons pe_bl (pa_cons (pe_makeS Mb hr1 (fun σ => passAt takes0 σ)
            (pa_cons (pe_lst (pa_cons pe_str pa_nil)) pa_nil))
          pa_nil)))))))))))) pa_nil))))
      (pss_one (ps_if (pt_not (pt_val (pe_callB (cr_all rfl) (by rfl) B.all
          bt_all (pa_cons (pe_lc (own := [("_law_value", 8)]) (g := gName 8)
            (tt := tYes) rfl nd (pi_list (pe_op op_cat (pv 5)
              (pe_lst (pa_cons (pv 7) pa_nil))))
            (blkOk_by (N := N_law) (sc := defScope s_law) (by decide +kernel))
            (fun _ _ _ _ _ => pg_name (i := 8) nd rfl (Or.inl rfl))
            (fun _ _ _ _ _ => pts_nil)
            (fun _ _ _ _ _ => pe_calG Ck hr gd (pa_cons (pv 8) pa_nil)))
            pa_nil)))) (pss_one ps_never) pss_nil)))))))))
    (pss_one (ps_ret pe_bl)), ?_⟩
  -- how many cells
  refine ⟨_, rfl, a, _, rfl, .inl hS, _, _, rfl, _, _, rfl, _, rfl, ?_, ?_, ?_⟩
  · rw [List.length_map]
    split <;> split <;> omega
  · rw [List.length_map]
    split <;> split <;> omega
  generalize hn : (Int.toNat _) = n
  have n4 : n ≤ 1000 := by
    rw [← hn, List.length_map]
    split <;> split <;> omega
  clear hn
  refine for_range (lo := 0) (n := n) (fun i σ H' =>
      ∃ x1 x2 x3 x4 x5 x6 x7 x8 : Option V, σ = [some (.ref a), x1, x2, x3, x4,
        x5, x6, x7, x8] ∧ Same H H')
    ⟨none, none, none, none, none, none, none, none, rfl, Same.refl H⟩ ?_
    (fun σ H' _ => q H')
  rintro i σ H0 hi ⟨x1, x2, x3, x4, x5, x6, x7, x8, rfl, s0⟩
  -- the drawing state
  refine ⟨fun σ' H' => ∃ p, σ' = [some (.ref a), some (.int i), some (.ref p),
    x3, x4, x5, x6, x7, x8] ∧ H0 p = none ∧ Rng H' p ∧ Same H0 H', ?_, ?_⟩
  · refine ⟨_, rfl, _, rfl, a, ns, i, ?_, s0.seq hS, by omega,
      fun p H1 np rg s1 => ⟨p, ?_, np, rg, s1⟩⟩
    · rw [Int.zero_add]
      rfl
    · rw [Int.zero_add]
      rfl
  rintro _ H1 ⟨p, rfl, np, rg1, s1⟩
  have b1 : But p H0 H1 := But.of s1
  -- how many
  refine ⟨fun σ' H' => ∃ m : Nat, σ' = [some (.ref a), some (.int i),
    some (.ref p), some (.int m), x4, x5, x6, x7, x8] ∧ m ≤ 45 ∧ Rng H' p ∧
    But p H0 H', ?_, ?_⟩
  · refine ⟨_, rfl, p, 7, rfl, rg1, by decide, by decide,
      fun d2 H2 d20 d21 rg2 b2 => ⟨_, rfl, p, 46, rfl, rg2, by decide,
      by decide, fun d3 H3 d30 d31 rg3 b3 => ⟨_, rfl, p, 6, rfl, rg3, by decide,
      by decide, fun d5 H5 d50 d51 rg5 b5 => ⟨_, _, rfl, rfl,
      sz (by simp), fun t nt => ⟨_, rfl, p, 3, rfl, rg5.same (sameNew nt),
      by decide, by decide, fun d4 H4 d40 d41 rg4 b4 => ?_⟩⟩⟩⟩⟩
    have ntp : t ≠ p := (rg5.ne nt).symm
    obtain ⟨v, hv, m, rfl, m1⟩ := at3 (a := V.int d2)
      (b := V.int d3) (c := V.int (38 + d5))
      (P := fun v => ∃ m : Nat, v = .int m ∧ m ≤ 45) d40 d41
      ⟨d2.toNat, by rw [Int.toNat_of_nonneg (by omega)], by omega⟩
      ⟨d3.toNat, by rw [Int.toNat_of_nonneg (by omega)], by omega⟩
      ⟨(38 + d5).toNat, by rw [Int.toNat_of_nonneg (by omega)], by omega⟩
    exact ⟨t, _, d4, _, rfl, rfl, SqL.of (b4 t _ upd_same ntp), hv, m, rfl, m1,
      rg4, ((((b1.trans b2).trans b3).trans b5).put nt ntp).trans b4⟩
  rintro _ H2 ⟨m, rfl, m1, rg2, b2⟩
  -- the items
  refine ⟨fun σ' H' => ∃ (it : Addr) (ls : List (List Nat)), σ' = [some (.ref a), some (.int i),
    some (.ref p), some (.int m), some (.ref it), x5, x6, x7, x8] ∧
    ls.length ≤ 45 ∧ (∀ l ∈ ls, Nm l) ∧ H' it = some (.lst (ls.map vS)) ∧
    Rng H' p ∧ But p H0 H', ?_, ?_⟩
  · refine ⟨_, rfl, _, rfl, sz (by simp), fun u nu => ?_⟩
    have nup : u ≠ p := (rg2.ne nu).symm
    refine ⟨p, u, m, [], rfl, rg2.same (sameNew nu), upd_same, nup, by omega,
      by simp, fun it ls H5 nit hl nm ndl no hit rg5 b5 => ?_⟩
    exact ⟨it, ls, rfl, by omega, nm, hit, rg5, (b2.put nu nup).trans b5⟩
  clear b1 rg1 s1 b2 rg2
  rintro _ H3 ⟨it, ls, rfl, hl, nm, hit, rg3, b3⟩
  have nip := neRng rg3 hit
  have ev3 : ∀ x ∈ ls.map vS, EV H3 x := ev_names nm
  have l3 : (ls.map vS).length ≤ 45 := by rw [List.length_map]; exact hl
  generalize ls.map vS = xs at hit ev3 l3
  -- the values
  refine ⟨fun σ' H' => ∃ vl r0, σ' = [some (.ref a), some (.int i),
    some (.ref p), some (.int m), some (.ref it), some (.ref vl), x6, x7, x8] ∧
    Vs H' p vl [r0] ∧ it ≠ vl ∧ H0 vl = none ∧ EL H' it 45 ∧ But p H0 H', ?_,
    ?_⟩
  · refine ⟨_, rfl, it, _, rfl, .inl (SqL.of hit), fun r0 nr0 => ?_⟩
    have nrp := rg3.ne nr0
    have s4 := sameNew (o := .lst xs) nr0
    have h4 : (upd H3 r0 (.lst xs)) r0 = some (.lst xs) := upd_same
    have b4 : But p H0 (upd H3 r0 (.lst xs)) := b3.put nr0 nrp.symm
    generalize upd H3 r0 (.lst xs) = H4 at s4 h4 b4 ⊢
    refine ⟨sz (by simp), fun vl nvl => ?_⟩
    have s5 := sameNew (o := .lst [.ref r0]) nvl
    have nvp := (rg3.same s4).ne nvl
    have e3 : EL H3 it 45 := ⟨xs, hit, ev3, l3⟩
    have e4 : EL H4 r0 45 := ⟨xs, h4, fun x hx => (ev3 x hx).same s4, l3⟩
    refine ⟨vl, r0, rfl, ⟨(rg3.same s4).same s5, upd_same, nvp.symm, by simp,
      fun r hr => ?_⟩, ne_of_none (s4 _ _ hit) nvl, b4.free nvp.symm nvl,
      (e3.same s4).same s5, b4.put nvl nvp.symm⟩
    rw [List.mem_singleton.mp hr]
    obtain ⟨ys, y1, y2, y3⟩ := (e4.same s5).ex
    exact ⟨nrp.symm, ne_of_none h4 nvl, ys, y1, y2, by omega⟩
  clear rg3 b3 ev3 hit l3
  rintro _ H4 ⟨vl, r0, rfl, V4, niv, nvl, e4, b4⟩
  -- three spoilt lists
  refine ⟨fun σ' H' => ∃ (it' : Addr) (rs : List Addr) (y6 : Option V), σ' = [some (.ref a), some (.int i),
    some (.ref p), some (.int m), some (.ref it'), some (.ref vl), y6, x7, x8] ∧
    Vs H' p vl rs ∧ But p H0 H' ∧ rs.length ≤ 10, ?_, ?_⟩
  · refine ⟨3, rfl, by decide, by decide, ?_⟩
    refine for_range (lo := 0) (n := 3) (fun j σ H' => ∃ (it' : Addr) (rs : List Addr) (y6 : Option V),
      σ = [some (.ref a), some (.int i), some (.ref p), some (.int m),
        some (.ref it'), some (.ref vl), y6, x7, x8] ∧ Vs H' p vl rs ∧
      rs.length = j + 1 ∧ it' ≠ p ∧ it' ≠ vl ∧ EL H' it' (45 + 2 * j) ∧
      But p H0 H')
      ⟨it, [r0], x6, rfl, V4, rfl, nip, niv, e4, b4⟩ ?_ ?_
    · rintro j σ H5 hj ⟨it', rs, y6, rfl, V5, lr, nip', niv', e5, b5⟩
      obtain ⟨xs5, h5, ev5, l5⟩ := e5.ex
      refine ⟨_, rfl, _, rfl, p, it', xs5, rfl, V5.rg, nip', h5, ev5, by omega,
        fun b ys H6 nb hb evb lb rg6 b6 => ?_⟩
      have V6 := V5.but b6 rg6
      have nbp := V5.rg.ne nb
      have nbv := ne_of_none V5.hv nb
      have eb : EL H6 b (45 + 2 * (j + 1)) := ⟨ys, hb, evb, by omega⟩
      obtain ⟨V7, e7⟩ := V6.push eb nbp.symm nbv.symm (by omega)
      refine ⟨_, rfl, .inl ⟨rfl, _, SqL.of V6.hv⟩, _, rfl, vl, _, _, rfl, rfl,
        V6.hv, ?_, ?_⟩
      · rw [List.length_map, lr]
        exact sz' (by omega)
      · refine ⟨b, rs ++ [b], _, rfl, V7, ?_, nbp.symm, nbv.symm, e7, ?_⟩
        · rw [List.length_append, lr]
          rfl
        · exact (b5.trans b6).new nvl
    · rintro σ H5 ⟨it', rs, y6, rfl, V5, lr, _, _, _, b5⟩
      exact ⟨it', rs, y6, rfl, V5, b5, by omega⟩
  clear V4 niv nip e4 b4 nvl
  rintro _ H5 ⟨it', rs, y6, rfl, V5, b5, lr⟩
  -- the odd one
  refine ⟨fun σ' H' => ∃ x, σ' = [some (.ref a), some (.int i),
    some (.ref p), some (.int m), some (.ref it'), some (.ref vl), y6, some x,
    x8] ∧ (OV H' x ∨ ∃ b, x = .ref b ∧ BaseAt C H' b [[97]]) ∧ Vs H' p vl rs ∧
    But p H0 H', ?_, ?_⟩
  · refine ⟨_, rfl, ?_⟩
    refine ⟨by decide, fun q1 m1 => ?_⟩
    have t1 := sameNew (o := .tup []) m1
    have f1 : (upd H5 q1 (.tup [])) q1 = some (.tup []) := upd_same
    generalize upd H5 q1 (.tup []) = G1 at t1 f1 ⊢
    refine ⟨by decide, fun q2 m2 => ?_⟩
    have t2 := t1.trans (sameNew (o := .tup [.str "a"]) m2)
    have f2 : (upd G1 q2 (.tup [.str "a"])) q2 = some (.tup [.str "a"]) :=
      upd_same
    replace f1 := sameNew (o := .tup [.str "a"]) m2 _ _ f1
    generalize upd G1 q2 (.tup [.str "a"]) = G2 at t2 f1 f2 ⊢
    intro q3 m3
    have t3 := t2.trans (sameNew (o := .dK []) m3)
    have f3 : (upd G2 q3 (.dK [])) q3 = some (.dK []) := upd_same
    replace f1 := sameNew (o := .dK []) m3 _ _ f1
    replace f2 := sameNew (o := .dK []) m3 _ _ f2
    generalize upd G2 q3 (.dK []) = G3 at t3 f1 f2 f3 ⊢
    intro q4 m4
    refine ⟨upd_same, [(Sum.inr "a", .int 0)], rfl, by decide, ?_⟩
    have t6 : Same G3 (upd (upd G3 q4 (.dK [])) q4
        (.dK (mergeK [] [(Sum.inr "a", .int 0)]))) :=
      OM.Same.put (sameNew m4) m4
    have f4 : (upd (upd G3 q4 (.dK [])) q4
        (.dK (mergeK [] [(Sum.inr "a", .int 0)]))) q4 =
        some (.dK [(Sum.inr "a", .int 0)]) := upd_same
    have t4 := t3.trans t6
    replace f1 := t6 _ _ f1
    replace f2 := t6 _ _ f2
    replace f3 := t6 _ _ f3
    generalize upd (upd G3 q4 (.dK [])) q4
        (.dK (mergeK [] [(Sum.inr "a", .int 0)])) = G4 at t4 f1 f2 f3 f4 ⊢
    refine ⟨by decide, fun q5 m5 => ?_⟩
    have t5 := sameNew (o := .lst [.str "a"]) m5
    have f5 : (upd G4 q5 (.lst [.str "a"])) q5 =
      some (.lst ([[97]].map vS)) := upd_same
    generalize upd G4 q5 (.lst [.str "a"]) = G5 at t5 f5 ⊢
    intro x dx nx ndx ne
    have s6 : Same G5 (upd (upd G5 dx (.own x)) x (.ins C dx [])) :=
      OM.Same.put (sameNew ndx) nx
    refine Jdg.init (Jdg.good (s6 _ _ f5) good_a (by decide +kernel)) upd_same
      (fun r hr => nomatch hr) (fun _ G6 hB b6 => ⟨rfl, ?_⟩)
    have t7 : Same H5 G6 := t4.trans (t5.trans fun y o e => b6 y o (s6 y o e)
      (ne_of_none e nx))
    have t8 : Same G4 G6 := t5.trans fun y o e => b6 y o (s6 y o e)
      (ne_of_none e nx)
    replace f1 := t8 _ _ f1
    replace f2 := t8 _ _ f2
    replace f3 := t8 _ _ f3
    replace f4 := t8 _ _ f4
    have V6 := V5.same t7
    refine ⟨by show 11 ≤ sizeLine; decide, fun q7 m7 => ?_⟩
    have n7p := V6.rg.ne m7
    refine ⟨p, q7, _, rfl, V6.rg.same (sameNew m7), SqL.of upd_same, n7p.symm,
      by show 0 < 11; decide, by show 11 ≤ 1000; decide,
      fun z H' hz rg' b' => ?_⟩
    have bb : But p G6 H' := fun y o hy ny =>
      b' y o (by rw [upd_ne (ne_of_none hy m7)]; exact hy) ny
    refine ⟨z, rfl, ?_, V6.but bb rg', (b5.trans (But.of t7)).trans bb⟩
    have : OV G6 z ∨ ∃ b, z = .ref b ∧ BaseAt C G6 b [[97]] := by
      simp only [List.mem_cons, List.not_mem_nil, or_false] at hz
      rcases hz with rfl | rfl | rfl | rfl | rfl | rfl | rfl | rfl | rfl | rfl |
        rfl
      · exact .inl (.inl .non)
      · exact .inl (.inl .zer)
      · exact .inl (.inl (.str _ (by decide +kernel)))
      · exact .inl (.inl (.str _ (by decide +kernel)))
      · exact .inl (.inl (.str _ (by decide +kernel)))
      · exact .inl (.inr ⟨_, _, rfl, f1, .t0⟩)
      · exact .inl (.inr ⟨_, _, rfl, f2, .t1⟩)
      · exact .inl (.inr ⟨_, _, rfl, f3, .d0⟩)
      · exact .inl (.inr ⟨_, _, rfl, f4, .d1⟩)
      · exact .inl (.inl .tru)
      · exact .inr ⟨_, rfl, hB⟩
    rcases this with h | ⟨b, rfl, h⟩
    · exact .inl (h.but V6.rg bb)
    · exact .inr ⟨b, rfl, h.but V6.rg bb⟩
  clear V5 b5
  rintro _ H6 ⟨x, rfl, hx, V6, b6⟩
  -- all of them
  refine ⟨_, rfl, _, rfl, by show 1 ≤ sizeLine; decide, fun l1 n1 => ?_⟩
  have u1 := sameNew (o := .lst [x]) n1
  have g1 : (upd H6 l1 (.lst [x])) l1 = some (.lst [x]) := upd_same
  generalize upd H6 l1 (.lst [x]) = H7 at u1 g1 ⊢
  refine ⟨vl, l1, _, _, rfl, rfl, u1 _ _ V6.hv, g1, ?_, fun l2 n2 => ?_⟩
  · rw [List.length_map]
    show _ + 1 ≤ sizeLine
    exact sz (by omega)
  have u2 := u1.trans (sameNew (o := .lst (rs.map V.ref ++ [x])) n2)
  have g2 : (upd H7 l2 (.lst (rs.map V.ref ++ [x]))) l2 =
    some (.lst (rs.map V.ref ++ [x])) := upd_same
  generalize upd H7 l2 (.lst (rs.map V.ref ++ [x])) = H8 at u2 g2 ⊢
  refine ⟨l2, rfl, ⟨_, SqL.of g2⟩, fun D nD => ?_⟩
  have lx : (rs.map V.ref ++ [x]).length ≤ 11 := by
    rw [List.length_append, List.length_map]
    show _ + 1 ≤ 11
    omega
  refine lc_list (K := K) (a := l2)
    (xs := rs.map V.ref ++ [x]) (fun j H' =>
    H' D = some (.lst ((List.replicate j true).map V.bl)) ∧ Same H8 H')
    ⟨upd_same, sameNew nD⟩ (fun j H' _ z => SqL.of (z.2 _ _ g2)) ?_ ?_
  · rintro j y H9 hy ⟨hD, s9⟩
    have hj := (List.getElem?_eq_some_iff.mp hy).1
    have u9 := u2.trans s9
    have go : ∃ jj ll t, Jdg K H9 y jj ll ∧ Sees C H9 y t := by
      rcases List.mem_append.mp (List.mem_of_getElem? hy) with h | h
      · obtain ⟨r, hr', rfl⟩ := List.mem_map.mp h
        obtain ⟨zs, z1, z2, z3⟩ := ((V6.el r hr').2.2.same u9).ex
        obtain ⟨jj, ll, J⟩ := ev_jdg (K := K) z1 z2 (by omega)
        obtain ⟨t, S⟩ := ev_sees (C := C) z1 z2 (by omega)
        exact ⟨jj, ll, t, J, S⟩
      · rw [List.mem_singleton.mp h]
        rcases hx with w9 | ⟨b, rfl, w9⟩
        · obtain ⟨d, d1, d2⟩ := w9.ev.dx
          exact ⟨_, _, _, w9.jdg.same u9, .dat (DX.same u9 _ _ d1) d2.shw⟩
        · have h' := w9.same u9
          obtain ⟨dx, lo, d, h1, h2, h3⟩ := h'.ob
          exact ⟨_, _, _, .non (.ins h1 T.ic.cl T.ic.ha T.ic.hn T.ic.htk T.ic.hm)
            kL, .bas h' good_a⟩
    obtain ⟨jj, ll, t, J, S⟩ := go
    refine ⟨rfl, yes ⟨_, rfl, y, jj, ll, t, rfl, J, S, fun H10 s10 => ⟨_,
      s10 _ _ hD, ?_, ?_, OM.Same.put (s9.trans s10) nD⟩⟩⟩
    · rw [List.length_map, List.length_replicate]
      exact sz' (by omega)
    · rw [upd_same, List.replicate_succ', List.map_append]
      rfl
  · rintro H9 ⟨hD, s9⟩
    refine ⟨D, _, rfl, SqL.of hD, _, rfl, ?_⟩
    rw [show ((List.replicate (rs.map V.ref ++ [x]).length true).all id) = true
      by simp]
    refine iteF ⟨_, _, _, _, _, _, _, _, rfl, ?_⟩
    exact s0.trans ((b6.same np).trans (u2.trans s9))
end
end OM
namespace OM
open PySem PySem.Spec PyProof.Rows L2
/-! ### what the top has left -/
structure DefAt (K : PySem.W.Frag) (mg : Str → Option Value) (x : Str)
    (st : Stmt) (ps : List Str) (f : Addr) (fd : FuncData) : Prop where
  fn : Fun K x x st f fd
  mg : mg x = some (.ref f)
  bd : Binds K fd ps []
  bt : ∀ (s : Shared) (us : List Value), us.length = ps.length →
    BindsTo s fd ⟨us, []⟩ (ps.zip us)
theorem defAt {K : PySem.W.Frag} {mg : Str → Option Value} {h : Heap}
    {x : Str} {st : Stmt} {ps : List Str} {f : Addr} {oc : Value}
    {od an : Option Addr} {sl : Array (Option Value)}
    {kV dc pm cv ct : Value} (X : K.In h) (G : h.Ns mainGlobals mg)
    (a : PySem.W.nsIn K mainGlobals x = some (some (.ref f)))
    (l : K.lookup f = some ⟨oc, od, .func (PySem.W.fnOf x x (defArgs st)
      (defBody st) (defScope st) .none kV dc pm an cv ct), sl⟩)
    (c : PySem.W.codeIn K cv x = true)
    (k : PySem.W.keepIn K (.ref f) = true)
    (b : ∀ (kV doc pm : Value) (an : Option Addr) (cdv ct : Value)
      (us : List Value), us.length = ps.length →
      bindArgs (PySem.W.fnOf x x (defArgs st) (defBody st) (defScope st)
        .none kV doc pm an cdv ct) ⟨us, []⟩ = pure (ps.zip us)) :
    ∃ fd, DefAt K mg x st ps f fd :=
  have F := fun_mk (st := st) l c k
  ⟨_, F, PySem.W.mg_of X G a, F.binds b,
    fun _ us hl => .of_eq (b _ _ _ _ _ _ us hl)⟩
structure MethAt (K : PySem.W.Frag) (C : Addr) (m q : Str) (st : Stmt)
    (ps : List Str) (f : Addr) (fd : FuncData) : Prop where
  fn : Fun K m q st f fd
  me : Meth K C m f
  bd : Binds K fd ps []
theorem methAt {K : PySem.W.Frag} {C : Addr}
    {m q : Str} {st : Stmt} {ps : List Str} {f : Addr} {oc : Value}
    {od an : Option Addr} {sl : Array (Option Value)}
    {kV dc pm cv ct : Value}
    (a : PySem.W.findIn K (.ref C) m = some (some (.ref f)))
    (i : PySem.W.isFn K (.ref f) = true)
    (l : K.lookup f = some ⟨oc, od, .func (PySem.W.fnOf m q (defArgs st)
      (defBody st) (defScope st) .none kV dc pm an cv ct), sl⟩)
    (c : PySem.W.codeIn K cv q = true)
    (k : PySem.W.keepIn K (.ref f) = true)
    (b : ∀ (kV doc pm : Value) (an : Option Addr) (cdv ct : Value)
      (us : List Value), us.length = ps.length →
      bindArgs (PySem.W.fnOf m q (defArgs st) (defBody st) (defScope st)
        .none kV doc pm an cdv ct) ⟨us, []⟩ = pure (ps.zip us)) :
    ∃ fd, MethAt K C m q st ps f fd :=
  have F := fun_mk (st := st) l c k
  ⟨_, F, ⟨a, i, k⟩, F.binds b⟩
section
variable {P : Program} {w : World} {K : PySem.W.Frag}
  {mg : Str → Option Value} {base : Heap} {C : Addr}
theorem DefAt.cal {k j : Nat} {x : Str} {st : Stmt} {ps : List Str} {f : Addr}
    {fd : FuncData} {sp : Sp} (D : DefAt K mg x st ps f fd)
    (G : FnOk P w K mg base CX0 j f fd ps sp) (h : j ≤ k) :
    Cal P w K mg base k x ps sp :=
  ⟨f, fd, G.mono h, D.mg, D.fn.kp, D.bd⟩
theorem FnG.up {j k : Nat} {f : Addr} {fd : FuncData} {ps : List Str} {sp : Sp}
    (F : FnG P w K mg base CX0 j f fd ps sp) (h : j ≤ k) :
    FnG P w K mg base CX0 k f fd ps sp :=
  ⟨F.len, fun A o s H ar us vs Q E r g e b v z =>
    F.run A o s H ar us vs Q E (r.mono h) g e b v z⟩
theorem DefAt.calG {k j : Nat} {x : Str} {st : Stmt} {ps : List Str} {f : Addr}
    {fd : FuncData} {sp : Sp} (D : DefAt K mg x st ps f fd)
    (G : FnG P w K mg base CX0 j f fd ps sp) (h : j ≤ k) :
    CalG P w K mg base k x ps sp :=
  ⟨f, fd, G.up h, D.mg, D.fn.kp, D.bd⟩
theorem MethAt.calM {k j : Nat} {m q : Str} {st : Stmt} {ps : List Str}
    {f : Addr} {fd : FuncData} {sp : Sp} (D : MethAt K C m q st ps f fd)
    (c : Cls K C) (G : FnOk P w K mg base CX0 j f fd ps sp) (h : j ≤ k) :
    CalM P w K mg base C k m ps sp :=
  ⟨c, f, fd, G.mono h, D.me, D.bd⟩
theorem MethAt.spec {m q : Str} {st : Stmt} {ps : List Str}
    {f : Addr} {fd : FuncData} (D : MethAt K C m q st ps f fd) :
    Spec1 K C m f fd ps := ⟨D.me.at_, D.me.fn, D.bd⟩
end
end OM
namespace OM
open PySem PySem.Spec PyProof.Rows L2
/-- an error's __init__ -/
structure XInit (K : PySem.W.Frag) (C : Addr) (q : Str) (st : Stmt)
    (ps : List Str) (f : Addr) (fd : FuncData) : Prop where
  fn : Fun K "__init__" q st f fd
  at_ : PySem.W.findIn K (.ref C) "__init__" = some (some (.ref f))
  ty : PySem.W.typeIn K (.ref f) = some (.type "function")
  bd : Binds K fd ps []
theorem xInit {K : PySem.W.Frag} {C : Addr}
    {q : Str} {st : Stmt} {ps : List Str} {f : Addr} {oc : Value}
    {od an : Option Addr} {sl : Array (Option Value)}
    {kV dc pm cv ct : Value}
    (a : PySem.W.findIn K (.ref C) "__init__" = some (some (.ref f)))
    (i : PySem.W.typeIn K (.ref f) = some (.type "function"))
    (l : K.lookup f = some ⟨oc, od, .func (PySem.W.fnOf "__init__" q
      (defArgs st) (defBody st) (defScope st) .none kV dc pm an cv ct), sl⟩)
    (c : PySem.W.codeIn K cv q = true)
    (k : PySem.W.keepIn K (.ref f) = true)
    (b : ∀ (kV doc pm : Value) (an : Option Addr) (cdv ct : Value)
      (us : List Value), us.length = ps.length →
      bindArgs (PySem.W.fnOf "__init__" q (defArgs st) (defBody st)
        (defScope st) .none kV doc pm an cdv ct) ⟨us, []⟩ =
        pure (ps.zip us)) :
    ∃ fd, XInit K C q st ps f fd :=
  have F := fun_mk (st := st) l c k
  ⟨_, F, a, i, F.binds b⟩
/-- an error of the class at S is what «except T» names -/
theorem exm2 {K : PySem.W.Frag} {S T : Addr}
    (h1 : PySem.W.subIn K (.ref T) (.type "BaseException") = some true)
    (h2 : PySem.W.isClsIn K T = true)
    (h3 : PySem.W.typeIn K (.ref T) = some (.type "type")) {b : Bool}
    (h4 : PySem.W.subIn K (.ref S) (.ref T) = some b) :
    PySem.W.exmOne K (.ref S) (.ref T) = some b := by
  have e1 : (PySem.W.subIn K (.ref T) (.type "BaseException") == some true) =
    true := by rw [h1] <;> rfl
  have e2 : ((PySem.W.clsIn K T).isSome &&
      PySem.W.typeIn K (.ref T) == some (.type "type")) = true := by
    have h2' : (PySem.W.clsIn K T).isSome = true := h2
    rw [h2', h3] <;> rfl
  show (if (PySem.W.subIn K (.ref T) (.type "BaseException") == some true) =
    true then (if ((PySem.W.clsIn K T).isSome &&
      PySem.W.typeIn K (.ref T) == some (.type "type")) = true then
      PySem.W.subIn K (.ref S) (.ref T) else none) else none) = some b
  rw [if_pos e1, if_pos e2]
  exact h4
/-- the same with isinstance -/
theorem kit2 {K : PySem.W.Frag} {S T : Addr} (ne : (S == T) = false)
    (h2 : PySem.W.isClsIn K T = true)
    (h3 : PySem.W.typeIn K (.ref T) = some (.type "type")) {b : Bool}
    (h4 : PySem.W.subIn K (.ref S) (.ref T) = some b) :
    PySem.W.kitOne K (.ref S) (.ref T) = some b := by
  have e2 : ((PySem.W.clsIn K T).isSome &&
      PySem.W.typeIn K (.ref T) == some (.type "type")) = true := by
    have h2' : (PySem.W.clsIn K T).isSome = true := h2
    rw [h2', h3] <;> rfl
  have n : ¬ ((Value.ref S == Value.ref T) = true) := fun z => by
    have z' := eq_of_beq z
    injection z' with z'
    rw [z'] at ne
    simp at ne
  unfold PySem.W.kitOne
  rw [if_neg n]
  show (if ((PySem.W.clsIn K T).isSome &&
      PySem.W.typeIn K (.ref T) == some (.type "type")) = true then
      PySem.W.subIn K (.ref S) (.ref T) else none) = some b
  rw [if_pos e2]
  exact h4
theorem kitT {K : PySem.W.Frag} {S : Addr} {T : String} {b : Bool}
    (hm : PySem.W.kitMeta T = true)
    (h : PySem.W.subIn K (.ref S) (.type T) = some b) :
    PySem.W.kitOne K (.ref S) (.type T) = some b := by
  have n : ¬ ((Value.ref S == Value.type T) = true) := fun z => by
    cases eq_of_beq z
  unfold PySem.W.kitOne
  rw [if_neg n]
  show (if PySem.W.kitMeta T = true then
    PySem.W.subIn K (.ref S) (.type T) else none) = some b
  rw [if_pos hm]
  exact h
end OM
namespace OM
open PySem PySem.Spec PyProof.Rows L2
section
variable {P : Program} {w : World} {K : PySem.W.Frag}
  {mg : Str → Option Value} {base : Heap} {C CI CO CV CT CU : Addr}
/-- the law, by what the top has left -/
theorem all12
    {f1 f2 f3 f4 f5 f6 f7 f8 f9 f10 f11 f12 f13 f14 f15 : Addr}
    {d1 d2 d3 d4 d5 d6 d7 d8 d9 d10 d11 d12 d13 d14 d15 : FuncData}
    {m1 m2 m3 : Addr} {e1 e2 e3 : FuncData}
    {g1 : Addr} {h1 : FuncData}
    {t40 t8 : Tok} (B : Bl mg) (T : BC K mg C)
    (mk : PySem.W.makesIn K C = true)
    (c40 : mg "MAX_ITEMS" = some (.int 40 t40))
    (c8 : mg "MAX_NAME_LENGTH" = some (.int 8 t8))
    (kL : PySem.W.kitOne K (.ref C) (.type "list") = some false)
    (X : XB K mg CI CO CV CT CU)
    (sm : ∃ o, base.get? sysModules = some o)
    (D1 : DefAt K mg "is_name" s_is_name ["value"] f1 d1)
    (D2 : DefAt K mg "check_items" s_check_items ["items"] f2 d2)
    (D3 : DefAt K mg "_law_rng" s_Lrng ["_law_script", "_law_k"] f3 d3)
    (D4 : DefAt K mg "_law_draw" s_Ldraw ["_law_rng_here", "_law_many"] f4 d4)
    (D5 : DefAt K mg "_law_choice" s_Lchoice
      ["_law_rng_here", "_law_options"] f5 d5)
    (D6 : DefAt K mg "_law_name" s_Lname ["_law_rng_here", "_law_used"] f6 d6)
    (D7 : DefAt K mg "_law_names" s_Lnames
      ["_law_rng_here", "_law_many", "_law_used"] f7 d7)
    (D8 : DefAt K mg "_law_is_name" s_Lis_name ["_law_value"] f8 d8)
    (D9 : DefAt K mg "_law_due" s_Ldue ["_law_value"] f9 d9)
    (D10 : DefAt K mg "_law_invalid_name" s_Linvalid_name
      ["_law_rng_here", "_law_items"] f10 d10)
    (D11 : DefAt K mg "_law_spoilt" s_Lspoilt
      ["_law_rng_here", "_law_items"] f11 d11)
    (D12 : DefAt K mg "_law_outcome" s_Loutcome ["_law_value"] f12 d12)
    (D13 : DefAt K mg "_law_check" s_Lcheck ["_law_value"] f13 d13)
    (D14 : DefAt K mg "law" s_law ["_law_script"] f14 d14)
    (D15 : DefAt K mg "names_fault" s_names_fault ["value", "most"] f15 d15)
    (M1 : MethAt K C "__init__" "Base.__init__" s_Base_init
      ["self", "items"] m1 e1)
    (M2 : MethAt K C "__repr__" "Base.__repr__" s_Base_repr ["self"] m2 e2)
    (M3 : MethAt K C "names" "Base.names" s_Base_names ["self"] m3 e3)
    (I1 : XInit K CI "InvalidBase.__init__" s_InvalidBase_init
      ["self", "problem", "position"] g1 h1) :
    FnG P w K mg base CX0 9 f14 d14 ["_law_script"] (spLaw K) := by
  have G4 := ok_draw (P := P) (w := w) (base := base) (k := 0) D4.fn B
  have G3 := ok_rng (P := P) (w := w) (base := base) (k := 0) D3.fn B
  have G1 := ok_isname (P := P) (w := w) (base := base) (k := 0) D1.fn B c8
  have G8 := ok_lisname (P := P) (w := w) (base := base) (k := 0) D8.fn B
  have H3 := ok_getnames (P := P) (w := w) (base := base) (k := 0) M3.fn B T
  have H2 := ok_reprB (P := P) (w := w) (base := base) (k := 0) M2.fn T
  have J1 := ok_ibinit (P := P) (w := w) (base := base) (mg := mg) (k := 0)
    I1.fn X.cl.ox X.n1 X.n2
  have G5 := ok_choice (k := 1) D5.fn B (D4.cal G4 (by decide))
  have G6 := ok_name (k := 1) D6.fn B (D4.cal G4 (by decide))
  have G7 := ok_names (k := 2) D7.fn B (D6.cal G6 (by decide))
  have G9 := ok_due (k := 1) D9.fn B (D8.cal G8 (by decide))
  have xm : XMk P w K mg base CI 1 "InvalidBase"
      ["self", "problem", "position"] (spX2 CI "problem" "position") :=
    ⟨X.mI, X.cl, g1, h1, J1, I1.at_, I1.ty, I1.bd⟩
  have G15 := ok_nfaultX (k := 1) D15.fn B (D1.cal G1 (by decide))
  have G2 := ok_checkX (k := 2) (j := 1) D2.fn (D15.cal G15 (by decide)) xm
    (by decide) c40
  have H1 := ok_initX (k := 3) M1.fn B T
    ⟨f2, d2, G2.mono (by decide), D2.mg, D2.fn.kp, D2.bd⟩
  have mkB : Mk K C m1 := ⟨mk, M1.me.at_, M1.me.fn, T.kC⟩
  have G10 := ok_invalid (k := 2) D10.fn (D5.cal G5 (by decide))
  have G11 := ok_spoilt (k := 3) D11.fn B (D4.cal G4 (by decide))
    (D10.cal G10 (by decide))
  have G12 := ok_out (k := 4) D12.fn B X sm
    ⟨T.mgC, m1, e1, H1.mono (by decide), mkB, M1.bd⟩
    (M3.calM T.cl H3 (by decide))
  have G13 := ok_chk12 (k := 6) (n := 1) D13.fn B sm M2.spec H2 (by decide)
    (D9.cal G9 (by decide)) (D12.calG G12 (by decide))
  exact ok_law12 (k := 7) D14.fn B T kL (D3.cal G3 (by decide))
    (D4.cal G4 (by decide)) (D7.cal G7 (by decide))
    (D11.cal G11 (by decide)) (D5.cal G5 (by decide))
    ⟨T.mgC, m1, e1, H1.mono (by decide), mkB, M1.bd⟩
    (D13.calG G13 (by decide))
end
end OM
namespace OM
open PySem PySem.Spec PyProof.Rows L2
theorem fin12 {l : PySem.W.OpenLaw} {w : World} {K : PySem.W.Frag} {h : Heap}
    {mg : Str → Option Value} {fa C : Addr} (X : K.In h)
    (G : h.Ns mainGlobals mg) (hfa : mg "law" = some (.ref fa))
    {f1 f2 f3 f4 f5 f6 f7 f8 f9 f10 f11 f12 f13 f14 f15 m1 m2 m3 g1 : Addr}
    {odf1 anf1 odf2 anf2 odf3 anf3 odf4 anf4 odf5 anf5 odf6 anf6 odf7 anf7 odf8 anf8 odf9 anf9 odf10 anf10 odf11 anf11 odf12 anf12 odf13 anf13 odf14 anf14 odf15 anf15 odm1 anm1 odm2 anm2 odm3 anm3 odg1 ang1 : Option Addr}
    {slf1 slf2 slf3 slf4 slf5 slf6 slf7 slf8 slf9 slf10 slf11 slf12 slf13 slf14 slf15 slm1 slm2 slm3 slg1 : Array (Option Value)}
    {ocf1 kVf1 dcf1 pmf1 cdf1 ctf1 : Value}
    {ocf2 kVf2 dcf2 pmf2 cdf2 ctf2 : Value}
    {ocf3 kVf3 dcf3 pmf3 cdf3 ctf3 : Value}
    {ocf4 kVf4 dcf4 pmf4 cdf4 ctf4 : Value}
    {ocf5 kVf5 dcf5 pmf5 cdf5 ctf5 : Value}
    {ocf6 kVf6 dcf6 pmf6 cdf6 ctf6 : Value}
    {ocf7 kVf7 dcf7 pmf7 cdf7 ctf7 : Value}
    {ocf8 kVf8 dcf8 pmf8 cdf8 ctf8 : Value}
    {ocf9 kVf9 dcf9 pmf9 cdf9 ctf9 : Value}
    {ocf10 kVf10 dcf10 pmf10 cdf10 ctf10 : Value}
    {ocf11 kVf11 dcf11 pmf11 cdf11 ctf11 : Value}
    {ocf12 kVf12 dcf12 pmf12 cdf12 ctf12 : Value}
    {ocf13 kVf13 dcf13 pmf13 cdf13 ctf13 : Value}
    {ocf14 kVf14 dcf14 pmf14 cdf14 ctf14 : Value}
    {ocf15 kVf15 dcf15 pmf15 cdf15 ctf15 : Value}
    {ocm1 kVm1 dcm1 pmm1 cdm1 ctm1 : Value}
    {ocm2 kVm2 dcm2 pmm2 cdm2 ctm2 : Value}
    {ocm3 kVm3 dcm3 pmm3 cdm3 ctm3 : Value}
    {ocg1 kVg1 dcg1 pmg1 cdg1 ctg1 : Value}
    {t40 t8 : Tok}
    {CI CO CV CT CU : Addr}
    {nmCI qCI : Str} {NCI : Addr} {bsCI subCI : List Value} {snCI : List Str} {abCI : Bool} {colCI : Option Bool} {ddCI : Option Addr} {k0CI k1CI k2CI k3CI k5CI : Option Value}
    (af1 : PySem.W.nsIn K mainGlobals "is_name" = some (some (.ref f1)))
    (lf1 : K.lookup f1 = some ⟨ocf1, odf1, .func (PySem.W.fnOf "is_name" "is_name"
      (defArgs s_is_name) (defBody s_is_name) (defScope s_is_name) .none kVf1 dcf1 pmf1 anf1 cdf1
      ctf1), slf1⟩)
    (cf1 : PySem.W.codeIn K cdf1 "is_name" = true)
    (kf1 : PySem.W.keepIn K (.ref f1) = true)
    (af2 : PySem.W.nsIn K mainGlobals "check_items" = some (some (.ref f2)))
    (lf2 : K.lookup f2 = some ⟨ocf2, odf2, .func (PySem.W.fnOf "check_items" "check_items"
      (defArgs s_check_items) (defBody s_check_items) (defScope s_check_items) .none kVf2 dcf2 pmf2 anf2 cdf2
      ctf2), slf2⟩)
    (cf2 : PySem.W.codeIn K cdf2 "check_items" = true)
    (kf2 : PySem.W.keepIn K (.ref f2) = true)
    (af3 : PySem.W.nsIn K mainGlobals "_law_rng" = some (some (.ref f3)))
    (lf3 : K.lookup f3 = some ⟨ocf3, odf3, .func (PySem.W.fnOf "_law_rng" "_law_rng"
      (defArgs s_Lrng) (defBody s_Lrng) (defScope s_Lrng) .none kVf3 dcf3 pmf3 anf3 cdf3
      ctf3), slf3⟩)
    (cf3 : PySem.W.codeIn K cdf3 "_law_rng" = true)
    (kf3 : PySem.W.keepIn K (.ref f3) = true)
    (af4 : PySem.W.nsIn K mainGlobals "_law_draw" = some (some (.ref f4)))
    (lf4 : K.lookup f4 = some ⟨ocf4, odf4, .func (PySem.W.fnOf "_law_draw" "_law_draw"
      (defArgs s_Ldraw) (defBody s_Ldraw) (defScope s_Ldraw) .none kVf4 dcf4 pmf4 anf4 cdf4
      ctf4), slf4⟩)
    (cf4 : PySem.W.codeIn K cdf4 "_law_draw" = true)
    (kf4 : PySem.W.keepIn K (.ref f4) = true)
    (af5 : PySem.W.nsIn K mainGlobals "_law_choice" = some (some (.ref f5)))
    (lf5 : K.lookup f5 = some ⟨ocf5, odf5, .func (PySem.W.fnOf "_law_choice" "_law_choice"
      (defArgs s_Lchoice) (defBody s_Lchoice) (defScope s_Lchoice) .none kVf5 dcf5 pmf5 anf5 cdf5
      ctf5), slf5⟩)
    (cf5 : PySem.W.codeIn K cdf5 "_law_choice" = true)
    (kf5 : PySem.W.keepIn K (.ref f5) = true)
    (af6 : PySem.W.nsIn K mainGlobals "_law_name" = some (some (.ref f6)))
    (lf6 : K.lookup f6 = some ⟨ocf6, odf6, .func (PySem.W.fnOf "_law_name" "_law_name"
      (defArgs s_Lname) (defBody s_Lname) (defScope s_Lname) .none kVf6 dcf6 pmf6 anf6 cdf6
      ctf6), slf6⟩)
    (cf6 : PySem.W.codeIn K cdf6 "_law_name" = true)
    (kf6 : PySem.W.keepIn K (.ref f6) = true)
    (af7 : PySem.W.nsIn K mainGlobals "_law_names" = some (some (.ref f7)))
    (lf7 : K.lookup f7 = some ⟨ocf7, odf7, .func (PySem.W.fnOf "_law_names" "_law_names"
      (defArgs s_Lnames) (defBody s_Lnames) (defScope s_Lnames) .none kVf7 dcf7 pmf7 anf7 cdf7
      ctf7), slf7⟩)
    (cf7 : PySem.W.codeIn K cdf7 "_law_names" = true)
    (kf7 : PySem.W.keepIn K (.ref f7) = true)
    (af8 : PySem.W.nsIn K mainGlobals "_law_is_name" = some (some (.ref f8)))
    (lf8 : K.lookup f8 = some ⟨ocf8, odf8, .func (PySem.W.fnOf "_law_is_name" "_law_is_name"
      (defArgs s_Lis_name) (defBody s_Lis_name) (defScope s_Lis_name) .none kVf8 dcf8 pmf8 anf8 cdf8
      ctf8), slf8⟩)
    (cf8 : PySem.W.codeIn K cdf8 "_law_is_name" = true)
    (kf8 : PySem.W.keepIn K (.ref f8) = true)
    (af9 : PySem.W.nsIn K mainGlobals "_law_due" = some (some (.ref f9)))
    (lf9 : K.lookup f9 = some ⟨ocf9, odf9, .func (PySem.W.fnOf "_law_due" "_law_due"
      (defArgs s_Ldue) (defBody s_Ldue) (defScope s_Ldue) .none kVf9 dcf9 pmf9 anf9 cdf9
      ctf9), slf9⟩)
    (cf9 : PySem.W.codeIn K cdf9 "_law_due" = true)
    (kf9 : PySem.W.keepIn K (.ref f9) = true)
    (af10 : PySem.W.nsIn K mainGlobals "_law_invalid_name" = some (some (.ref f10)))
    (lf10 : K.lookup f10 = some ⟨ocf10, odf10, .func (PySem.W.fnOf "_law_invalid_name" "_law_invalid_name"
      (defArgs s_Linvalid_name) (defBody s_Linvalid_name) (defScope s_Linvalid_name) .none kVf10 dcf10 pmf10 anf10 cdf10
      ctf10), slf10⟩)
    (cf10 : PySem.W.codeIn K cdf10 "_law_invalid_name" = true)
    (kf10 : PySem.W.keepIn K (.ref f10) = true)
    (af11 : PySem.W.nsIn K mainGlobals "_law_spoilt" = some (some (.ref f11)))
    (lf11 : K.lookup f11 = some ⟨ocf11, odf11, .func (PySem.W.fnOf "_law_spoilt" "_law_spoilt"
      (defArgs s_Lspoilt) (defBody s_Lspoilt) (defScope s_Lspoilt) .none kVf11 dcf11 pmf11 anf11 cdf11
      ctf11), slf11⟩)
    (cf11 : PySem.W.codeIn K cdf11 "_law_spoilt" = true)
    (kf11 : PySem.W.keepIn K (.ref f11) = true)
    (af12 : PySem.W.nsIn K mainGlobals "_law_outcome" = some (some (.ref f12)))
    (lf12 : K.lookup f12 = some ⟨ocf12, odf12, .func (PySem.W.fnOf "_law_outcome" "_law_outcome"
      (defArgs s_Loutcome) (defBody s_Loutcome) (defScope s_Loutcome) .none kVf12 dcf12 pmf12 anf12 cdf12
      ctf12), slf12⟩)
    (cf12 : PySem.W.codeIn K cdf12 "_law_outcome" = true)
    (kf12 : PySem.W.keepIn K (.ref f12) = true)
    (af13 : PySem.W.nsIn K mainGlobals "_law_check" = some (some (.ref f13)))
    (lf13 : K.lookup f13 = some ⟨ocf13, odf13, .func (PySem.W.fnOf "_law_check" "_law_check"
      (defArgs s_Lcheck) (defBody s_Lcheck) (defScope s_Lcheck) .none kVf13 dcf13 pmf13 anf13 cdf13
      ctf13), slf13⟩)
    (cf13 : PySem.W.codeIn K cdf13 "_law_check" = true)
    (kf13 : PySem.W.keepIn K (.ref f13) = true)
    (af14 : PySem.W.nsIn K mainGlobals "law" = some (some (.ref f14)))
    (lf14 : K.lookup f14 = some ⟨ocf14, odf14, .func (PySem.W.fnOf "law" "law"
      (defArgs s_law) (defBody s_law) (defScope s_law) .none kVf14 dcf14 pmf14 anf14 cdf14
      ctf14), slf14⟩)
    (cf14 : PySem.W.codeIn K cdf14 "law" = true)
    (kf14 : PySem.W.keepIn K (.ref f14) = true)
    (af15 : PySem.W.nsIn K mainGlobals "names_fault" = some (some (.ref f15)))
    (lf15 : K.lookup f15 = some ⟨ocf15, odf15, .func (PySem.W.fnOf "names_fault" "names_fault"
      (defArgs s_names_fault) (defBody s_names_fault) (defScope s_names_fault) .none kVf15 dcf15 pmf15 anf15 cdf15
      ctf15), slf15⟩)
    (cf15 : PySem.W.codeIn K cdf15 "names_fault" = true)
    (kf15 : PySem.W.keepIn K (.ref f15) = true)
    (aC : PySem.W.nsIn K mainGlobals "Base" = some (some (.ref C)))
    (am1 : PySem.W.findIn K (.ref C) "__init__" = some (some (.ref m1)))
    (im1 : PySem.W.isFn K (.ref m1) = true)
    (lm1 : K.lookup m1 = some ⟨ocm1, odm1, .func (PySem.W.fnOf "__init__" "Base.__init__"
      (defArgs s_Base_init) (defBody s_Base_init) (defScope s_Base_init) .none kVm1 dcm1 pmm1 anm1 cdm1
      ctm1), slm1⟩)
    (cm1 : PySem.W.codeIn K cdm1 "Base.__init__" = true)
    (km1 : PySem.W.keepIn K (.ref m1) = true)
    (am2 : PySem.W.findIn K (.ref C) "__repr__" = some (some (.ref m2)))
    (im2 : PySem.W.isFn K (.ref m2) = true)
    (lm2 : K.lookup m2 = some ⟨ocm2, odm2, .func (PySem.W.fnOf "__repr__" "Base.__repr__"
      (defArgs s_Base_repr) (defBody s_Base_repr) (defScope s_Base_repr) .none kVm2 dcm2 pmm2 anm2 cdm2
      ctm2), slm2⟩)
    (cm2 : PySem.W.codeIn K cdm2 "Base.__repr__" = true)
    (km2 : PySem.W.keepIn K (.ref m2) = true)
    (am3 : PySem.W.findIn K (.ref C) "names" = some (some (.ref m3)))
    (im3 : PySem.W.isFn K (.ref m3) = true)
    (lm3 : K.lookup m3 = some ⟨ocm3, odm3, .func (PySem.W.fnOf "names" "Base.names"
      (defArgs s_Base_names) (defBody s_Base_names) (defScope s_Base_names) .none kVm3 dcm3 pmm3 anm3 cdm3
      ctm3), slm3⟩)
    (cm3 : PySem.W.codeIn K cdm3 "Base.names" = true)
    (km3 : PySem.W.keepIn K (.ref m3) = true)
    (pg : PySem.W.plainGet K C Str.empty = true)
    (hd : PySem.W.hasDictIn K C = true)
    (po : PySem.W.plainOver K C = true)
    (sa : PySem.W.findIn K (.ref C) "__setattr__" =
      some (some (.builtin "object.__setattr__")))
    (ha : PySem.W.findIn K (.ref C) "__class__" =
      some (some (.builtin "object.__class__")))
    (hn : PySem.W.specialIn K (.builtin "object.__class__") "__get__" =
      some (some (.builtin "getset_descriptor.__get__")))
    (htk : PySem.W.takesIn K (.builtin "object.__class__") = some true)
    (hm : PySem.W.mroIn K C (.type "object") = some true)
    (mk : PySem.W.makesIn K C = true)
    (kc : PySem.W.keepIn K (.ref C) = true)
    (nL : PySem.W.findIn K (.ref C) "listed" = some none)
    (nP : PySem.W.findIn K (.ref C) "places" = some none)
    (c40 : PySem.W.nsIn K mainGlobals "MAX_ITEMS" = some (some (.int 40 t40)))
    (c8 : PySem.W.nsIn K mainGlobals "MAX_NAME_LENGTH" =
      some (some (.int 8 t8)))
    (kL : PySem.W.subIn K (.ref C) (.type "list") = some false)
    (zlen : PySem.W.nsIn K mainGlobals "len" = some none)
    (zdivmod : PySem.W.nsIn K mainGlobals "divmod" = some none)
    (zabs : PySem.W.nsIn K mainGlobals "abs" = some none)
    (zmax : PySem.W.nsIn K mainGlobals "max" = some none)
    (zmin : PySem.W.nsIn K mainGlobals "min" = some none)
    (zrange : PySem.W.nsIn K mainGlobals "range" = some none)
    (zenumerate : PySem.W.nsIn K mainGlobals "enumerate" = some none)
    (zisinstance : PySem.W.nsIn K mainGlobals "isinstance" = some none)
    (zstr : PySem.W.nsIn K mainGlobals "str" = some none)
    (zlist : PySem.W.nsIn K mainGlobals "list" = some none)
    (zset : PySem.W.nsIn K mainGlobals "set" = some none)
    (zall : PySem.W.nsIn K mainGlobals "all" = some none)
    (zrepr : PySem.W.nsIn K mainGlobals "repr" = some none)
    (aCO : PySem.W.nsIn K mainGlobals "OrderError" = some (some (.ref CO)))
    (iCO : PySem.W.isClsIn K CO = true)
    (tCO : PySem.W.typeIn K (.ref CO) = some (.type "type"))
    (aCV : PySem.W.nsIn K mainGlobals "InvalidOrder" = some (some (.ref CV)))
    (iCV : PySem.W.isClsIn K CV = true)
    (tCV : PySem.W.typeIn K (.ref CV) = some (.type "type"))
    (aCT : PySem.W.nsIn K mainGlobals "InvalidText" = some (some (.ref CT)))
    (iCT : PySem.W.isClsIn K CT = true)
    (tCT : PySem.W.typeIn K (.ref CT) = some (.type "type"))
    (aCU : PySem.W.nsIn K mainGlobals "InvalidUsers" = some (some (.ref CU)))
    (iCU : PySem.W.isClsIn K CU = true)
    (tCU : PySem.W.typeIn K (.ref CU) = some (.type "type"))
    (eCO : PySem.W.subIn K (.ref CO) (.type "BaseException") = some true)
    (aCI : PySem.W.nsIn K mainGlobals "InvalidBase" = some (some (.ref CI)))
    (xCI : K.lookup CI = some (excClassObj nmCI qCI CI NCI bsCI [.ref CO,
      .type "ValueError", .type "Exception", .type "BaseException",
      .type "object"] true snCI subCI abCI colCI ddCI k0CI k1CI k2CI k3CI k5CI
      "ValueError.__new__"))
    (saCI : PySem.W.findIn K (.ref CI) "__setattr__" =
      some (some (.builtin "object.__setattr__")))
    (gaCI : PySem.W.findIn K (.ref CI) "__getattribute__" =
      some (some (.builtin "BaseException.__getattribute__")))
    (ggCI : PySem.W.findIn K (.ref CI) "__getattr__" = some none)
    (haCI : PySem.W.findIn K (.ref CI) "__class__" =
      some (some (.builtin "object.__class__")))
    (hmCI : PySem.W.mroIn K CI (.type "object") = some true)
    (eCCI : PySem.W.subIn K (.ref CI) (.type "BaseException") = some true)
    (tCCI : PySem.W.typeIn K (.ref CI) = some (.type "type"))
    (kCCI : PySem.W.keepIn K (.ref CI) = true)
    (hCCI : PySem.W.hasDictIn K CI = true)
    (n0CI : PySem.W.findIn K (.ref CI) "problem" = some none)
    (n1CI : PySem.W.findIn K (.ref CI) "position" = some none)
    (ag1 : PySem.W.findIn K (.ref CI) "__init__" = some (some (.ref g1)))
    (tg1 : PySem.W.typeIn K (.ref g1) = some (.type "function"))
    (lg1 : K.lookup g1 = some ⟨ocg1, odg1, .func (PySem.W.fnOf "__init__" "InvalidBase.__init__"
      (defArgs s_InvalidBase_init) (defBody s_InvalidBase_init) (defScope s_InvalidBase_init) .none kVg1 dcg1 pmg1 ang1 cdg1
      ctg1), slg1⟩)
    (cg1 : PySem.W.codeIn K cdg1 "InvalidBase.__init__" = true)
    (kg1 : PySem.W.keepIn K (.ref g1) = true)
    (zVE : PySem.W.nsIn K mainGlobals "ValueError" = some none)
    (sCO : PySem.W.subIn K (.ref CI) (.ref CO) = some true)
    (kE : PySem.W.subIn K (.ref CI) (.type "ValueError") = some true)
    (sCV : PySem.W.subIn K (.ref CI) (.ref CV) = some false)
    (neCV : (CI == CV) = false)
    (sCT : PySem.W.subIn K (.ref CI) (.ref CT) = some false)
    (neCT : (CI == CT) = false)
    (sCU : PySem.W.subIn K (.ref CI) (.ref CU) = some false)
    (neCU : (CI == CU) = false)
    : ∃ fd : FuncData, (∀ (s : Shared) (v : Value),
        BindsTo s fd ⟨[v], []⟩ [("_law_script", v)]) ∧
      ∀ base : Heap, K.In base → base.Ns mainGlobals mg →
        (∃ o, base.get? sysModules = some o) →
        FnG l.prog w K mg base CX0 9 fa fd ["_law_script"] (spLaw K) := by
  cases hfa.symm.trans (PySem.W.mg_of X G af14)
  have B : Bl mg := ⟨PySem.W.mg_none_of X G zlen, PySem.W.mg_none_of X G zdivmod, PySem.W.mg_none_of X G zabs, PySem.W.mg_none_of X G zmax, PySem.W.mg_none_of X G zmin, PySem.W.mg_none_of X G zrange, PySem.W.mg_none_of X G zenumerate, PySem.W.mg_none_of X G zisinstance, PySem.W.mg_none_of X G zstr, PySem.W.mg_none_of X G zlist, PySem.W.mg_none_of X G zset, PySem.W.mg_none_of X G zall, PySem.W.mg_none_of X G zrepr⟩
  have T : BC K mg C := ⟨⟨⟨pg, hd, po, sa⟩, ha, hn, htk, hm,
    if_pos (beq_self_eq_true _)⟩, nL, nP,
    PySem.W.mg_of X G aC, kc⟩
  obtain ⟨d1, D1⟩ := defAt (st := s_is_name) (ps := ["value"]) X G af1 lf1 cf1 kf1
    fun _ _ _ _ _ _ us hl => match us, hl with | [_], _ => rfl
  obtain ⟨d2, D2⟩ := defAt (st := s_check_items) (ps := ["items"]) X G af2 lf2 cf2 kf2
    fun _ _ _ _ _ _ us hl => match us, hl with | [_], _ => rfl
  obtain ⟨d3, D3⟩ := defAt (st := s_Lrng) (ps := ["_law_script", "_law_k"]) X G af3 lf3 cf3 kf3
    fun _ _ _ _ _ _ us hl => match us, hl with | [_, _], _ => rfl
  obtain ⟨d4, D4⟩ := defAt (st := s_Ldraw) (ps := ["_law_rng_here", "_law_many"]) X G af4 lf4 cf4 kf4
    fun _ _ _ _ _ _ us hl => match us, hl with | [_, _], _ => rfl
  obtain ⟨d5, D5⟩ := defAt (st := s_Lchoice) (ps := ["_law_rng_here", "_law_options"]) X G af5 lf5 cf5 kf5
    fun _ _ _ _ _ _ us hl => match us, hl with | [_, _], _ => rfl
  obtain ⟨d6, D6⟩ := defAt (st := s_Lname) (ps := ["_law_rng_here", "_law_used"]) X G af6 lf6 cf6 kf6
    fun _ _ _ _ _ _ us hl => match us, hl with | [_, _], _ => rfl
  obtain ⟨d7, D7⟩ := defAt (st := s_Lnames) (ps := ["_law_rng_here", "_law_many", "_law_used"]) X G af7 lf7 cf7 kf7
    fun _ _ _ _ _ _ us hl => match us, hl with | [_, _, _], _ => rfl
  obtain ⟨d8, D8⟩ := defAt (st := s_Lis_name) (ps := ["_law_value"]) X G af8 lf8 cf8 kf8
    fun _ _ _ _ _ _ us hl => match us, hl with | [_], _ => rfl
  obtain ⟨d9, D9⟩ := defAt (st := s_Ldue) (ps := ["_law_value"]) X G af9 lf9 cf9 kf9
    fun _ _ _ _ _ _ us hl => match us, hl with | [_], _ => rfl
  obtain ⟨d10, D10⟩ := defAt (st := s_Linvalid_name) (ps := ["_law_rng_here", "_law_items"]) X G af10 lf10 cf10 kf10
    fun _ _ _ _ _ _ us hl => match us, hl with | [_, _], _ => rfl
  obtain ⟨d11, D11⟩ := defAt (st := s_Lspoilt) (ps := ["_law_rng_here", "_law_items"]) X G af11 lf11 cf11 kf11
    fun _ _ _ _ _ _ us hl => match us, hl with | [_, _], _ => rfl
  obtain ⟨d12, D12⟩ := defAt (st := s_Loutcome) (ps := ["_law_value"]) X G af12 lf12 cf12 kf12
    fun _ _ _ _ _ _ us hl => match us, hl with | [_], _ => rfl
  obtain ⟨d13, D13⟩ := defAt (st := s_Lcheck) (ps := ["_law_value"]) X G af13 lf13 cf13 kf13
    fun _ _ _ _ _ _ us hl => match us, hl with | [_], _ => rfl
  obtain ⟨d14, D14⟩ := defAt (st := s_law) (ps := ["_law_script"]) X G af14 lf14 cf14 kf14
    fun _ _ _ _ _ _ us hl => match us, hl with | [_], _ => rfl
  obtain ⟨d15, D15⟩ := defAt (st := s_names_fault) (ps := ["value", "most"]) X G af15 lf15 cf15 kf15
    fun _ _ _ _ _ _ us hl => match us, hl with | [_, _], _ => rfl
  obtain ⟨e1, M1⟩ := methAt (st := s_Base_init) (ps := ["self", "items"]) am1 im1 lm1 cm1 km1
    fun _ _ _ _ _ _ us hl => match us, hl with | [_, _], _ => rfl
  obtain ⟨e2, M2⟩ := methAt (st := s_Base_repr) (ps := ["self"]) am2 im2 lm2 cm2 km2
    fun _ _ _ _ _ _ us hl => match us, hl with | [_], _ => rfl
  obtain ⟨e3, M3⟩ := methAt (st := s_Base_names) (ps := ["self"]) am3 im3 lm3 cm3 km3
    fun _ _ _ _ _ _ us hl => match us, hl with | [_], _ => rfl
  obtain ⟨h1, I1⟩ := xInit (q := "InvalidBase.__init__") (st := s_InvalidBase_init) (ps := ["self", "problem", "position"]) ag1 tg1 lg1 cg1 kg1
    fun _ _ _ _ _ _ us hl => match us, hl with | [_, _, _], _ => rfl
  have xcCI : XCl K CI := ⟨⟨⟨_, _, _, _, _, _, _, _, _, _, _, _, _, _, _, xCI,
    by show PySem.HandSPX.refsVE PySem.HandSPX.veTail = true; decide +kernel⟩, saCI, eCCI, tCCI, kCCI⟩, ⟨gaCI, ggCI, eCCI, hCCI⟩,
    haCI, hn, htk, hmCI⟩
  have XX : XB K mg CI CO CV CT CU := ⟨xcCI, PySem.W.mg_of X G aCI, PySem.W.mg_of X G aCO,
    PySem.W.mg_of X G aCV, PySem.W.mg_of X G aCT, PySem.W.mg_of X G aCU,
    PySem.W.mg_none_of X G zVE, exm2 eCO iCO tCO sCO,
    kitAny_cons (kit2 neCV iCV tCV sCV) (fun _ => kitAny_cons (kit2 neCT iCT tCT sCT)
      (fun _ => kitAny_cons (kit2 neCU iCU tCU sCU) (fun _ => rfl) nofun) nofun) nofun, kitT (by decide +kernel) kE, n0CI, n1CI⟩
  refine ⟨d14, fun s v => D14.bt s [v] rfl, fun base _ _ sm => ?_⟩
  exact all12 B T mk (PySem.W.mg_of X G c40) (PySem.W.mg_of X G c8) (kitT (by decide +kernel) kL) XX sm
    D1 D2 D3 D4 D5 D6 D7 D8 D9 D10 D11 D12 D13 D14 D15 M1 M2 M3 I1
end OM
open PySem PySem.W PyProof.Rows
set_option maxRecDepth 100000 in
set_option maxHeartbeats 0 in
theorem PySem.Challenge.cw_ordermerge_k12_first_invalid_item_holds : PySem.Challenge.rw_ordermerge_k12_first_invalid_item.Holds := by
  w_on; o_law; k_head; (case hw => w_witness2)
  k_fill
  refine OM.walkS (l := PySem.Challenge.rw_ordermerge_k12_first_invalid_item) (n := 63) (k := 9)
    (x := "_law_script") (sp := OM.spLaw) rfl (by decide) (by decide +kernel) rfl
    ⟨rfl, by decide, by decide⟩ (fun w h Y => PySem.W.kIn_of Y) ?F
    (fun K H a ns hl _ hS => ⟨a, ns, rfl, hS, hl, fun _ => rfl⟩)
  case F =>
    intro w mg fa h KX G hmg
    refine' OM.fin12 KX G hmg ?af1
      ?lf1
      ?cf1
      ?kf1
      ?af2
      ?lf2
      ?cf2
      ?kf2
      ?af3
      ?lf3
      ?cf3
      ?kf3
      ?af4
      ?lf4
      ?cf4
      ?kf4
      ?af5
      ?lf5
      ?cf5
      ?kf5
      ?af6
      ?lf6
      ?cf6
      ?kf6
      ?af7
      ?lf7
      ?cf7
      ?kf7
      ?af8
      ?lf8
      ?cf8
      ?kf8
      ?af9
      ?lf9
      ?cf9
      ?kf9
      ?af10
      ?lf10
      ?cf10
      ?kf10
      ?af11
      ?lf11
      ?cf11
      ?kf11
      ?af12
      ?lf12
      ?cf12
      ?kf12
      ?af13
      ?lf13
      ?cf13
      ?kf13
      ?af14
      ?lf14
      ?cf14
      ?kf14
      ?af15
      ?lf15
      ?cf15
      ?kf15
      ?aC
      ?am1
      ?im1
      ?lm1
      ?cm1
      ?km1
      ?am2
      ?im2
      ?lm2
      ?cm2
      ?km2
      ?am3
      ?im3
      ?lm3
      ?cm3
      ?km3
      ?pg
      ?hd
      ?po
      ?sa
      ?ha
      ?hn
      ?htk
      ?hm
      ?mk
      ?kc
      ?nL
      ?nP
      ?c40
      ?c8
      ?kL
      ?zlen
      ?zdivmod
      ?zabs
      ?zmax
      ?zmin
      ?zrange
      ?zenumerate
      ?zisinstance
      ?zstr
      ?zlist
      ?zset
      ?zall
      ?zrepr
      ?aCO
      ?iCO
      ?tCO
      ?aCV
      ?iCV
      ?tCV
      ?aCT
      ?iCT
      ?tCT
      ?aCU
      ?iCU
      ?tCU
      ?eCO
      ?aCI
      ?xCI
      ?saCI
      ?gaCI
      ?ggCI
      ?haCI
      ?hmCI
      ?eCCI
      ?tCCI
      ?kCCI
      ?hCCI
      ?n0CI
      ?n1CI
      ?ag1
      ?tg1
      ?lg1
      ?cg1
      ?kg1
      ?zVE
      ?sCO
      ?kE
      ?sCV
      ?neCV
      ?sCT
      ?neCT
      ?sCU
      ?neCU
    (case af1 => k_is)
    (case lf1 => k_is)
    (case cf1 => k_is)
    (case kf1 => k_is)
    (case af2 => k_is)
    (case lf2 => k_is)
    (case cf2 => k_is)
    (case kf2 => k_is)
    (case af3 => k_is)
    (case lf3 => k_is)
    (case cf3 => k_is)
    (case kf3 => k_is)
    (case af4 => k_is)
    (case lf4 => k_is)
    (case cf4 => k_is)
    (case kf4 => k_is)
    (case af5 => k_is)
    (case lf5 => k_is)
    (case cf5 => k_is)
    (case kf5 => k_is)
    (case af6 => k_is)
    (case lf6 => k_is)
    (case cf6 => k_is)
    (case kf6 => k_is)
    (case af7 => k_is)
    (case lf7 => k_is)
    (case cf7 => k_is)
    (case kf7 => k_is)
    (case af8 => k_is)
    (case lf8 => k_is)
    (case cf8 => k_is)
    (case kf8 => k_is)
    (case af9 => k_is)
    (case lf9 => k_is)
    (case cf9 => k_is)
    (case kf9 => k_is)
    (case af10 => k_is)
    (case lf10 => k_is)
    (case cf10 => k_is)
    (case kf10 => k_is)
    (case af11 => k_is)
    (case lf11 => k_is)
    (case cf11 => k_is)
    (case kf11 => k_is)
    (case af12 => k_is)
    (case lf12 => k_is)
    (case cf12 => k_is)
    (case kf12 => k_is)
    (case af13 => k_is)
    (case lf13 => k_is)
    (case cf13 => k_is)
    (case kf13 => k_is)
    (case af14 => k_is)
    (case lf14 => k_is)
    (case cf14 => k_is)
    (case kf14 => k_is)
    (case af15 => k_is)
    (case lf15 => k_is)
    (case cf15 => k_is)
    (case kf15 => k_is)
    (case aC => k_is)
    (case am1 => k_is)
    (case im1 => k_is)
    (case lm1 => k_is)
    (case cm1 => k_is)
    (case km1 => k_is)
    (case am2 => k_is)
    (case im2 => k_is)
    (case lm2 => k_is)
    (case cm2 => k_is)
    (case km2 => k_is)
    (case am3 => k_is)
    (case im3 => k_is)
    (case lm3 => k_is)
    (case cm3 => k_is)
    (case km3 => k_is)
    (case pg => k_is)
    (case hd => k_is)
    (case po => k_is)
    (case sa => k_is)
    (case ha => k_is)
    (case hn => k_is)
    (case htk => k_is)
    (case hm => k_is)
    (case mk => k_is)
    (case kc => k_is)
    (case nL => k_is)
    (case nP => k_is)
    (case c40 => k_is)
    (case c8 => k_is)
    (case kL => k_is)
    (case zlen => k_is)
    (case zdivmod => k_is)
    (case zabs => k_is)
    (case zmax => k_is)
    (case zmin => k_is)
    (case zrange => k_is)
    (case zenumerate => k_is)
    (case zisinstance => k_is)
    (case zstr => k_is)
    (case zlist => k_is)
    (case zset => k_is)
    (case zall => k_is)
    (case zrepr => k_is)
    (case aCO => k_is)
    (case iCO => k_is)
    (case tCO => k_is)
    (case aCV => k_is)
    (case iCV => k_is)
    (case tCV => k_is)
    (case aCT => k_is)
    (case iCT => k_is)
    (case tCT => k_is)
    (case aCU => k_is)
    (case iCU => k_is)
    (case tCU => k_is)
    (case eCO => k_is)
    (case aCI => k_is)
    (case xCI => k_is)
    (case saCI => k_is)
    (case gaCI => k_is)
    (case ggCI => k_is)
    (case haCI => k_is)
    (case hmCI => k_is)
    (case eCCI => k_is)
    (case tCCI => k_is)
    (case kCCI => k_is)
    (case hCCI => k_is)
    (case n0CI => k_is)
    (case n1CI => k_is)
    (case ag1 => k_is)
    (case tg1 => k_is)
    (case lg1 => k_is)
    (case cg1 => k_is)
    (case kg1 => k_is)
    (case zVE => k_is)
    (case sCO => first | rfl | k_is)
    (case kE => k_is)
    (case sCV => first | rfl | k_is)
    (case neCV => first | rfl | decide | k_is)
    (case sCT => first | rfl | k_is)
    (case neCT => first | rfl | decide | k_is)
    (case sCU => first | rfl | k_is)
    (case neCU => first | rfl | decide | k_is)
