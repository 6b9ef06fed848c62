import PyProof.Rows.All
import Wide.All
import OpenK.AllK
import Wide.FinOn
import HandS.ForMost
import HandS.Flow
import HandS.Wide
import HandS.RaiseMore
import HandS.SortInts
import HandS.Zip
import HandS.Walk
import HandS.Star
import HandS.TupAny
import HandS.TupMul
import HandS.IsInst
import PyProof.ReprRoads
import KE.KDictZip
import KE.GoesMore
import PyProof.EnumMake
import HandS.FStr
import HandS.Conv
import HandS.Strs
import KE.GoesZip
import KE.GoesEnum
import HandS.Lambda
import KE.KSortKey
import KE.SortCalls
import HandS.Keys
import HandS.EndTab
import HandS.TupLe
import HandS.Deep
import KE.DataMinMax
import KE.SortData
import HandS.Style
import HandS.SetFor
import HandS.SortRule
import KE.DataMinKey
import KE.KRevSl
import HandS.DictTup
import HandS.TupSets
import KE.KSortTupG
import HandS.ExcIs
import HandS.Exc
import HandS.ExcOwn
import HandS.ExcValue
import HandS.ExcField
import HandS.ExcInit
import HandS.ReHeld
import KE.KExcIs
import PyProof.StrLawsRepr
import PyProof.Ascii
import PyProof.Rows.IntBool
import PyProof.Rows.EqBoolInt
import HandS.Text
import PyProof.ReprReads
import PySem.Challenge.RW_creditfloor_k50_prices_and_spares_by_nam
set_option Elab.async false
set_option linter.all false
set_option maxRecDepth 100000
namespace Cf
open PySem PySem.Spec PyProof.Rows L2

/-! defs that run where nothing is being shown (no guard is up), so that repr may be used in them -/
structure FnG (P : Program) (w : World) (K : PySem.W.Frag) (mg : Str → Option Value)
    (base : Heap) (CX : CXT) (k : Nat) (f : Addr) (fd : FuncData)
    (ps : List Str) (sp : Sp) : Prop where
  len : ∀ vs H Q E, sp vs H Q E →
    vs.length = ps.length
  run : ∀ (A : Around) (outer : List Env) (s : Shared) (H : Hp) (args : Args) (us : List Value)
    (vs : List V) (Q : VK) (E : XK), Room k A → A.guards = some [] →
    Env0 P w K mg base A outer s H → BindsTo s fd args (ps.zip us) →
    Vals vs us → sp vs H Q E →
    codeAny (model P w) A (.call (.ref f) args) (CR CX outer P w H s Q E) s

section
variable {P : Program} {w : World} {K : PySem.W.Frag}
  {mg : Str → Option Value} {base : Heap}
theorem FnG.mono {CX : CXT} {j k : Nat} {f : Addr} {fd : FuncData} {ps : List Str} {sp : Sp}
    (F : FnG P w K mg base CX j f fd ps sp) (h : j ≤ k) :
    FnG P w K mg base CX k f fd ps sp :=
  ⟨F.len, fun A o s H a us vs Q E hr hg e b r q => F.run A o s H a us vs Q E (hr.mono h) hg e b r q⟩

theorem fnG_of {CX : CXT} {k : Nat} {x qual : Str} {st : Stmt} {f : Addr} {fd : FuncData}
    {N ps : List Str} {sp : Sp} (F : Fun K x qual st f fd) (S : FnScope N ps (defScope st))
    (len : ∀ vs H Q E, sp vs H Q E → vs.length = ps.length)
    (body : ∀ (cdv : Value) (A : Around) (outer : List Env) (s : Shared) (H : Hp) (vs : List V) (Q : VK) (E : XK),
      A.guards = some [] → Room k (A.deeper (envOfC qual (defScope st) s.heap.objs.size f cdv)) → sp vs H Q E →
      ∃ t, PSs (cxOf CX P w K mg base N qual (defScope st) f cdv A outer s H E) (defBody st) t ∧
        t { nx := fun _ H' => Q .non H', rt := Q } (start N vs) H) :
    FnG P w K mg base CX (k + 1) f fd ps sp := by
  obtain ⟨oc, od, kV, doc, pm, an, cd, ct, sl, rfl, look, code⟩ := F.ex
  constructor
  · exact len
  intro A outer s H args us vs Q E room gd env bind rel wish
  have hlen := len vs H Q E wish
  have keeps : ∀ b o, base.get? b = some o → s.heap.get? b = some o :=
    fun b o e => (env.bs b o e).1
  have inK : K.In s.heap := env.mod.kin.keeps keeps
  have noLim : s.heap.NoLimit := env.mod.nolimit.keeps keeps
  refine codeAny_call_function room.depth (inK f _ look) rfl S.co S.gen rfl
    (PySem.W.codeRec_of inK code) (bind _ _ _ _ ?_)
  refine wpAny_newFunctionEnv_cells S.kind ?_ ?_
  · rintro ⟨n, v⟩ hy
    cases S.par n (List.of_mem_zip hy).1 with
    | inl q => exact Or.inl q
    | inr q => exact Or.inr ⟨q, PySem.W.cellsFrom_some _ _ _ (Or.inl q)⟩
  · intro en hen s1 inCall
    subst hen
    refine ⟨noLim.keeps inCall.toInCall.keep, codeAny_func ?_⟩
    obtain ⟨t, judged, reading⟩ := body cd A outer s H vs Q E gd (room.deeper _) wish
    have I0 := inv_start (CX := CX) (E := E) S room.hd env hlen rel inCall
    have ends : ∀ {σ' : L2.St} {H' : Hp} {v : V} {u : Value} {s' : Shared},
        Inv (cxOf CX P w K mg base N qual (defScope st) f cd A outer s H E) [] σ' H' s' →
        RelV v u → Q v H' → CE outer P w H s Q u s' := by
      intro σ' H' v u s' J rv q
      exact ⟨v, H', J.os, J.bare, J.base, J.hok, rv, q⟩
    refine wpAny_mono (judged.run [] s1 (start N vs) H _ I0 reading) ?_ (fun _ _ h => h)
    intro fl s' hs
    match fl, hs with
    | .ret u, hs =>
      obtain ⟨v, σ', H', J, rv, q⟩ := hs
      exact ends J rv q
    | .next, hs =>
      obtain ⟨σ', H', J, q⟩ := hs
      exact ends (v := V.non) (u := Value.none) J rfl q
    | .brk, hs =>
      obtain ⟨_, _, _, q⟩ := hs
      exact q.elim
    | .cont, hs =>
      obtain ⟨_, _, _, q⟩ := hs
      exact q.elim

/-- a def that lets no exception out -/
theorem ok0 {k : Nat} {x qual : Str} {st : Stmt} {f : Addr} {fd : FuncData}
    {N ps : List Str} {sp : Sp} (F : Fun K x qual st f fd) (S : FnScope N ps (defScope st))
    (len : ∀ vs H Q E, sp vs H Q E → vs.length = ps.length)
    (body : ∀ (cdv : Value) (A : Around) (outer : List Env) (s : Shared) (H : Hp) (vs : List V) (Q : VK) (E : XK),
      (A.deeper (envOfC qual (defScope st) s.heap.objs.size f cdv)).guards = some [] → Room k (A.deeper (envOfC qual (defScope st) s.heap.objs.size f cdv)) → sp vs H Q E →
      ∃ t, PSs (cxOf CX0 P w K mg base N qual (defScope st) f cdv A outer s H E).nox (defBody st) t ∧
        t { nx := fun _ H' => Q .non H', rt := Q } (start N vs) H) :
    FnG P w K mg base CX0 (k + 1) f fd ps sp :=
  fnG_of F S len fun cd A o s H vs Q E g hr q =>
    let ⟨t, h, r⟩ := body cd A o s H vs Q E g hr q
    ⟨t, h.nox, r⟩

/-- what a caller knows of a def by its name -/
structure Cl (P : Program) (w : World) (K : PySem.W.Frag) (mg : Str → Option Value) (base : Heap)
    (CX : CXT) (k : Nat) (x : Str) (n : Nat) (sp : Sp) : Prop where
  ex : ∃ (f : Addr) (fd : FuncData) (ps : List Str), FnG P w K mg base CX k f fd ps sp ∧
    mg x = some (.ref f) ∧ PySem.W.keepIn K (.ref f) = true ∧ Binds K fd ps []
end
section
variable {X : Cx} {CX : CXT} {k n : Nat} {sp : Sp} {E : XK} {x : Str} {p pos : Pos} {e : Expr} {es : List Expr} {t : TA}
theorem pe_cl (C : Cl X.prog X.w X.K X.mg X.base CX k x n sp) (hr : Room k X.A) (hgd : X.A.guards = some [])
    (hx : Passes CX X E) (hg : Gl X x) (ha : PA X (e :: es) t)
    (hdb : (x == ("__debug__" : Str)) = false := by decide)
    (he : starEach (e :: es) X.env = (false, eval e X.env) :: starEach es X.env := by rfl)
    (hpl : (backTo pos (starEach es X.env)).any (·.1) = false := by rfl) :
    PE X (.Call (.Name x p) (e :: es) [] pos) (tCall sp [] E t) := by
  obtain ⟨f, fd, ps, F, hm, hk, hb⟩ := C.ex
  constructor
  intro pins s σ H Q I h
  refine wpAny_Call_Name_kw (ld_glob I hg hm ?_ hdb)
  refine PySem.W.callWith_K (h₀ := X.base) I.ok.mod.kin hk
    (thn (ha.run pos pins s σ H _ I h) ?_) he hpl
  rintro us s1 ⟨vs, H1, I1, r, q⟩
  refine ⟨I1.kIn, ?_⟩
  have q' : sp vs H1 Q E := by
    have q2 : sp (vs ++ []) H1 Q E := q
    rwa [List.append_nil] at q2
  have hl : us.length = ps.length := by
    rw [← r.length]
    exact F.len _ _ _ _ q'
  have hb' := hb s1 us I1.kIn (by rw [List.append_nil]; exact hl)
  rw [List.append_nil] at hb'
  refine wpAny_call (codeAny_mono (F.run X.A X.stack s1 H1 ⟨us, []⟩ us vs Q E hr hgd I1.env0 hb' r q') ?_)
  intro res s' hq
  match res, hq with
  | .error er, hq => exact hx pins σ H1 s1 er s' I1 hq
  | .ok (.ret u), hq => exact I1.after hq
  | .ok .next, hq => exact hq.elim
  | .ok .brk, hq => exact hq.elim
  | .ok .cont, hq => exact hq.elim

/-- repr(x) of data: None, bools, ints, texts, lists and tuples of such -/
def Shows (d : PyData) : Prop := d.showable = true ∧ d.depth ≤ 60 ∧ d.shown.length ≤ sizeLine
def rRepr (K : PySem.W.Frag) : List V → Hp → VK → Prop := fun xs H Q =>
  ∃ x d, xs = [x] ∧ Dp K H x d ∧ Shows d ∧ Q (.str d.shown) H
mutual
theorem noDict {K : PySem.W.Frag} {H : Hp} : ∀ {v : V} {d : PyData}, Dp K H v d → d.hasDict = false
  | _, _, .non => by simp only [PyData.hasDict]
  | _, _, .bl _ => by simp only [PyData.hasDict]
  | _, _, .int _ => by simp only [PyData.hasDict]
  | _, _, .str _ => by simp only [PyData.hasDict]
  | _, _, .lst _ h => by
    simp only [PyData.hasDict]
    exact noDicts h
  | _, _, .tup _ h => by
    simp only [PyData.hasDict]
    exact noDicts h
theorem noDicts {K : PySem.W.Frag} {H : Hp} : ∀ {vs : List V} {ds : List PyData}, DpAll K H vs ds → PyData.hasDictAll ds = false
  | _, _, .nil => by simp only [PyData.hasDictAll]
  | _, _, .cons h t => by
    simp only [PyData.hasDictAll]
    rw [noDict h, noDicts t]
    rfl
end
theorem call_repr {k : Nat} (hr : Room k X.A) (hgd : X.A.guards = some []) : CallR X (.builtin "repr") (rRepr X.K) := by
  intro pins s σ H xs us Q I r h
  obtain ⟨x, d, rfl, hd, ⟨hs, hdp, hz⟩, q⟩ := h
  obtain ⟨u, rfl, ru⟩ := vals1 r
  obtain ⟨as, rd⟩ := Dp.reads I d x u hd ru
  have nd := noDict hd
  have hun := hr.un
  cases hd with
  | non =>
    have e : u = Value.none := ru
    subst e
    simp only [PyData.shown] at q
    exact PySem.P.repr_of_none ⟨.str _, H, I.tok _, ⟨_, rfl⟩, q⟩
  | bl b =>
    have e : u = Value.bool b := ru
    subst e
    simp only [PyData.shown] at q
    exact PySem.P.repr_of_bool ⟨.str _, H, I.tok _, ⟨_, rfl⟩, q⟩
  | int i =>
    obtain ⟨t, rfl⟩ := ru
    simp only [PyData.shown] at q
    simp only [PyData.showable, decide_eq_true_eq] at hs
    exact PySem.P.repr_of_int hs ⟨.str _, H, I.tok _, ⟨_, rfl⟩, q⟩
  | str y =>
    obtain ⟨t, rfl⟩ := ru
    simp only [PyData.shown] at q hz
    exact PySem.P.repr_of_str ⟨.str _, H, I.tok _, ⟨_, rfl⟩, q⟩ hz
  | lst sq al =>
    have e : u = Value.ref _ := ru
    subst e
    exact repr_of_reads' rd hs (PyData.noDict_hsm nd) hgd (by omega) (fun _ _ h => h)
      (fun h' t tk hk => ⟨.str _, H, I.kept hk, ⟨_, rfl⟩, q⟩) hz
  | tup sq al =>
    have e : u = Value.ref _ := ru
    subst e
    exact repr_of_reads' rd hs (PyData.noDict_hsm nd) hgd (by omega) (fun _ _ h => h)
      (fun h' t tk hk => ⟨.str _, H, I.kept hk, ⟨_, rfl⟩, q⟩) hz
end

section
variable {P : Program} {w : World} {K : PySem.W.Frag} {mg mb : Str → Option Value} {CX : CXT}
  {k : Nat} {fa a : Addr} {fd : FuncData} {x : Str} {sp : Sp}
/-- the law's own call, its promise known where no guard is up -/
theorem law_callG {s0 : Shared} {vs : List Value} {ns : List Int}
    (inK : K.In s0.heap) (glb : s0.heap.Ns mainGlobals mg) (blt : s0.heap.Ns builtinsNs mb)
    (bb : ∀ x : Str, x ≠ "__name__" → mb x = bootBuiltins x) (lim : s0.heap.NoLimit) (hg : s0.gens = #[])
    (ha : s0.heap.get? a = some { cls := .type "list", data := .seq vs.toArray })
    (hi : IntsAre vs ns) (hl : ns.length ≤ sizeLine) (hr : Room k callerA)
    (F : ∀ base : Heap, K.In base → base.Ns mainGlobals mg → FnG P w K mg base CX k fa fd [x] sp)
    (bind : ∀ (s : Shared) (u : Value), BindsTo s fd ⟨[u], []⟩ [(x, u)])
    (wish : ∀ H : Hp, Only H → SqL K H a (ns.map V.int) →
      sp [.ref a] H (fun v _ => v = .bl true) fun _ _ _ => False)
    (noX : ∀ H e s', CX [] H s0 (fun _ _ _ => False) e s' → False) :
    codeAny (model P w) callerA (.call (.ref fa) ⟨[.ref a], []⟩)
      (fun r s' => r = .ok (.ret (.bool true)) ∧ OldK s0.heap s'.heap ∧ s'.os = s0.os ∧ AllBare s'.gens) s0 := by
  have rel := vals_ints hi
  have main : ∀ H : Hp, Only H → SqL K H a (ns.map V.int) → HOk P w H s0.heap →
      (∀ b, H b ≠ none → b = a) → (H a ≠ none → K.lookup a = none) →
      codeAny (model P w) callerA (.call (.ref fa) ⟨[.ref a], []⟩)
        (fun r s' => r = .ok (.ret (.bool true)) ∧ OldK s0.heap s'.heap ∧ s'.os = s0.os ∧ AllBare s'.gens) s0 := by
    intro H only sq hok one unK
    have out : ∀ {b : Addr}, b ≠ a → H b = none := by
      intro b hb
      cases q : H b with
      | none => rfl
      | some u => exact absurd (one b (by rw [q]; simp)) hb
    have nsB : ∀ {b : Addr} {m : Str → Option Value}, s0.heap.Ns b m → (hidT s0.heap H).Ns b m := by
      rintro b m ⟨o, es, ep, e, d, r⟩
      refine ⟨o, es, ep, hidT_get e (out ?_), d, r⟩
      intro hb
      subst hb
      rw [ha] at e
      cases e
      cases d
    have kB : K.In (hidT s0.heap H) := by
      intro b o e
      refine hidT_get (inK b o e) ?_
      by_cases hb : b = a
      · subst hb
        cases q : H b with
        | none => rfl
        | some u =>
          rw [unK (by rw [q]; simp)] at e
          cases e
      · exact out hb
    have limB : (hidT s0.heap H).NoLimit := by
      obtain ⟨mc, h1, h2⟩ := lim
      exact ⟨mc, nsB h1, h2⟩
    have env : Env0 P w K mg (hidT s0.heap H) callerA [] s0 H := by
      refine ⟨rfl, ⟨kB, nsB glb, ⟨mb, nsB blt, bb⟩, limB⟩, fun b o e => of_hidT e, Nat.le_of_eq (hidT_size _ _), trivial, ?_, hok, .of_eq hg⟩
      intro b hb
      cases hb
    have run := (F _ kB (nsB glb)).run callerA [] s0 H ⟨[.ref a], []⟩ [.ref a] [.ref a] _ _ hr rfl env
      (bind s0 (.ref a)) (.cons rfl .nil) (wish H only sq)
    refine codeAny_mono run ?_
    intro res s' h
    match res, h with
    | .error e, h => exact (noX H e s' h).elim
    | .ok .next, h => exact h.elim
    | .ok .brk, h => exact h.elim
    | .ok .cont, h => exact h.elim
    | .ok (.ret u), h =>
      obtain ⟨v, H', os, bare, un, hok', rv, q⟩ := h
      have q' : v = .bl true := q
      subst q'
      have eu : u = Value.bool true := rv
      subst eu
      refine ⟨rfl, OldK.of_keep ?_, os, bare⟩
      intro b o e
      cases z : H b with
      | none =>
        refine un.keep b o e z ?_ ?_
        · intro hb
          cases hb
        · intro hb
          cases hb
      | some u =>
        cases only b with
        | inl y => rw [z] at y; cases y
        | inr y =>
          obtain ⟨ob, xs, y⟩ := y
          obtain ⟨e1, _⟩ := hok b _ y
          obtain ⟨e2, _⟩ := hok' b _ (un.frzs b ob _ y)
          rw [e] at e1
          cases e1
          exact e2
  cases hk : K.lookup a with
  | some o =>
    have e := inK a o hk
    rw [ha] at e
    cases e
    refine main (fun _ => none) (fun _ => .inl rfl) (.inr ⟨_, vs.toArray, _, hk, rfl, rfl, rfl, ?_, by simpa using rel⟩) ?_ ?_ ?_
    · rw [List.size_toArray, hi.length]
      exact hl
    · intro b u z
      cases z
    · intro b z
      exact absurd rfl z
    · intro z
      exact absurd rfl z
  | none =>
    let H : Hp := upd (fun _ => none) a (.frz { cls := .type "list", data := .seq vs.toArray } (.lst (ns.map V.int)))
    have hH : ∀ b, b ≠ a → H b = none := fun b hb => upd_ne hb
    have hA : H a = some (.frz { cls := .type "list", data := .seq vs.toArray } (.lst (ns.map V.int))) := upd_same
    refine main H ?_ (.inl (.inr ⟨_, hA⟩)) ?_ ?_ (fun _ => hk)
    · intro b
      by_cases hb : b = a
      · subst hb
        exact .inr ⟨_, _, hA⟩
      · exact .inl (hH b hb)
    · intro b u z
      by_cases hb : b = a
      · subst hb
        rw [hA] at z
        cases z
        exact ⟨ha, by rw [List.length_map]; exact hl, vs, _, rel, ha⟩
      · rw [hH b hb] at z
        cases z
    · intro b z
      by_cases hb : b = a
      · exact hb
      · exact absurd (hH b hb) z
end
theorem walkG {l : PySem.W.OpenLaw} {n k : Nat} {q : Program} {loose : List Str}
    {XP : (Str → Option Value) → Heap → Prop} {YP : World → Heap → Prop} {d : DefRec}
    {K : Params → PySem.W.Frag} {sp : PySem.W.Frag → Sp} {x : Str}
    (hn : l.most = some n) (hn2 : n ≤ sizeLine) (hdf : d.params.defaults = []) (hr : Room k callerA)
    (hY : ∀ (w : World) (h : Heap), YP w h → (K w.params).In h)
    (F : ∀ (w : World) (mg : Str → Option Value) (fa : Addr) (h : Heap), (K w.params).In h →
      h.Ns mainGlobals mg → mg d.name = some (.ref fa) →
      ∃ fd : FuncData, (∀ (s : Shared) (u : Value), BindsTo s fd ⟨[u], []⟩ [(x, u)]) ∧
        ∀ base : Heap, (K w.params).In base → base.Ns mainGlobals mg →
          FnG l.prog w (K w.params) mg base CX0 k fa fd [x] (sp (K w.params)))
    (wish : ∀ (K : PySem.W.Frag) (H : Hp) (a : Addr) (ns : List Int), ns.length ≤ n → Only H →
      SqL K H a (ns.map V.int) → sp K [.ref a] H (fun v _ => v = .bl true) fun _ _ _ => False) :
    PySem.W.WalkO q loose XP YP l.row.toRowW d [] (fun f vs => PySem.call f vs) := by
  refine Att.attach_call hn hdf ?_
  intro w s0 s1 mg mb fa o pm cd doc a vs ns G Y ho hd hcd hmg hobj hints hlen hg
  have inK := hY w _ Y
  obtain ⟨fd, hb, hF⟩ := F w mg fa _ inK G.T.g hmg
  exact law_callG inK G.T.g G.T.b G.T.builtins G.T.nolimit hg hobj hints (Nat.le_trans hlen hn2) hr hF hb
    (fun H hO hS => wish _ H a ns hlen hO hS) (fun H e s' h => h)

/-! ### heaps that grow, and change at most at S -/
def Kp (S : List Addr) (H H' : Hp) : Prop := ∀ b o, b ∉ S → H b = some o → H' b = some o
/-- changed at p alone -/
def Md (p : Addr) (H H' : Hp) : Prop := ∀ b, b ≠ p → H' b = H b
section
variable {K : PySem.W.Frag} {S T : List Addr} {H H1 H2 : Hp} {p b : Addr} {o : HO} {xs : List V}
theorem Kp.refl : Kp S H H := fun _ _ _ h => h
theorem Kp.trans (a : Kp S H H1) (c : Kp S H1 H2) : Kp S H H2 := fun q o n h => c q o n (a q o n h)
theorem Kp.mono (a : Kp S H H1) (h : ∀ q ∈ S, q ∈ T) : Kp T H H1 := fun q o n e => a q o (fun z => n (h q z)) e
theorem Kp.wide (a : Kp [] H H1) : Kp S H H1 := a.mono fun _ z => nomatch z
theorem Kp.new (n : H p = none) : Kp S H (upd H p o) := fun q u _ e => by
  rw [upd_ne (ne_of_none e n)]
  exact e
theorem Kp.md (a : Kp S H H1) (h : H p = none ∨ p ∈ S) (m : Md p H1 H2) : Kp S H H2 := fun q u n e => by
  have hq : q ≠ p := by
    rintro rfl
    cases h with
    | inl h => rw [h] at e; cases e
    | inr h => exact n h
  rw [m q hq]
  exact a q u n e
theorem Md.upd : Md p H (upd H p o) := fun _ h => upd_ne h
theorem Md.kp (m : Md p H H1) : Kp [p] H H1 := fun q u n e => by
  rw [m q (fun z => n (by rw [z]; exact List.mem_singleton.mpr rfl))]
  exact e
theorem Kp.free (a : Kp S H H1) (n : p ∉ S) (h : H1 p = none) : H p = none := by
  cases q : H p with
  | none => rfl
  | some u => rw [a p u n q] at h; cases h
theorem Kp.free0 (a : Kp [] H H1) (h : H1 p = none) : H p = none := a.free (fun z => nomatch z) h
theorem Kp.at0 (a : Kp [] H H1) (h : H p = some o) : H1 p = some o := a p o (fun z => nomatch z) h
theorem Kp.at1 (a : Kp [b] H H1) (n : p ≠ b) (h : H p = some o) : H1 p = some o :=
  a p o (fun z => n (List.mem_singleton.mp z)) h
theorem Kp.lst (a : Kp S H H1) (n : p ∉ S) (h : SqL K H p xs) : SqL K H1 p xs := by
  rcases h with (h | ⟨u, h⟩) | h
  · exact .inl (.inl (a _ _ n h))
  · exact .inl (.inr ⟨u, a _ _ n h⟩)
  · exact .inr h
theorem Kp.lst0 (a : Kp [] H H1) (h : SqL K H p xs) : SqL K H1 p xs := a.lst (fun z => nomatch z) h
theorem Kp.lst1 (a : Kp [b] H H1) (n : p ≠ b) (h : SqL K H p xs) : SqL K H1 p xs := a.lst (fun z => n (List.mem_singleton.mp z)) h
theorem Kp.tup (a : Kp S H H1) (n : ∀ u, H p = some u → p ∉ S) (h : SqT K H p xs) : SqT K H1 p xs := by
  rcases h with (h | ⟨u, h⟩) | h
  · exact .inl (.inl (a _ _ (n _ h) h))
  · exact .inl (.inr ⟨u, a _ _ (n _ h) h⟩)
  · exact .inr h
theorem Kp.tup0 (a : Kp [] H H1) (h : SqT K H p xs) : SqT K H1 p xs := a.tup (fun _ _ z => nomatch z) h
/-- a tuple stays where a list is changed -/
theorem Kp.tup1 {ys : List V} (a : Kp [b] H H1) (hb : H b = some (.lst ys)) (h : SqT K H p xs) : SqT K H1 p xs := by
  have ne : ∀ u, H p = some u → (u = .tup xs ∨ ∃ o, u = .frz o (.tup xs)) → p ≠ b := by
    rintro u hu hz rfl
    rw [hb] at hu
    cases hu
    rcases hz with hz | ⟨_, hz⟩ <;> cases hz
  rcases h with (h | ⟨u, h⟩) | h
  · exact .inl (.inl (a.at1 (ne _ h (.inl rfl)) h))
  · exact .inl (.inr ⟨u, a.at1 (ne _ h (.inr ⟨_, rfl⟩)) h⟩)
  · exact .inr h
theorem sqL (h : H p = some (.lst xs)) : SqL K H p xs := .inl (.inl h)
theorem sqT (h : H p = some (.tup xs)) : SqT K H p xs := .inl (.inl h)
end
/-! ### rules whose readings keep heaps closed, and speak of ints -/
abbrev IL (H : Hp) (p : Addr) (ns : List Int) : Prop := H p = some (.lst (ns.map V.int))
section
variable {X : Cx} {e : Expr} {es : List Expr} {ta : TA} {te : TE} {pos : Pos}
theorem pe_imp {t t' : TE} (h : PE X e t) (w : ∀ σ H Q, t' σ H Q → t σ H Q) : PE X e t' :=
  ⟨fun pins s σ H Q I q => h.run pins s σ H Q I (w σ H Q q)⟩
/-- a new object: where it lies, and the heap around it -/
def New (H : Hp) (o : HO) (Q : V → Hp → Prop) : Prop := ∀ p H1, H p = none → Kp [] H H1 → H1 p = some o → Q (.ref p) H1
theorem New.go {H : Hp} {o : HO} {Q : V → Hp → Prop} (h : New H o Q) : ∀ p, H p = none → Q (.ref p) (upd H p o) :=
  fun p n => h p _ n (Kp.new n) upd_same

/-- a rule whose reading may be strengthened on the way -/
def upE (t : TE) : TE := fun σ H Q => ∃ Q0 : VK, t σ H Q0 ∧ ∀ v H1, Q0 v H1 → Q v H1
def upA (t : TA) : TA := fun σ H Q => ∃ Q0 : List V → Hp → Prop, t σ H Q0 ∧ ∀ v H1, Q0 v H1 → Q v H1
theorem pe_up {t : TE} (h : PE X e t) : PE X e (upE t) := ⟨fun pins s σ H Q I ⟨Q0, q, w⟩ =>
  thn (h.run pins s σ H Q0 I q) fun u s1 ⟨v, H1, I1, r, z⟩ => ⟨v, H1, I1, r, w v H1 z⟩⟩
theorem pa_up {t : TA} (h : PA X es t) : PA X es (upA t) := ⟨fun pos pins s σ H Q I ⟨Q0, q, w⟩ =>
  thn (h.run pos pins s σ H Q0 I q) fun u s1 ⟨v, H1, I1, r, z⟩ => ⟨v, H1, I1, r, w v H1 z⟩⟩
/-- [a, b, ..] of ints -/
def tLI (t : TA) : TE := fun σ H Q => t σ H fun xs H1 => ∃ ns : List Int, xs = ns.map V.int ∧ ns.length ≤ sizeLine ∧ New H1 (.lst (ns.map V.int)) Q
theorem pe_li (h : PA X es ta) : PE X (.List es pos) (tLI ta) :=
  pe_imp (pe_lst (pa_up h)) fun σ H Q q => ⟨_, q, fun xs H1 ⟨ns, ex, hl, n⟩ => by
    subst ex
    exact ⟨by rw [List.length_map]; exact hl, n.go⟩⟩
/-- [..] of anything -/
def tLA (t : TA) : TE := fun σ H Q => t σ H fun xs H1 => xs.length ≤ sizeLine ∧ New H1 (.lst xs) Q
theorem pe_la (h : PA X es ta) : PE X (.List es pos) (tLA ta) :=
  pe_imp (pe_lst (pa_up h)) fun σ H Q q => ⟨_, q, fun xs H1 ⟨hl, n⟩ => ⟨hl, n.go⟩⟩
def tTI (t : TA) : TE := fun σ H Q => t σ H fun xs H1 => ∃ ns : List Int, xs = ns.map V.int ∧ ns.length ≤ sizeLine ∧ New H1 (.tup (ns.map V.int)) Q
theorem pe_ti {k : Nat} (h : PA X es ta) : PE X (.Tuple es k pos) (tTI ta) :=
  pe_imp (pe_tup (pa_up h)) fun σ H Q q => ⟨_, q, fun xs H1 ⟨ns, ex, hl, n⟩ => by
    subst ex
    exact ⟨by rw [List.length_map]; exact hl, n.go⟩⟩
def tTA (t : TA) : TE := fun σ H Q => t σ H fun xs H1 => xs.length ≤ sizeLine ∧ New H1 (.tup xs) Q
theorem pe_ta {k : Nat} (h : PA X es ta) : PE X (.Tuple es k pos) (tTA ta) :=
  pe_imp (pe_tup (pa_up h)) fun σ H Q q => ⟨_, q, fun xs H1 ⟨hl, n⟩ => ⟨hl, n.go⟩⟩
theorem call_imp {f : Value} {r r' : List V → Hp → VK → Prop} (h : CallR X f r) (w : ∀ xs H Q, r' xs H Q → r xs H Q) : CallR X f r' :=
  fun pins s σ H xs us Q I rl q => h pins s σ H xs us Q I rl (w xs H Q q)
theorem op_imp {f : Value → Value → Sem Value} {r r' : R2} (h : OpR X f r) (w : ∀ x y H Q, r' x y H Q → r x y H Q) : OpR X f r' :=
  fun pins s σ H x y v u Q I rx ry q => h pins s σ H x y v u Q I rx ry (w x y H Q q)
theorem ix_imp {r r' : R2} (h : IxR X r) (w : ∀ x y H Q, r' x y H Q → r x y H Q) : IxR X r' :=
  fun e1 e2 pins s σ H x y v u Q I rx ry q => h e1 e2 pins s σ H x y v u Q I rx ry (w x y H Q q)
theorem sl_imp {r r' : V → Option Int → Option Int → Hp → VK → Prop} (h : SlR X r) (w : ∀ x lo hi H Q, r' x lo hi H Q → r x lo hi H Q) : SlR X r' :=
  fun pins s σ H x v vl vu lo hi sl Q I rx a b c q => h pins s σ H x v vl vu lo hi sl Q I rx a b c (w x lo hi H Q q)
theorem mt_imp {id : String} {r r' : V → List V → Hp → VK → Prop} (h : MtM X id r) (w : ∀ x xs H Q, r' x xs H Q → r x xs H Q) : MtM X id r' :=
  fun pins s σ H x xs v us Q I rx rs q => h pins s σ H x xs v us Q I rx rs (w x xs H Q q)
theorem set_imp {t t' : TSet} (h : PSet X t) (w : ∀ o i v H Q, t' o i v H Q → t o i v H Q) : PSet X t' :=
  fun pins s σ H o i v ov iv u Q I a b c q => h pins s σ H o i v ov iv u Q I a b c (w o i v H Q q)
/-- tuple(xs), list(xs) of a list or a tuple of ints -/
theorem call_tupL : CallR X (.type "tuple") (fun vs H Q => ∃ p xs, vs = [.ref p] ∧ SqL X.K H p xs ∧ New H (.tup xs) Q) :=
  call_imp call_tuple_of fun _ _ _ ⟨p, xs, e, h, n⟩ => ⟨p, xs, e, .inl ⟨h, n.go⟩⟩
theorem call_lstL : CallR X (.type "list") (fun vs H Q => ∃ p xs, vs = [.ref p] ∧ SqL X.K H p xs ∧ New H (.lst xs) Q) :=
  call_imp call_list_of fun _ _ _ ⟨p, xs, e, h, n⟩ => ⟨p, xs, e, .inl h, n.go⟩
theorem call_lstT : CallR X (.type "list") (fun vs H Q => ∃ p xs, vs = [.ref p] ∧ SqT X.K H p xs ∧ New H (.lst xs) Q) :=
  call_imp call_list_of fun _ _ _ ⟨p, xs, e, h, n⟩ => ⟨p, xs, e, .inr h, n.go⟩
/-- xs[i] of ints, 0 ≤ i -/
theorem getD_map {ns : List Int} {j : Nat} (h : j < ns.length) : (ns.map V.int)[j]? = some (.int (ns.getD j 0)) := by
  rw [List.getElem?_map, List.getElem?_eq_getElem h, List.getD_eq_getElem?_getD, List.getElem?_eq_getElem h]
  rfl
def rIxI (S : Hp → Addr → List V → Prop) : R2 := fun x y H Q => ∃ p, ∃ ns : List Int, ∃ i : Int, x = .ref p ∧ y = .int i ∧ S H p (ns.map V.int) ∧ (0 ≤ i ∧ i < (ns.length : Int)) ∧ Q (.int (ns.getD i.toNat 0)) H
def rIxE (S : Hp → Addr → List V → Prop) : R2 := fun x y H Q => ∃ p, ∃ ns : List Int, ∃ i : Int, x = .ref p ∧ y = .int i ∧ S H p (ns.map V.int) ∧ (i = -1 ∧ 0 < ns.length) ∧ Q (.int (ns.getD (ns.length - 1) 0)) H
theorem at_of {ns : List Int} {i : Int} (h : 0 ≤ i ∧ i < (ns.length : Int)) : atI (ns.map V.int) i = some (.int (ns.getD i.toNat 0)) := by
  have e : ((i.toNat : Nat) : Int) = i := by omega
  have q := atI_nat (getD_map (ns := ns) (j := i.toNat) (by omega))
  rw [e] at q
  exact q
theorem at_end {ns : List Int} (h : 0 < ns.length) : atI (ns.map V.int) (-1) = some (.int (ns.getD (ns.length - 1) 0)) := by
  have q : ixN (ns.map V.int).length (-1) = some (ns.length - 1) := by
    unfold ixN
    rw [List.length_map, if_neg (by decide), if_pos (by omega)]
    exact congrArg some (by omega)
  unfold atI
  rw [q]
  exact getD_map (by omega)
theorem ix_li : IxR X (rIxI (SqL X.K)) := ix_imp ix_list fun _ _ _ _ ⟨p, ns, i, a, b, c, d, q⟩ => ⟨p, _, i, _, a, b, c, at_of d, q⟩
theorem ix_ti : IxR X (rIxI (SqT X.K)) := ix_imp ix_tup fun _ _ _ _ ⟨p, ns, i, a, b, c, d, q⟩ => ⟨p, _, i, _, a, b, c, at_of d, q⟩
theorem ix_le : IxR X (rIxE (SqL X.K)) := ix_imp ix_list fun _ _ _ _ ⟨p, ns, i, a, b, c, d, q⟩ => ⟨p, _, i, _, a, b, c, by rw [d.1]; exact at_end d.2, q⟩
theorem ix_te : IxR X (rIxE (SqT X.K)) := ix_imp ix_tup fun _ _ _ _ ⟨p, ns, i, a, b, c, d, q⟩ => ⟨p, _, i, _, a, b, c, by rw [d.1]; exact at_end d.2, q⟩
/-- xs[i] of ints, 0 ≤ i, its value said -/
def Get (ns : List Int) (i v : Int) : Prop := 0 ≤ i ∧ ns[i.toNat]? = some v
def rIxV (S : Hp → Addr → List V → Prop) : R2 := fun x y H Q => ∃ p, ∃ ns : List Int, ∃ i v : Int, x = .ref p ∧ y = .int i ∧ S H p (ns.map V.int) ∧ Get ns i v ∧ Q (.int v) H
theorem at_get {ns : List Int} {i v : Int} (h : Get ns i v) : atI (ns.map V.int) i = some (.int v) := by
  have q : (ns.map V.int)[i.toNat]? = some (.int v) := by
    rw [List.getElem?_map, h.2]
    rfl
  have z := atI_nat q
  rw [show ((i.toNat : Nat) : Int) = i by have := h.1; omega] at z
  exact z
theorem ix_lv : IxR X (rIxV (SqL X.K)) := ix_imp ix_list fun _ _ _ _ ⟨p, ns, i, v, a, b, c, d, q⟩ => ⟨p, _, i, _, a, b, c, at_get d, q⟩
theorem ix_tv : IxR X (rIxV (SqT X.K)) := ix_imp ix_tup fun _ _ _ _ ⟨p, ns, i, v, a, b, c, d, q⟩ => ⟨p, _, i, _, a, b, c, at_get d, q⟩
/-- xs[:k] of ints, 0 ≤ k -/
theorem cut_take (xs : List V) (k : Nat) : cutV xs none (some (k : Int)) = xs.take k := by
  unfold cutV
  rw [HT.sIx_none, HT.sIx_nat]
  simp only [List.drop_zero, Nat.sub_zero]
  rcases Nat.le_total k xs.length with h | h
  · rw [Nat.min_eq_left h]
  · rw [Nat.min_eq_right h, List.take_of_length_le (Nat.le_refl _), List.take_of_length_le h]
theorem sl_liTo : SlR X (fun x lo hi H Q => ∃ p, ∃ ns : List Int, ∃ k : Int, x = .ref p ∧ lo = none ∧ hi = some k ∧ SqL X.K H p (ns.map V.int) ∧ 0 ≤ k ∧ New H (.lst ((ns.take k.toNat).map V.int)) Q) :=
  sl_imp sl_list fun x lo hi H Q ⟨p, ns, k, a, b, c, d, hk, n⟩ => by
    subst a b c
    refine ⟨p, _, rfl, d, ?_⟩
    have e : cutV (ns.map V.int) none (some k) = (ns.take k.toNat).map V.int := by
      have q := cut_take (ns.map V.int) k.toNat
      rw [show ((k.toNat : Nat) : Int) = k by omega] at q
      rw [q, List.map_take]
    rw [e]
    exact n.go
/-- xs.append(n) -/
theorem mt_app : MtM X "list.append" (fun x vs H Q => ∃ l xs y, x = .ref l ∧ vs = [y] ∧ H l = some (.lst xs) ∧ xs.length < sizeLine ∧ ∀ H1, Md l H H1 → H1 l = some (.lst (xs ++ [y])) → Q .non H1) :=
  mt_imp mt_append fun _ _ _ _ ⟨l, xs, y, a, b, h, z, q⟩ => ⟨l, xs, y, a, b, h, z, q _ Md.upd upd_same⟩
theorem mt_appI : MtM X "list.append" (fun x vs H Q => ∃ l, ∃ ns : List Int, ∃ y : Int, x = .ref l ∧ vs = [.int y] ∧ IL H l ns ∧ ns.length < sizeLine ∧ ∀ H1, Md l H H1 → IL H1 l (ns ++ [y]) → Q .non H1) :=
  mt_imp mt_app fun _ _ _ _ ⟨l, ns, y, a, b, h, z, q⟩ => ⟨l, _, _, a, b, h, by rw [List.length_map]; exact z, fun H1 m e => q H1 m (e.trans (by rw [List.map_append]; rfl))⟩
/-- xs[i] = n, 0 ≤ i -/
theorem set_li : PSet X (fun o i v H Q => ∃ p, ∃ ns : List Int, ∃ k n : Int, o = .ref p ∧ i = .int k ∧ v = .int n ∧ IL H p ns ∧ (0 ≤ k ∧ k < (ns.length : Int)) ∧ ∀ H1, Md p H H1 → IL H1 p (ns.set k.toNat n) → Q H1) :=
  set_imp set_list fun o i v H Q ⟨p, ns, k, n, a, b, c, h, hk, q⟩ => by
    subst c
    refine ⟨p, _, k, k.toNat, a, b, h, ?_, q _ Md.upd ?_⟩
    · unfold ixN
      rw [if_pos hk.1, List.length_map, if_pos hk.2]
    · show upd H p _ p = _
      rw [upd_same, List.map_set]

/-- a if t else b, an int whichever way: P is what is known of it behind -/
def tIfI (t : TT) (ta tb : TE) : TE := fun σ H Q => ∃ P : Int → Prop, (t σ H fun c H1 =>
  if c = true then (ta σ H1 fun v H2 => ∃ i, v = .int i ∧ H2 = H ∧ P i) else (tb σ H1 fun v H2 => ∃ i, v = .int i ∧ H2 = H ∧ P i)) ∧ ∀ i, P i → Q (.int i) H
theorem pe_ifI {c a b : Expr} {tA : TT} {ta tb : TE} (hc : PT X c tA) (ha : PE X a ta) (hb : PE X b tb) : PE X (.IfExp c a b pos) (tIfI tA ta tb) :=
  pe_imp (pe_up (pe_ifExp hc ha hb)) fun σ H Q ⟨P, h, q⟩ => ⟨_, h, fun v H1 ⟨i, a, b, p⟩ => by subst a b; exact q i p⟩
/-- two ways that come together: J is what is known behind both -/
def tIfJ (c : TT) (t u : TS) : TS := fun D σ H => ∃ J : L2.St → Hp → Prop, (c σ H fun b H1 => if b = true then t { D with nx := J } σ H1 else u { D with nx := J } σ H1) ∧ ∀ σ' H', J σ' H' → D.nx σ' H'
theorem ps_ifJ {c : Expr} {a b : List Stmt} {tc : TT} {t u : TS} (hc : PT X c tc) (ha : PSs X a t) (hb : PSs X b u) : PS X (.If c a b pos) (tIfJ tc t u) := by
  refine ⟨fun pins s σ H D I ⟨J, h, w⟩ => ?_⟩
  refine thn ((ps_if hc ha hb).run pins s σ H { D with nx := J } I h) ?_
  intro fl s' hs
  cases fl with
  | next =>
    obtain ⟨σ', H', I', q⟩ := hs
    exact ⟨σ', H', I', w σ' H' q⟩
  | ret u => exact hs
  | brk => exact hs
  | cont => exact hs

/-! ### loops by walks -/
def upI (t : TI) : TI := fun σ H R => ∃ R0 : It → Hp → Prop, t σ H R0 ∧ ∀ J H1, R0 J H1 → R J H1
theorem pi_up {tg iter : Expr} {t : TI} (h : PI X tg iter t) : PI X tg iter (upI t) := by
  refine ⟨fun pins s σ H R I ⟨R0, q, w⟩ => ?_⟩
  refine thn (h.run pins s σ H R0 I q) fun v s1 h1 => thn h1 ?_
  rintro itv s2 ⟨it, fp, tn, J, H', a, b, c, d, e, f⟩
  exact ⟨it, fp, tn, J, H', a, b, c, d, e, w J H' f⟩
def upG (t : TG) : TG := fun v σ H Q => ∃ Q0 : L2.St → Hp → Prop, t v σ H Q0 ∧ ∀ σ' H', Q0 σ' H' → Q σ' H'
theorem pg_up {tg : Expr} {t : TG} (h : PG X tg t) : PG X tg (upG t) := by
  refine ⟨fun pins s σ H v u Q I r ⟨Q0, q, w⟩ => ?_⟩
  refine thn (h.run pins s σ H v u Q0 I r q) ?_
  rintro _ s' ⟨σ', H', I', z⟩
  exact ⟨σ', H', I', w σ' H' z⟩
def upT (t : TT) : TT := fun σ H Q => ∃ Q0 : Bool → Hp → Prop, t σ H Q0 ∧ ∀ b H1, Q0 b H1 → Q b H1
theorem pts_up {ifs : List Expr} {t : TT} (h : PTs X ifs t) : PTs X ifs (upT t) := by
  refine ⟨fun pins s σ H Q I ⟨Q0, q, w⟩ => ?_⟩
  refine thn (h.run pins s σ H Q0 I q) ?_
  rintro b s' ⟨H', I', z⟩
  exact ⟨H', I', w b H' z⟩
/-- for: n turns of J, what holds of the heap that it may go on (G), what a turn gives (Y), the invariant Pv -/
def tForW (wi : TI) (g : TG) (tb : TS) : TS := fun D σ H => wi σ H fun J H1 => ∃ n G Y, Walk J n G Y ∧ ∃ Pv : Nat → L2.St → Hp → Prop, Pv 0 σ H1 ∧
  (∀ i σ H, i ≤ n → Pv i σ H → G H) ∧
  (∀ i x σ H H', i < n → Pv i σ H → Y i H x H' → g x σ H' fun σ2 H2 => tb { D with nx := Pv (i + 1), ct := Pv (i + 1), bk := D.nx } σ2 H2) ∧
  ∀ σ H, Pv n σ H → D.nx σ H
theorem ps_forW {tg iter : Expr} {body : List Stmt} {wi : TI} {g : TG} {tb : TS} (hp : PassesOwn (model X.prog X.w) X.A X.env X.xe) (hc : X.calm = true)
    (hi : PI X tg iter wi) (hg : PG X tg g) (hb : PSs X body tb) (hs : ∀ x, foldedSetIterable iter X.env x = pure x := by intro _; rfl) :
    PS X (.For tg iter body [] pos) (tForW wi g tb) := by
  refine ⟨fun pins s σ H D I h => (ps_for hp hc (pi_up hi) hg hb (hs := hs)).run pins s σ H D I ⟨_, h, ?_⟩⟩
  rintro J H1 ⟨n, G, Y, w, Pv, h0, hG, hs, hd⟩
  exact for_it w Pv h0 hG hs hd
/-- [e for x in ..]: acc is what is made so far -/
def LcW (J : It) (g : TG) (tt : TT) (te : TE) (vs : List Nat) (σ : L2.St) (H1 : Hp) (Q : VK) : Prop := ∃ n G Y, Walk J n G Y ∧ n < sizeLine ∧
  ∀ D H2, H1 D = none → Kp [] H1 H2 → H2 D = some (.lst []) → ∃ Pv : Nat → List V → Hp → Prop, Pv 0 [] H2 ∧ (∀ i acc H, i ≤ n → Pv i acc H → G H) ∧
  (∀ i acc x H H', i < n → Pv i acc H → H D = some (.lst acc) → Y i H x H' → g x (wipe σ vs) H' fun σ2 H3 => wipe σ2 vs = wipe σ vs ∧ tt σ2 H3 fun b H4 =>
    if b = true then (te σ2 H4 fun y H5 => H5 D = some (.lst acc) ∧ ∀ H6, Md D H5 H6 → H6 D = some (.lst (acc ++ [y])) → Pv (i + 1) (acc ++ [y]) H6)
    else H4 D = some (.lst acc) ∧ Pv (i + 1) acc H4) ∧
  ∀ acc H, acc.length ≤ n → H D = some (.lst acc) → Pv n acc H → Q (.ref D) H
def tLcW (wi : TI) (g : TG) (tt : TT) (te : TE) (vs : List Nat) : TE := fun σ H Q => wi σ H fun J H1 => LcW J g tt te vs σ H1 Q
theorem lc_w {wi : TI} {g : TG} {tt : TT} {te : TE} {vs : List Nat} {σ : L2.St} {H : Hp} {Q : VK} (h : tLcW wi g tt te vs σ H Q) : tLc (upI wi) (upG g) (upT tt) (upE te) vs σ H Q := by
  refine ⟨_, h, ?_⟩
  rintro J H1 ⟨n, G, Y, w, hn, body⟩ D nD
  obtain ⟨Pv, h0, hG, hs, hd⟩ := body D _ nD (Kp.new nD) upd_same
  refine lc_it w (fun i H => ∃ acc, H D = some (.lst acc) ∧ acc.length ≤ i ∧ Pv i acc H) ⟨[], upd_same, Nat.le_refl _, h0⟩ (fun i H hi ⟨acc, _, _, p⟩ => hG i acc H hi p) ?_ (fun H ⟨acc, e, l, p⟩ => hd acc H l e p)
  rintro i x H H' hi ⟨acc, ea, la, p⟩ y
  refine ⟨_, hs i acc x H H' hi p ea y, ?_⟩
  rintro σ2 H3 ⟨ew, ht⟩
  refine ⟨ew, _, ht, ?_⟩
  intro b H4 hb
  cases b with
  | true =>
    rw [if_pos rfl] at hb ⊢
    refine ⟨_, hb, ?_⟩
    rintro v H5 ⟨e5, q5⟩
    exact ⟨acc, e5, by omega, acc ++ [v], upd_same, by rw [List.length_append]; exact Nat.succ_le_succ la, q5 _ Md.upd upd_same⟩
  | false =>
    rw [if_neg Bool.false_ne_true] at hb ⊢
    exact ⟨acc, hb.1, by omega, hb.2⟩
theorem pe_lcW {elt tg iter : Expr} {ifs : List Expr} {scope : Scope} {own : List (Str × Nat)} {wi : TI} {g : TG} {tt : TT} {te : TE} (hc : X.calm = true) (hN : X.N.Nodup) (hi : PI X tg iter wi) (ok : BlkOk X.N X.env.scope scope own)
    (hg : ∀ (s : Shared) (H : Hp) (C : Addr) (cl : List (Str × Addr)) (fp : List Addr), PG (X.blk s H scope (compEnvC scope cl C X.env) fp) tg g)
    (ht : ∀ (s : Shared) (H : Hp) (C : Addr) (cl : List (Str × Addr)) (fp : List Addr), PTs (X.blk s H scope (compEnvC scope cl C X.env) fp) ifs tt)
    (he : ∀ (s : Shared) (H : Hp) (C : Addr) (cl : List (Str × Addr)) (fp : List Addr), PE (X.blk s H scope (compEnvC scope cl C X.env) fp) elt te)
    (hs : ∀ x, foldedSetIterable iter X.env x = pure x := by intro _; rfl) :
    PE X (.ListComp elt [⟨tg, iter, ifs, 0⟩] scope pos) (tLcW wi g tt te (own.map (·.2))) :=
  pe_imp (pe_lc hc hN (pi_up hi) ok (fun a b c d e => pg_up (hg a b c d e)) (fun a b c d e => pts_up (ht a b c d e)) (fun a b c d e => pe_up (he a b c d e)) hs) fun _ _ _ q => lc_w q
theorem ps_setLcW {i : Nat} {y : Str} {py spos : Pos} {elt tg iter : Expr} {ifs : List Expr} {scope : Scope} {own : List (Str × Nat)} {wi : TI} {g : TG} {tt : TT} {te : TE} (hc : X.calm = true) (hN : X.N.Nodup)
    (hy : X.N[i]? = some y) (hyl : X.env.scope.names.lookup y = some .local)
    (hsw : swapsWith (.ListComp elt [⟨tg, iter, ifs, 0⟩] scope pos) (some (.Name y py)) spos.line X.env = pure true) (hi : PI X tg iter wi) (ok : BlkOk X.N X.env.scope scope own)
    (hg : ∀ (s : Shared) (H : Hp) (C : Addr) (cl : List (Str × Addr)) (fp : List Addr), PG (X.blk s H scope (compEnvC scope cl C X.env) fp) tg g)
    (ht : ∀ (s : Shared) (H : Hp) (C : Addr) (cl : List (Str × Addr)) (fp : List Addr), PTs (X.blk s H scope (compEnvC scope cl C X.env) fp) ifs tt)
    (he : ∀ (s : Shared) (H : Hp) (C : Addr) (cl : List (Str × Addr)) (fp : List Addr), PE (X.blk s H scope (compEnvC scope cl C X.env) fp) elt te)
    (hs : ∀ x, foldedSetIterable iter X.env x = pure x := by intro _; rfl) :
    PS X (.Assign [.Name y py] (.ListComp elt [⟨tg, iter, ifs, 0⟩] scope pos) spos) (tAsg (tLcW wi g tt te (own.map (·.2))) (gName i)) :=
  ⟨fun pins s σ H D I q => (ps_setLc hc hN hy hyl hsw (pi_up hi) ok (fun a b c d e => pg_up (hg a b c d e)) (fun a b c d e => pts_up (ht a b c d e)) (fun a b c d e => pe_up (he a b c d e)) hs).run pins s σ H D I (lc_w q)⟩
end

/-! ### walks over ints -/
def YI (ns : List Int) : Nat → Hp → V → Hp → Prop := fun i H x H' => H' = H ∧ x = .int (ns.getD i 0)
def YR (lo : Int) : Nat → Hp → V → Hp → Prop := fun i H x H' => H' = H ∧ x = .int (lo + i)
/-- a new pair of ints each turn -/
def YE (ns : List Int) : Nat → Hp → V → Hp → Prop := fun i H x H' => ∃ T, x = .ref T ∧ H T = none ∧ Kp [] H H' ∧ H' T = some (.tup [.int (i : Int), .int (ns.getD i 0)])
def YZ (ns ms : List Int) : Nat → Hp → V → Hp → Prop := fun i H x H' => ∃ T, x = .ref T ∧ H T = none ∧ Kp [] H H' ∧ H' T = some (.tup [.int (ns.getD i 0), .int (ms.getD i 0)])
theorem getD_at {ns : List Int} {i : Nat} {x : V} (hi : i < ns.length) (h : (ns.map V.int)[i]? = some x) : x = .int (ns.getD i 0) := by
  rw [getD_map hi] at h
  exact (Option.some.inj h).symm
section
variable {K : PySem.W.Frag} {a b : Addr} {ns ms : List Int}
theorem walk_li : Walk (Itl K a) ns.length (fun H => SqL K H a (ns.map V.int)) (YI ns) := by
  have w := walk_list (K := K) (a := a) (xs := ns.map V.int)
  rw [List.length_map] at w
  exact w.mono (fun _ h => h) fun i H x H' hi _ ⟨e, h⟩ => ⟨e, getD_at hi h⟩
theorem walk_ti : Walk (Itt K a) ns.length (fun H => SqT K H a (ns.map V.int)) (YI ns) := by
  have w := walk_tup (K := K) (a := a) (xs := ns.map V.int)
  rw [List.length_map] at w
  exact w.mono (fun _ h => h) fun i H x H' hi _ ⟨e, h⟩ => ⟨e, getD_at hi h⟩
theorem walk_enumI : Walk (Ite K a) ns.length (fun H => SqL K H a (ns.map V.int)) (YE ns) := by
  have w := walk_enum (K := K) (a := a) (xs := ns.map V.int)
  rw [List.length_map] at w
  refine w.mono (fun _ h => h) ?_
  rintro i H x H' hi _ ⟨T, x1, x2, e, n, eh, e1, e2⟩
  have z1 : V.int (i : Nat) = x1 := Option.some.inj e1
  have z2 := getD_at hi e2
  subst z1 z2 eh
  exact ⟨T, e, n, Kp.new n, upd_same⟩
theorem walk_zipI {n : Nat} (hn : n = min ns.length ms.length) : Walk (Itz K a b) n (fun H => SqL K H a (ns.map V.int) ∧ SqL K H b (ms.map V.int)) (YZ ns ms) := by
  have w := walk_zip (K := K) (a := a) (b := b) (xs := ns.map V.int) (ys := ms.map V.int) (n := n) (by rw [List.length_map, List.length_map]; exact hn)
  refine w.mono (fun _ h => h) ?_
  rintro i H x H' hi _ ⟨T, x1, x2, e, n, eh, e1, e2⟩
  have z1 := getD_at (by omega) e1
  have z2 := getD_at (by omega) e2
  subst z1 z2 eh
  exact ⟨T, e, n, Kp.new n, upd_same⟩
theorem walk_zipT {n : Nat} (hn : n = min ns.length ms.length) : Walk (RZ.ItzT K a b) n (fun H => SqT K H a (ns.map V.int) ∧ SqT K H b (ms.map V.int)) (YZ ns ms) := by
  subst hn
  refine ⟨fun i H hi q => ?_, fun H q => ⟨_, _, q.1, q.2, by rw [List.length_map, List.length_map]; omega⟩, ?_⟩
  · exact ⟨_, _, _, _, q.1, q.2, getD_map (by omega), getD_map (by omega)⟩
  · rintro i H x H' hi q ⟨T, x1, x2, e, n, eh, e1, e2⟩
    have z1 := getD_at (by omega) (e1 _ q.1)
    have z2 := getD_at (by omega) (e2 _ q.2)
    subst z1 z2 eh
    exact ⟨T, e, n, Kp.new n, upd_same⟩
theorem walk_rg {lo : Int} {n : Nat} : Walk (Itr lo n) n (fun _ => True) (YR lo) := walk_range
end
theorem yesT {σ : L2.St} {H : Hp} {A B : Hp → Prop} (h : A H) : tYes σ H fun b H4 => if b = true then A H4 else B H4 := by
  show if true = true then A H else B H
  rw [if_pos rfl]
  exact h

/-! ### how long a shown thing is -/
theorem log_small {n k : Nat} (hk : 0 < k) (h : n < 2 ^ k) : n.log2 < k := by
  by_cases h0 : n = 0
  · subst h0
    exact hk
  · exact (Nat.log2_lt h0).mpr h
theorem int_shown {i : Int} (h : i.natAbs < 2 ^ 100) : (PyData.int i).shown.length ≤ 101 := by
  simp only [PyData.shown]
  have hl : i.natAbs.log2 < 100 := log_small (by decide) h
  have q := int_text_length_le (a := i) (k := 100) (by decide) hl
  rw [PySem.ofString_length]
  exact q
/-- each of a list's shown things at most m long -/
def AllSm (m : Nat) (ds : List PyData) : Prop := ∀ d ∈ ds, d.shown.length ≤ m ∧ d.showable = true ∧ d.depth ≤ 50
theorem shownAll_map : ∀ ds : List PyData, PyData.shownAll ds = ds.map PyData.shown
  | [] => rfl
  | d :: r => by simp only [PyData.shownAll, List.map_cons]; rw [shownAll_map r]
theorem showableAll_of : ∀ {ds : List PyData}, (∀ d ∈ ds, d.showable = true) → PyData.showableAll ds = true
  | [], _ => by simp only [PyData.showableAll]
  | d :: r, h => by
    simp only [PyData.showableAll]
    rw [h d (List.mem_cons_self), showableAll_of fun e he => h e (List.mem_cons_of_mem _ he)]
    rfl
theorem depthAll_of {m : Nat} : ∀ {ds : List PyData}, (∀ d ∈ ds, d.depth ≤ m) → PyData.depthAll ds ≤ m
  | [], _ => by simp only [PyData.depthAll]; omega
  | d :: r, h => by
    simp only [PyData.depthAll]
    have h1 := h d (List.mem_cons_self)
    have h2 := depthAll_of fun e he => h e (List.mem_cons_of_mem _ he)
    omega
theorem piled_of {m : Nat} : ∀ {ts : List Str}, (∀ t ∈ ts, t.length ≤ m) → piled ts ≤ ts.length * (m + 2)
  | [], _ => by simp [piled]
  | t :: r, h => by
    rw [piled_cons, List.length_cons, Nat.succ_mul]
    have h1 := h t (List.mem_cons_self)
    have h2 := piled_of fun e he => h e (List.mem_cons_of_mem _ he)
    omega
theorem tupleText_le (ts : List Str) : (tupleText ts).length ≤ piled ts + 3 := by
  unfold tupleText
  rw [strLen_append, strLen_append]
  have e1 : ((("(" : String) : Str)).length = 1 := rfl
  have e3 : (((if ts.length == 1 then ",)" else ")" : String) : Str)).length ≤ 2 := by split <;> decide
  rw [e1]
  cases ts with
  | nil =>
    have e4 : (Str.join ", " []).length = 0 := rfl
    rw [e4]
    omega
  | cons t r =>
    have := join_length_add (t :: r) (by simp)
    omega
theorem listText_le (ts : List Str) : (listText ts).length ≤ piled ts + 3 := by
  cases ts with
  | nil => decide
  | cons t r =>
    have h := textFrom_length_pos r 1 (("[" : Str) ++ (if (0 : Nat) > 0 then ", " else "" : String) ++ t) (Nat.succ_pos 0)
    have e : ((("[" : Str) ++ (if (0 : Nat) > 0 then ", " else "" : String) ++ t)).length = 1 + t.length := by
      rw [strLen_append, strLen_append]
      rfl
    unfold listText
    rw [strLen_append]
    have e2 : ((("]" : String) : Str)).length = 1 := rfl
    have e3 : (textFrom 0 "[" (t :: r)).length = (textFrom 1 (("[" : Str) ++ (if (0 : Nat) > 0 then ", " else "" : String) ++ t) r).length := rfl
    rw [e2, e3, h, e, piled_cons]
    omega
theorem tup_shown {m : Nat} {ds : List PyData} (h : AllSm m ds) : (PyData.tuple ds).shown.length ≤ ds.length * (m + 2) + 3 ∧ (PyData.tuple ds).showable = true ∧ (PyData.tuple ds).depth ≤ 51 := by
  refine ⟨?_, ?_, ?_⟩
  · simp only [PyData.shown]
    rw [shownAll_map]
    have h1 := tupleText_le (ds.map PyData.shown)
    have h2 : piled (ds.map PyData.shown) ≤ (ds.map PyData.shown).length * (m + 2) := piled_of fun t ht => by
      obtain ⟨d, hd, rfl⟩ := List.mem_map.mp ht
      exact (h d hd).1
    rw [List.length_map] at h2
    omega
  · simp only [PyData.showable]
    exact showableAll_of fun d hd => (h d hd).2.1
  · simp only [PyData.depth]
    have := depthAll_of (m := 50) fun d hd => (h d hd).2.2
    omega
theorem lst_shown {m : Nat} {ds : List PyData} (h : AllSm m ds) : (PyData.list ds).shown.length ≤ ds.length * (m + 2) + 3 ∧ (PyData.list ds).showable = true ∧ (PyData.list ds).depth ≤ 51 := by
  refine ⟨?_, ?_, ?_⟩
  · simp only [PyData.shown]
    rw [shownAll_map]
    have h1 := listText_le (ds.map PyData.shown)
    have h2 : piled (ds.map PyData.shown) ≤ (ds.map PyData.shown).length * (m + 2) := piled_of fun t ht => by
      obtain ⟨d, hd, rfl⟩ := List.mem_map.mp ht
      exact (h d hd).1
    rw [List.length_map] at h2
    omega
  · simp only [PyData.showable]
    exact showableAll_of fun d hd => (h d hd).2.1
  · simp only [PyData.depth]
    have := depthAll_of (m := 50) fun d hd => (h d hd).2.2
    omega
theorem int_ok {i : Int} (h : i.natAbs < 2 ^ 100) : (PyData.int i).showable = true ∧ (PyData.int i).depth ≤ 0 := by
  refine ⟨?_, ?_⟩
  · simp only [PyData.showable, decide_eq_true_eq]
    exact Nat.lt_trans (log_small (by decide) h) (by decide)
  · simp only [PyData.depth]
    omega
theorem ints_sm {ns : List Int} (h : ∀ i ∈ ns, i.natAbs < 2 ^ 100) : AllSm 101 (ns.map PyData.int) := fun d hd => by
  obtain ⟨i, hi, rfl⟩ := List.mem_map.mp hd
  exact ⟨int_shown (h i hi), (int_ok (h i hi)).1, Nat.le_trans (int_ok (h i hi)).2 (by decide)⟩
theorem shows_ti {ns : List Int} (h : ∀ i ∈ ns, i.natAbs < 2 ^ 100) (hl : ns.length ≤ 100000) : Shows (.tuple (ns.map PyData.int)) := by
  obtain ⟨a, b, c⟩ := tup_shown (ints_sm h)
  refine ⟨b, by omega, Nat.le_trans a ?_⟩
  rw [List.length_map]
  exact Nat.le_trans (show ns.length * (101 + 2) + 3 ≤ 10300003 by omega) (by decide)
theorem shows_li {ns : List Int} (h : ∀ i ∈ ns, i.natAbs < 2 ^ 100) (hl : ns.length ≤ 100000) : Shows (.list (ns.map PyData.int)) := by
  obtain ⟨a, b, c⟩ := lst_shown (ints_sm h)
  refine ⟨b, by omega, Nat.le_trans a ?_⟩
  rw [List.length_map]
  exact Nat.le_trans (show ns.length * (101 + 2) + 3 ≤ 10300003 by omega) (by decide)
theorem dp_ints {K : PySem.W.Frag} {H : Hp} : ∀ ns : List Int, DpAll K H (ns.map V.int) (ns.map PyData.int)
  | [] => .nil
  | n :: r => .cons (.int n) (dp_ints r)
theorem dp_li {K : PySem.W.Frag} {H : Hp} {p : Addr} {ns : List Int} (h : SqL K H p (ns.map V.int)) : Dp K H (.ref p) (.list (ns.map PyData.int)) := .lst h (dp_ints ns)
theorem dp_ti {K : PySem.W.Frag} {H : Hp} {p : Addr} {ns : List Int} (h : SqT K H p (ns.map V.int)) : Dp K H (.ref p) (.tuple (ns.map PyData.int)) := .tup h (dp_ints ns)
theorem shows_int {i : Int} (h : i.natAbs < 2 ^ 100) : Shows (.int i) := by
  refine ⟨?_, ?_, Nat.le_trans (int_shown h) (by decide)⟩
  · simp only [PyData.showable, decide_eq_true_eq]
    exact Nat.lt_trans (log_small (by decide) h) (by decide)
  · simp only [PyData.depth]
    omega

section
variable {X : Cx} {e : Expr} {es : List Expr} {ta : TA} {pos : Pos}
/-- a if t else b: P is what is known of it behind -/
def tIfP (t : TT) (ta tb : TE) : TE := fun σ H Q => ∃ P : V → Hp → Prop, (t σ H fun c H1 => if c = true then ta σ H1 P else tb σ H1 P) ∧ ∀ v H1, P v H1 → Q v H1
theorem pe_ifP {c a b : Expr} {tA : TT} {ta tb : TE} (hc : PT X c tA) (ha : PE X a ta) (hb : PE X b tb) : PE X (.IfExp c a b pos) (tIfP tA ta tb) :=
  pe_imp (pe_up (pe_ifExp hc ha hb)) fun σ H Q ⟨P, h, q⟩ => ⟨P, h, q⟩
/-- xs + ys, xs * k of lists of ints -/
theorem op_catI : OpR X (binaryOp .Add) (fun x y H Q => ∃ p q, ∃ ns ms : List Int, x = .ref p ∧ y = .ref q ∧ IL H p ns ∧ IL H q ms ∧ ns.length + ms.length ≤ sizeLine ∧ New H (.lst ((ns ++ ms).map V.int)) Q) :=
  op_imp op_cat fun x y H Q ⟨p, q, ns, ms, a, b, c, d, l, n⟩ => ⟨p, q, _, _, a, b, c, d, by rw [List.length_map, List.length_map]; exact l, by rw [← List.map_append]; exact n.go⟩
theorem rep_map (ns : List Int) : ∀ k : Nat, (List.replicate k (ns.map V.int)).flatten = ((List.replicate k ns).flatten).map V.int
  | 0 => rfl
  | k + 1 => by
    rw [List.replicate_succ, List.flatten_cons, rep_map ns k, List.replicate_succ, List.flatten_cons, List.map_append]
theorem op_repI : OpR X (binaryOp .Mult) (fun x y H Q => ∃ p, ∃ ns : List Int, ∃ k : Int, x = .ref p ∧ y = .int k ∧ IL H p ns ∧ (-(2 ^ 63) ≤ k ∧ k < 2 ^ 63) ∧ ns.length * k.toNat ≤ sizeLine ∧ New H (.lst (((List.replicate k.toNat ns).flatten).map V.int)) Q) :=
  op_imp op_rep fun x y H Q ⟨p, ns, k, a, b, c, d, l, n⟩ => ⟨p, k, _, a, b, c, d.1, d.2, by rw [List.length_map]; exact l, by rw [rep_map]; exact n.go⟩
/-- == and != of lists, of tuples of ints -/
theorem eqvAll_ints : ∀ ns ms : List Int, PyData.eqvAll (ns.map PyData.int) (ms.map PyData.int) = decide (ns = ms)
  | [], [] => by simp [PyData.eqvAll]
  | [], m :: r => by simp [PyData.eqvAll]
  | n :: r, [] => by simp [PyData.eqvAll]
  | n :: r, m :: t => by
    simp only [List.map_cons, PyData.eqvAll, PyData.eqv]
    rw [eqvAll_ints r t]
    by_cases h : n = m
    · subst h
      by_cases h2 : r = t
      · subst h2
        simp
      · simp [h2]
    · simp [h]
theorem canAll_ints : ∀ ns : List Int, PyData.canLayAll0 (ns.map PyData.int) = true
  | [] => by simp [PyData.canLayAll0]
  | n :: r => by simp [PyData.canLayAll0, PyData.canLay0, canAll_ints r]
theorem depth_ints : ∀ ns : List Int, PyData.depthAll (ns.map PyData.int) ≤ 0
  | [] => by simp [PyData.depthAll]
  | n :: r => by
    have := depth_ints r
    simp only [List.map_cons, PyData.depthAll, PyData.depth]
    omega
theorem shaped_li (ns : List Int) : SeqAt.shaped (.list (ns.map PyData.int)) = true := by
  unfold SeqAt.shaped
  rw [Bool.and_eq_true]
  refine ⟨by simp only [PyData.canLay0]; exact canAll_ints ns, decide_eq_true ?_⟩
  have := depth_ints ns
  simp only [PyData.depth]
  omega
theorem shaped_ti (ns : List Int) : SeqAt.shaped (.tuple (ns.map PyData.int)) = true := by
  unfold SeqAt.shaped
  rw [Bool.and_eq_true]
  refine ⟨by simp only [PyData.canLay0]; exact canAll_ints ns, decide_eq_true ?_⟩
  have := depth_ints ns
  simp only [PyData.depth]
  omega
theorem op_eqLI {k : Nat} (hr : Room k X.A) : OpR X (compareOp .Eq) (fun x y H Q => ∃ p q, ∃ ns ms : List Int, x = .ref p ∧ y = .ref q ∧ SqL X.K H p (ns.map V.int) ∧ SqL X.K H q (ms.map V.int) ∧ Q (.bl (decide (ns = ms))) H) :=
  op_imp (op_eqD hr.units) fun x y H Q ⟨p, q, ns, ms, a, b, c, d, w⟩ => by
    subst a b
    refine ⟨_, _, dp_li c, dp_li d, shaped_li ns, shaped_li ms, ?_⟩
    simp only [PyData.eqv]
    rw [eqvAll_ints]
    exact w
theorem op_neLI {k : Nat} (hr : Room k X.A) : OpR X (compareOp .NotEq) (fun x y H Q => ∃ p q, ∃ ns ms : List Int, x = .ref p ∧ y = .ref q ∧ SqL X.K H p (ns.map V.int) ∧ SqL X.K H q (ms.map V.int) ∧ Q (.bl (!decide (ns = ms))) H) :=
  op_imp (op_neD hr.units) fun x y H Q ⟨p, q, ns, ms, a, b, c, d, w⟩ => by
    subst a b
    refine ⟨_, _, dp_li c, dp_li d, shaped_li ns, shaped_li ms, ?_⟩
    simp only [PyData.eqv]
    rw [eqvAll_ints]
    exact w
theorem op_eqTI {k : Nat} (hr : Room k X.A) : OpR X (compareOp .Eq) (fun x y H Q => ∃ p q, ∃ ns ms : List Int, x = .ref p ∧ y = .ref q ∧ SqT X.K H p (ns.map V.int) ∧ SqT X.K H q (ms.map V.int) ∧ Q (.bl (decide (ns = ms))) H) :=
  op_imp (op_eqD hr.units) fun x y H Q ⟨p, q, ns, ms, a, b, c, d, w⟩ => by
    subst a b
    refine ⟨_, _, dp_ti c, dp_ti d, shaped_ti ns, shaped_ti ms, ?_⟩
    simp only [PyData.eqv]
    rw [eqvAll_ints]
    exact w
theorem op_neTI {k : Nat} (hr : Room k X.A) : OpR X (compareOp .NotEq) (fun x y H Q => ∃ p q, ∃ ns ms : List Int, x = .ref p ∧ y = .ref q ∧ SqT X.K H p (ns.map V.int) ∧ SqT X.K H q (ms.map V.int) ∧ Q (.bl (!decide (ns = ms))) H) :=
  op_imp (op_neD hr.units) fun x y H Q ⟨p, q, ns, ms, a, b, c, d, w⟩ => by
    subst a b
    refine ⟨_, _, dp_ti c, dp_ti d, shaped_ti ns, shaped_ti ms, ?_⟩
    simp only [PyData.eqv]
    rw [eqvAll_ints]
    exact w
/-- sorted(xs) of a list of ints -/
theorem cr_srtL : CallR X (.builtin "sorted") (fun vs H Q => ∃ p, ∃ ns : List Int, vs = [.ref p] ∧ SqL X.K H p (ns.map V.int) ∧ ∀ ms : List Int, ms.Perm ns → ms.Pairwise (· ≤ ·) → New H (.lst (ms.map V.int)) Q) :=
  call_imp cr_sortedI fun vs H Q ⟨p, ns, a, b, w⟩ => ⟨p, ns, a, b, fun ms q h1 h2 h3 => (w ms h1 h2).go q h3⟩
end
theorem ifNo {c A B : Prop} [Decidable c] (hc : ¬ c) (h : B) : if decide c = true then A else B := by
  rw [decide_eq_false hc, if_neg Bool.false_ne_true]
  exact h
theorem ifYes {c A B : Prop} [Decidable c] (hc : c) (h : A) : if decide c = true then A else B := by
  rw [decide_eq_true hc, if_pos rfl]
  exact h
end Cf

set_option Elab.async false
set_option linter.all false
set_option maxRecDepth 100000
namespace Cf
open PySem PySem.Spec PyProof.Rows L2
/-! ### enumerate(zip(xs, ys)) -/
/-- a zip object, whatever its own tuple's state -/
abbrev zipO (f0 : Value) (fl : Bool) (TI TO : Addr) : Obj :=
  { cls := .type "zip", dict := none, data := .fields #[f0, .bool fl, .bool false, .ref TI, .ref TO], slots := #[] }
def Own (f0 : Value) : Prop := f0 = .none ∨ ∃ T : Addr, f0 = rawInt T
section
variable {prog : Program} {w : World} {A : Around} {E : Value → Shared → Prop} {s : Shared}
theorem zip_free {z TI TO : Addr} {f0 : Value} {fl : Bool} {Q : Bool → Shared → Prop} (ok : Own f0)
    (hz : s.heap.get? z = some (zipO f0 fl TI TO)) (yes : Q true s)
    (no : ∀ h', h'.get? z = some (zipO f0 true TI TO) → Heap.SameBut z s.heap h' → Q false { s with heap := h' }) :
    wpAny (model prog w) A (Builtin.SmallTypes.ownedTupleIsFree (.ref z)) Q E s := by
  rcases ok with rfl | ⟨T, rfl⟩
  · unfold Builtin.SmallTypes.ownedTupleIsFree
    exact wpAny_bind (wpAny_field hz rfl (x := .none) rfl (wpAny_pure yes))
  · cases hT : s.heap.get? T with
    | some oT => exact PySem.wpAny_tupleHeld_zip hz hT no
    | none =>
      unfold Builtin.SmallTypes.ownedTupleIsFree
      refine wpAny_bind (wpAny_field hz rfl (x := rawInt T) rfl ?_)
      show wpAny _ _ (loadIfAlive ((T : Int).toNat) >>= _) _ _ _
      rw [Int.toNat_natCast]
      have alive : wpAny (model prog w) A (loadIfAlive T) (fun o s' => o = none ∧ s' = s) E s := fun _ _ _ => ⟨hT, rfl⟩
      refine wpAny_bind (wpAny_mono alive ?_ fun _ _ h => h)
      rintro o s' ⟨rfl, rfl⟩
      simp only [Option.isNone_none, if_true]
      exact wpAny_pure yes

theorem zip_item {z TI TO i1 i2 l1 l2 : Addr} {f0 : Value} {fl : Bool} {k1 k2 : Nat} {xs ys : Array Value} {x y a b : Value} {Q : Value → Shared → Prop}
    (D : ZipApart z TI TO i1 i2 l1 l2) (ok : Own f0) (hz : s.heap.get? z = some (zipO f0 fl TI TO))
    (hTI : IsPair s.heap TI (.ref i1) (.ref i2)) (hTO : IsPair s.heap TO a b)
    (h1 : s.heap.IsListIter i1 l1 k1) (h2 : s.heap.IsListIter i2 l2 k2)
    (hl1 : s.heap.IsList l1 xs) (hl2 : s.heap.IsList l2 ys) (hx : xs[k1]? = some x) (hy : ys[k2]? = some y)
    (hQ : ∀ h' f0' fl' a' b', Own f0' → h'.get? z = some (zipO f0' fl' TI TO) → IsPair h' TO a' b' →
      h'.IsListIter i1 l1 (k1 + 1) → h'.IsListIter i2 l2 (k2 + 1) → IsPair h' s.heap.objs.size x y →
      h'.objs.size = s.heap.objs.size + 1 →
      (∀ c o, c ≠ z → c ≠ TO → c ≠ i1 → c ≠ i2 → s.heap.get? c = some o → h'.get? c = some o) →
      Q (.ref s.heap.objs.size) { s with heap := h' }) :
    wpAny (model prog w) A (Builtin.«zip.__next__» ⟨[.ref z], []⟩) (fun fin s' => ∃ v, fin = .done (.ret v) ∧ Q v s') E s := by
  show wpAny _ _ (field (.ref z) 2 >>= _) _ _ _
  refine wpAny_bind (wpAny_field hz rfl (x := .bool false) rfl ?_)
  show wpAny _ _ (field (.ref z) 3 >>= _) _ _ _
  refine wpAny_bind (wpAny_field hz rfl (x := .ref TI) rfl ?_)
  refine wpAny_bind (wpAny_seqItems hTI rfl ?_)
  show wpAny _ _ (Builtin.SmallTypes.ownedTupleIsFree (.ref z) >>= _) _ _ _
  refine wpAny_bind (zip_free ok hz ?_ ?_)
  · -- the tuple is free
    simp only [if_true]
    refine wpAny_bind (wpAny_rule ?_)
    refine wpAny_bind (wpAny_field hz rfl (x := .ref TO) rfl ?_)
    refine wpAny_bind (wpAny_setField_rec hz (by simp) fun g1 z1 e1 => ?_)
    replace z1 : g1.get? z = some (zipO .ellipsis fl TI TO) := z1
    refine wpAny_bind ?_
    simp only [List.zipIdx_cons, List.zipIdx_nil, List.forIn_cons, List.forIn_nil]
    refine wpAny_bind (wpAny_bind (wpAny_onRaise ?_))
    show wpAny _ _ (Builtin.SmallTypes.nextOf (.ref i1) >>= _) _ _ _
    refine wpAny_bind (wpAny_nextOf_list_item (h1.extBut e1.extBut D.i1z)
      (hl1.extBut e1.extBut D.l1z) hx fun g2 p2 e2 => wpAny_pure ?_)
    have t2 : IsPair g2 TO a b := e2.extBut _ _ D.TOi1 (e1.extBut _ _ D.TOz hTO)
    refine wpAny_bind (wpAny_seqItems t2 rfl ?_)
    refine wpAny_bind (wpAny_updateSeq_pair t2 fun g3 t3 e3 => ?_)
    replace t3 : IsPair g3 TO x b := t3
    refine wpAny_bind (wpAny_letGo (wpAny_pure ?_))
    refine wpAny_bind (wpAny_bind (wpAny_onRaise ?_))
    show wpAny _ _ (Builtin.SmallTypes.nextOf (.ref i2) >>= _) _ _ _
    have q2 := ((h2.extBut e1.extBut D.i2z).extBut e2.extBut D.i12.symm).extBut e3.extBut D.TOi2.symm
    have m2 := ((hl2.extBut e1.extBut D.l2z).extBut e2.extBut D.l2i1).extBut e3.extBut D.l2TO
    refine wpAny_bind (wpAny_nextOf_list_item q2 m2 hy fun g4 p4 e4 => wpAny_pure ?_)
    have t4 : IsPair g4 TO x b := e4.extBut _ _ D.TOi2 t3
    refine wpAny_bind (wpAny_seqItems t4 rfl ?_)
    refine wpAny_bind (wpAny_updateSeq_pair t4 fun g5 t5 e5 => ?_)
    replace t5 : IsPair g5 TO x y := t5
    refine wpAny_bind (wpAny_letGo (wpAny_pure (wpAny_pure ?_)))
    refine wpAny_bind (wpAny_seqItems t5 rfl ?_)
    refine wpAny_bind (wpAny_newTuple ?_)
    have size : g5.objs.size = s.heap.objs.size := by
      rw [e5.1, e4.1, e3.1, e2.1, e1.1]
    have z5 : g5.get? z = some (zipO .ellipsis fl TI TO) :=
      e5.extBut _ _ D.TOz.symm (e4.extBut _ _ D.i2z.symm (e3.extBut _ _ D.TOz.symm (e2.extBut _ _ D.i1z.symm z1)))
    have kept : ∀ c o, c ≠ z → c ≠ TO → c ≠ i1 → c ≠ i2 → s.heap.get? c = some o → g5.get? c = some o := by
      intro c o c1 c2 c3 c4 e
      exact e5.extBut _ _ c2 (e4.extBut _ _ c4 (e3.extBut _ _ c2 (e2.extBut _ _ c3 (e1.extBut _ _ c1 e))))
    have p5 : g5.IsListIter i1 l1 (k1 + 1) := ((p2.extBut e3.extBut D.TOi1.symm).extBut e4.extBut D.i12).extBut e5.extBut D.TOi1.symm
    have r5 : g5.IsListIter i2 l2 (k2 + 1) := p4.extBut e5.extBut D.TOi2.symm
    have below : z < g5.objs.size := Heap.lt_size z5
    show wpAny _ _ (Builtin.SmallTypes.ownedTupleHandOut (.ref z) (.ref g5.objs.size) >>= _) _ _ _
    refine wpAny_bind ?_
    unfold Builtin.SmallTypes.ownedTupleHandOut
    have z6 : (g5.push { cls := .type "tuple", data := .seq #[x, y] }).get? z = some (zipO .ellipsis fl TI TO) := Heap.get?_push_of_some _ z5
    refine wpAny_bind (wpAny_setField_rec z6 (by simp) fun g7 z7 e7 => ?_)
    replace z7 : g7.get? z = some (zipO (rawInt g5.objs.size) fl TI TO) := z7
    refine wpAny_setField_rec z7 (by simp) fun g8 z8 e8 => ?_
    replace z8 : g8.get? z = some (zipO (rawInt g5.objs.size) false TI TO) := z8
    have up : ∀ c o, c ≠ z → g5.get? c = some o → g8.get? c = some o := by
      intro c o c1 e
      exact e8.extBut _ _ c1 (e7.extBut _ _ c1 (Heap.get?_push_of_some _ e))
    have t8 : IsPair g8 g5.objs.size x y :=
      e8.extBut _ _ (Nat.ne_of_gt below) (e7.extBut _ _ (Nat.ne_of_gt below) (Heap.get?_push_size _ rfl))
    have size8 : g8.objs.size = g5.objs.size + 1 := by
      rw [e8.1, e7.1, Heap.size_push]
    rw [size] at z8 t8 size8
    refine wpAny_pure ⟨_, rfl, ?_⟩
    show Q (.ref g5.objs.size) _
    rw [size]
    refine hQ g8 _ _ _ _ (.inr ⟨_, rfl⟩) z8 (up _ _ D.TOz t5) ?_ ?_ t8 size8 ?_
    · exact p5.at fun o e => up _ o D.i1z e
    · exact r5.at fun o e => up _ o D.i2z e
    · exact fun c o c1 c2 c3 c4 e => up c o c1 (kept c o c1 c2 c3 c4 e)
  · -- it is still out
    intro g1 z1 e1
    simp only [Bool.false_eq_true, if_false]
    refine wpAny_bind ?_
    rw [← Array.forIn_toList]
    simp only [List.forIn_cons, List.forIn_nil]
    refine wpAny_bind (wpAny_bind (wpAny_holding ?_))
    show wpAny _ _ (Builtin.SmallTypes.nextOf (.ref i1) >>= _) _ _ _
    refine wpAny_bind (wpAny_nextOf_list_item (s := { s with heap := g1 }) (h1.extBut e1.extBut D.i1z)
      (hl1.extBut e1.extBut D.l1z) hx fun g2 p2 e2 => wpAny_pure ?_)
    refine wpAny_pure ?_
    refine wpAny_bind (wpAny_bind (wpAny_holding ?_))
    show wpAny _ _ (Builtin.SmallTypes.nextOf (.ref i2) >>= _) _ _ _
    refine wpAny_bind (wpAny_nextOf_list_item (s := { s with heap := g2 }) ((h2.extBut e1.extBut D.i2z).extBut e2.extBut D.i12.symm)
      ((hl2.extBut e1.extBut D.l2z).extBut e2.extBut D.l2i1) hy fun g3 p3 e3 => wpAny_pure ?_)
    refine wpAny_pure (wpAny_pure ?_)
    show wpAny _ _ (newTuple [x, y] >>= _) _ _ _
    refine wpAny_bind (wpAny_newTuple ?_)
    have size : g3.objs.size = s.heap.objs.size := by
      rw [e3.1, e2.1, e1.1]
    have z3 : g3.get? z = some (zipO f0 true TI TO) := e3.extBut _ _ D.i2z.symm (e2.extBut _ _ D.i1z.symm z1)
    have t3 : IsPair g3 TO a b := e3.extBut _ _ D.TOi2 (e2.extBut _ _ D.TOi1 (e1.extBut _ _ D.TOz hTO))
    have p3' : g3.IsListIter i1 l1 (k1 + 1) := p2.extBut e3.extBut D.i12
    refine wpAny_pure ⟨_, rfl, ?_⟩
    show Q (.ref g3.objs.size) _
    have t4 : IsPair (g3.push { cls := .type "tuple", data := .seq #[x, y] }) g3.objs.size x y := Heap.get?_push_size _ rfl
    have size4 : (g3.push { cls := .type "tuple", data := .seq #[x, y] }).objs.size = g3.objs.size + 1 := Heap.size_push ..
    rw [size] at t4 size4 ⊢
    refine hQ _ _ _ _ _ ok (Heap.get?_push_of_some _ z3) (Heap.get?_push_of_some _ t3) ?_ ?_ t4 size4 ?_
    · exact p3'.at fun o e => Heap.get?_push_of_some _ e
    · exact p3.at fun o e => Heap.get?_push_of_some _ e
    · intro c o c1 c2 c3 c4 e
      exact Heap.get?_push_of_some _ (e3.extBut _ _ c4 (e2.extBut _ _ c3 (e1.extBut _ _ c1 e)))
theorem zip_end {z TI TO i1 i2 l1 l2 : Addr} {f0 : Value} {fl : Bool} {k1 k2 : Nat} {xs ys : Array Value} {a b : Value} {Q : Fin → Shared → Prop}
    (hh : A.handled = none) (D : ZipApart z TI TO i1 i2 l1 l2) (ok : Own f0) (hz : s.heap.get? z = some (zipO f0 fl TI TO))
    (hTI : IsPair s.heap TI (.ref i1) (.ref i2)) (hTO : IsPair s.heap TO a b)
    (h1 : s.heap.IsListIter i1 l1 k1) (h2 : s.heap.IsListIter i2 l2 k2)
    (hl1 : s.heap.IsList l1 xs) (hl2 : s.heap.IsList l2 ys) (hend : xs[k1]? = none ∨ ys[k2]? = none)
    (hE : ∀ h' e, (∀ c o, c ≠ z → c ≠ TO → c ≠ i1 → c ≠ i2 → s.heap.get? c = some o → h'.get? c = some o) →
      (∃ o, h'.get? e = some o ∧ o.cls = .type "StopIteration") → E (.ref e) { s with heap := h' }) :
    wpAny (model prog w) A (Builtin.«zip.__next__» ⟨[.ref z], []⟩) Q E s := by
  have notz : ∀ {g : Heap} {e : Addr} {oe : Obj} {f : Value} {l : Bool}, g.get? z = some (zipO f l TI TO) →
      g.get? e = some oe → oe.cls = .type "StopIteration" → e ≠ z := by
    intro g e oe f l hg he hc q
    subst q
    rw [hg] at he
    cases he
    simp at hc
  show wpAny _ _ (field (.ref z) 2 >>= _) _ _ _
  refine wpAny_bind (wpAny_field hz rfl (x := .bool false) rfl ?_)
  show wpAny _ _ (field (.ref z) 3 >>= _) _ _ _
  refine wpAny_bind (wpAny_field hz rfl (x := .ref TI) rfl ?_)
  refine wpAny_bind (wpAny_seqItems hTI rfl ?_)
  show wpAny _ _ (Builtin.SmallTypes.ownedTupleIsFree (.ref z) >>= _) _ _ _
  refine wpAny_bind (zip_free ok hz ?_ ?_)
  · simp only [if_true]
    refine wpAny_bind (wpAny_rule ?_)
    refine wpAny_bind (wpAny_field hz rfl (x := .ref TO) rfl ?_)
    refine wpAny_bind (wpAny_setField_rec hz (by simp) fun g1 z1 e1 => ?_)
    replace z1 : g1.get? z = some (zipO .ellipsis fl TI TO) := z1
    refine wpAny_bind ?_
    simp only [List.zipIdx_cons, List.zipIdx_nil, List.forIn_cons, List.forIn_nil]
    refine wpAny_bind (wpAny_bind (wpAny_onRaise ?_))
    show wpAny _ _ (Builtin.SmallTypes.nextOf (.ref i1) >>= _) _ _ _
    have p1 := h1.extBut e1.extBut D.i1z
    have m1 := hl1.extBut e1.extBut D.l1z
    cases hx : xs[k1]? with
    | none =>
      refine wpAny_bind (wpAny_nextOf_list_end hh p1 m1 hx fun g2 e e2 he => ?_)
      obtain ⟨oe, hoe, hce⟩ := he
      have z2 : g2.get? z = some (zipO .ellipsis fl TI TO) := e2 _ _ D.i1z.symm z1
      refine wpAny_setField_rec z2 (by simp) fun g3 _ e3 => hE g3 e ?_ ⟨oe, e3.extBut _ _ (notz z2 hoe hce) hoe, hce⟩
      exact fun c o c1 _ c3 _ q => e3.extBut _ _ c1 (e2 _ _ c3 (e1.extBut _ _ c1 q))
    | some x =>
      have hy : ys[k2]? = none := by
        rcases hend with h | h
        · rw [hx] at h
          cases h
        · exact h
      refine wpAny_bind (wpAny_nextOf_list_item p1 m1 hx fun g2 p2 e2 => wpAny_pure ?_)
      have t2 : IsPair g2 TO a b := e2.extBut _ _ D.TOi1 (e1.extBut _ _ D.TOz hTO)
      refine wpAny_bind (wpAny_seqItems t2 rfl ?_)
      refine wpAny_bind (wpAny_updateSeq_pair t2 fun g3 t3 e3 => ?_)
      refine wpAny_bind (wpAny_letGo (wpAny_pure ?_))
      refine wpAny_bind (wpAny_bind (wpAny_onRaise ?_))
      show wpAny _ _ (Builtin.SmallTypes.nextOf (.ref i2) >>= _) _ _ _
      have q2 := ((h2.extBut e1.extBut D.i2z).extBut e2.extBut D.i12.symm).extBut e3.extBut D.TOi2.symm
      have m2 := ((hl2.extBut e1.extBut D.l2z).extBut e2.extBut D.l2i1).extBut e3.extBut D.l2TO
      refine wpAny_bind (wpAny_nextOf_list_end hh q2 m2 hy fun g4 e e4 he => ?_)
      obtain ⟨oe, hoe, hce⟩ := he
      have z4 : g4.get? z = some (zipO .ellipsis fl TI TO) := e4 _ _ D.i2z.symm (e3.extBut _ _ D.TOz.symm (e2.extBut _ _ D.i1z.symm z1))
      refine wpAny_setField_rec z4 (by simp) fun g5 _ e5 => hE g5 e ?_ ⟨oe, e5.extBut _ _ (notz z4 hoe hce) hoe, hce⟩
      exact fun c o c1 c2 c3 c4 q => e5.extBut _ _ c1 (e4 _ _ c4 (e3.extBut _ _ c2 (e2.extBut _ _ c3 (e1.extBut _ _ c1 q))))
  · intro g1 z1 e1
    simp only [Bool.false_eq_true, if_false]
    refine wpAny_bind ?_
    rw [← Array.forIn_toList]
    simp only [List.forIn_cons, List.forIn_nil]
    refine wpAny_bind (wpAny_bind (wpAny_holding ?_))
    show wpAny _ _ (Builtin.SmallTypes.nextOf (.ref i1) >>= _) _ _ _
    have p1 := h1.extBut e1.extBut D.i1z
    have m1 := hl1.extBut e1.extBut D.l1z
    cases hx : xs[k1]? with
    | none =>
      refine wpAny_bind (wpAny_nextOf_list_end (s := { s with heap := g1 }) hh p1 m1 hx fun g2 e e2 he => ?_)
      exact hE g2 e (fun c o c1 _ c3 _ q => e2 _ _ c3 (e1.extBut _ _ c1 q)) he
    | some x =>
      have hy : ys[k2]? = none := by
        rcases hend with h | h
        · rw [hx] at h
          cases h
        · exact h
      refine wpAny_bind (wpAny_nextOf_list_item (s := { s with heap := g1 }) p1 m1 hx fun g2 p2 e2 => wpAny_pure ?_)
      refine wpAny_pure ?_
      refine wpAny_bind (wpAny_bind (wpAny_holding ?_))
      show wpAny _ _ (Builtin.SmallTypes.nextOf (.ref i2) >>= _) _ _ _
      refine wpAny_bind (wpAny_nextOf_list_end (s := { s with heap := g2 }) hh ((h2.extBut e1.extBut D.i2z).extBut e2.extBut D.i12.symm)
        ((hl2.extBut e1.extBut D.l2z).extBut e2.extBut D.l2i1) hy fun g3 e e3 he => ?_)
      exact hE g3 e (fun c o c1 _ c3 c4 q => e3 _ _ c4 (e2.extBut _ _ c3 (e1.extBut _ _ c1 q))) he

/-- enumerate's next turn over any iterator: what the iterator gives is told by inner -/
theorem enum_item {e it : Addr} {i : Nat} {old : Value} {Q : Value → Shared → Prop} (he : IsEnum s.heap e it i old)
    (inner : wpAny (model prog w) A (Builtin.SmallTypes.nextOf (.ref it)) (fun x s1 => IsEnum s1.heap e it i old ∧
      ∀ h', IsEnumOut h' e it ((i : Int) + 1) x s1.heap.objs.size →
        h'.get? s1.heap.objs.size = some { cls := .type "tuple", data := .seq #[.int i s1.toks, x] } →
        h'.objs.size = s1.heap.objs.size + 1 → (∀ b o, b ≠ e → s1.heap.get? b = some o → h'.get? b = some o) →
        Q (.ref s1.heap.objs.size) { s1 with heap := h', toks := s1.toks + 1 }) E s) :
    wpAny (model prog w) A (Builtin.«enumerate.__next__» ⟨[.ref e], []⟩) (fun fin s' => ∃ v, fin = .done (.ret v) ∧ Q v s') E s := by
  show wpAny _ _ (field (.ref e) 2 >>= _) _ _ _
  refine wpAny_bind (wpAny_field he rfl (x := .ref it) rfl ?_)
  refine wpAny_bind (thn inner ?_)
  rintro x ⟨hp, gn, dd, tk, os⟩ ⟨e1, wish⟩
  replace e1 : IsEnum hp e it i old := e1
  show wpAny _ _ (field (.ref e) 3 >>= _) _ _ ⟨hp, gn, dd, tk, os⟩
  refine wpAny_bind (wpAny_field e1 rfl (x := rawInt i) rfl ?_)
  show wpAny _ _ (field (.ref e) 4 >>= _) _ _ ⟨hp, gn, dd, tk, os⟩
  refine wpAny_bind (wpAny_field e1 rfl (x := .none) rfl ?_)
  show wpAny _ _ (mkInt i >>= _) _ _ ⟨hp, gn, dd, tk, os⟩
  refine wpAny_bind (wpAny_mkInt ?_)
  show wpAny _ _ (setField (.ref e) 3 (rawInt ((i : Int) + 1)) >>= _) _ _ ⟨hp, gn, dd, tk + 1, os⟩
  refine wpAny_bind (wpAny_setField_rec e1 (by simp) fun g2 e2 k2 => ?_)
  replace k2 : Heap.SameBut e hp g2 := k2
  replace e2 : IsEnum g2 e it ((i : Int) + 1) old := e2
  show wpAny _ _ (setField (.ref e) 4 .none >>= _) _ _ ⟨g2, gn, dd, tk + 1, os⟩
  refine wpAny_bind (wpAny_setField_rec e2 (by simp) fun g3 e3 k3 => ?_)
  replace k3 : Heap.SameBut e g2 g3 := k3
  replace e3 : IsEnum g3 e it ((i : Int) + 1) old := e3
  show wpAny _ _ (newTuple [.int i tk, x] >>= _) _ _ ⟨g3, gn, dd, tk + 1, os⟩
  refine wpAny_bind (wpAny_newTuple ?_)
  have size3 : g3.objs.size = hp.objs.size := by rw [k3.1, k2.1]
  have below : e < hp.objs.size := Heap.lt_size e1
  have e4 : IsEnum (g3.push { cls := .type "tuple", data := .seq #[.int i tk, x] }) e it ((i : Int) + 1) old := Heap.get?_push_of_some _ e3
  have t4 : (g3.push { cls := .type "tuple", data := .seq #[.int i tk, x] }).get? hp.objs.size = some { cls := .type "tuple", data := .seq #[.int i tk, x] } := by
    rw [← size3]
    exact Heap.get?_push_size _ rfl
  have size4 : (g3.push { cls := .type "tuple", data := .seq #[.int i tk, x] }).objs.size = hp.objs.size + 1 := by
    rw [Heap.size_push, size3]
  have kept : ∀ b o, b ≠ e → hp.get? b = some o → (g3.push { cls := .type "tuple", data := .seq #[.int i tk, x] }).get? b = some o := by
    intro b o hb q
    exact Heap.get?_push_of_some _ (k3.extBut b o hb (k2.extBut b o hb q))
  generalize g3.push { cls := .type "tuple", data := .seq #[.int i tk, x] } = g4 at e4 t4 size4 kept
  show wpAny _ _ (Builtin.SmallTypes.ownedTupleIsFree (.ref e) >>= _) _ _ ⟨g4, gn, dd, tk + 1, os⟩
  rw [size3]
  refine wpAny_bind ?_
  unfold Builtin.SmallTypes.ownedTupleIsFree
  refine wpAny_bind (wpAny_field e4 rfl (x := .none) rfl (wpAny_pure ?_))
  simp only [if_true]
  refine wpAny_bind (wpAny_rule ?_)
  refine wpAny_bind (wpAny_field e4 rfl (x := old) rfl ?_)
  refine wpAny_bind (wpAny_setField_rec e4 (by simp) fun g5 e5 k5 => ?_)
  replace k5 : Heap.SameBut e g4 g5 := k5
  replace e5 : IsEnum g5 e it ((i : Int) + 1) x := e5
  show wpAny _ _ (Builtin.SmallTypes.ownedTupleHandOut (.ref e) (.ref hp.objs.size) >>= _) _ _ ⟨g5, gn, dd, tk + 1, os⟩
  refine wpAny_bind ?_
  unfold Builtin.SmallTypes.ownedTupleHandOut
  refine wpAny_bind (wpAny_setField_rec e5 (by simp) fun g6 e6 k6 => ?_)
  replace k6 : Heap.SameBut e g5 g6 := k6
  replace e6 : IsEnumOut g6 e it ((i : Int) + 1) x hp.objs.size := e6
  refine wpAny_setField_rec e6 (by simp) fun g7 e7 k7 => ?_
  replace k7 : Heap.SameBut e g6 g7 := k7
  replace e7 : IsEnumOut g7 e it ((i : Int) + 1) x hp.objs.size := e7
  have far : hp.objs.size ≠ e := Nat.ne_of_gt below
  refine wpAny_bind (wpAny_letGo (wpAny_pure ⟨_, rfl, wish g7 e7 ?_ ?_ ?_⟩))
  · exact k7.extBut _ _ far (k6.extBut _ _ far (k5.extBut _ _ far t4))
  · rw [k7.1, k6.1, k5.1, size4]
  · exact fun b o hb q => k7.extBut b o hb (k6.extBut b o hb (k5.extBut b o hb (kept b o hb q)))
theorem next_enum {e it : Addr} {i : Nat} {old : Value} {Q : Option Value → Shared → Prop} (he : IsEnum s.heap e it i old)
    (inner : wpAny (model prog w) A.in1 (Builtin.SmallTypes.nextOf (.ref it)) (fun x s1 => IsEnum s1.heap e it i old ∧
      ∀ h', IsEnumOut h' e it ((i : Int) + 1) x s1.heap.objs.size →
        h'.get? s1.heap.objs.size = some { cls := .type "tuple", data := .seq #[.int i s1.toks, x] } →
        h'.objs.size = s1.heap.objs.size + 1 → (∀ b o, b ≠ e → s1.heap.get? b = some o → h'.get? b = some o) →
        Q (some (.ref s1.heap.objs.size)) { s1 with heap := h', toks := s1.toks + 1 }) (fun _ _ => False) s) :
    wpAny (model prog w) A (pyNext (.ref e)) Q E s := by
  have ty : s.TypeIs (.ref e) "enumerate" := ⟨_, he, rfl⟩
  unfold pyNext
  refine wpAny_bind (wpAny_attempt (wpAny_callSpecial?_slot (name := Str.ofString "__next__") ty F.slot_enumerate_next ?_))
  refine wpAny_call_entry F.slot_enumerate_next ty F.entry_enumerate_next (enum_item he ?_) (F.args_enumerate_next_1 _)
  refine wpAny_mono inner ?_ fun _ _ z => z.elim
  rintro x s1 ⟨a, b⟩
  exact ⟨a, fun h' q1 q2 q3 q4 => wpAny_pure (b h' q1 q2 q3 q4)⟩
theorem next_enum_end {e it : Addr} {i : Int} {old : Value} {Q : Option Value → Shared → Prop} (he : IsEnum s.heap e it i old)
    (inner : wpAny (model prog w) A.in1 (Builtin.SmallTypes.nextOf (.ref it)) (fun _ _ => False)
      (fun ex s1 => ∃ a o, ex = .ref a ∧ s1.heap.get? a = some o ∧ o.cls = .type "StopIteration" ∧ Q none s1) s) :
    wpAny (model prog w) A (pyNext (.ref e)) Q E s := by
  have ty : s.TypeIs (.ref e) "enumerate" := ⟨_, he, rfl⟩
  unfold pyNext
  refine wpAny_bind (wpAny_attempt (wpAny_callSpecial?_slot (name := Str.ofString "__next__") ty F.slot_enumerate_next ?_))
  refine wpAny_call_entry F.slot_enumerate_next ty F.entry_enumerate_next ?_ (F.args_enumerate_next_1 _)
  show wpAny _ _ (field (.ref e) 2 >>= _) _ _ _
  refine wpAny_bind (wpAny_field he rfl (x := .ref it) rfl ?_)
  refine wpAny_bind (wpAny_mono inner (fun _ _ z => z.elim) ?_)
  rintro ex s1 ⟨a, o, rfl, ho, hc, q⟩
  refine wpAny_bind (wpAny_isInstance (T := "StopIteration") (b := true) ⟨o, ho, hc⟩ isSubtype_stop ?_)
  exact wpAny_pure q
/-- the next of a zip, for enumerate -/
theorem nextOf_zip {z TI TO i1 i2 l1 l2 : Addr} {f0 : Value} {fl : Bool} {k1 k2 : Nat} {xs ys : Array Value} {x y a b : Value} {Q : Value → Shared → Prop}
    (D : ZipApart z TI TO i1 i2 l1 l2) (ok : Own f0) (hz : s.heap.get? z = some (zipO f0 fl TI TO))
    (hTI : IsPair s.heap TI (.ref i1) (.ref i2)) (hTO : IsPair s.heap TO a b)
    (h1 : s.heap.IsListIter i1 l1 k1) (h2 : s.heap.IsListIter i2 l2 k2)
    (hl1 : s.heap.IsList l1 xs) (hl2 : s.heap.IsList l2 ys) (hx : xs[k1]? = some x) (hy : ys[k2]? = some y)
    (hQ : ∀ h' f0' fl' a' b', Own f0' → h'.get? z = some (zipO f0' fl' TI TO) → IsPair h' TO a' b' →
      h'.IsListIter i1 l1 (k1 + 1) → h'.IsListIter i2 l2 (k2 + 1) → IsPair h' s.heap.objs.size x y →
      h'.objs.size = s.heap.objs.size + 1 →
      (∀ c o, c ≠ z → c ≠ TO → c ≠ i1 → c ≠ i2 → s.heap.get? c = some o → h'.get? c = some o) →
      Q (.ref s.heap.objs.size) { s with heap := h' }) :
    wpAny (model prog w) A (Builtin.SmallTypes.nextOf (.ref z)) Q E s := by
  have ty : s.TypeIs (.ref z) "zip" := ⟨_, hz, rfl⟩
  unfold Builtin.SmallTypes.nextOf
  refine wpAny_bind (wpAny_callSpecial?_slot (name := Str.ofString "__next__") ty F.slot_zip_next ?_)
  refine wpAny_call_entry F.slot_zip_next ty F.entry_zip_next ?_ (F.args_zip_next_1 _)
  exact zip_item D ok hz hTI hTO h1 h2 hl1 hl2 hx hy fun h' a1 a2 a3 a4 a5 a6 a7 a8 a9 a10 a11 a12 => wpAny_pure (hQ h' a1 a2 a3 a4 a5 a6 a7 a8 a9 a10 a11 a12)
theorem nextOf_zip_end {z TI TO i1 i2 l1 l2 : Addr} {f0 : Value} {fl : Bool} {k1 k2 : Nat} {xs ys : Array Value} {a b : Value} {Q : Value → Shared → Prop}
    (hh : A.handled = none) (D : ZipApart z TI TO i1 i2 l1 l2) (ok : Own f0) (hz : s.heap.get? z = some (zipO f0 fl TI TO))
    (hTI : IsPair s.heap TI (.ref i1) (.ref i2)) (hTO : IsPair s.heap TO a b)
    (h1 : s.heap.IsListIter i1 l1 k1) (h2 : s.heap.IsListIter i2 l2 k2)
    (hl1 : s.heap.IsList l1 xs) (hl2 : s.heap.IsList l2 ys) (hend : xs[k1]? = none ∨ ys[k2]? = none)
    (hE : ∀ h' e, (∀ c o, c ≠ z → c ≠ TO → c ≠ i1 → c ≠ i2 → s.heap.get? c = some o → h'.get? c = some o) →
      (∃ o, h'.get? e = some o ∧ o.cls = .type "StopIteration") → E (.ref e) { s with heap := h' }) :
    wpAny (model prog w) A (Builtin.SmallTypes.nextOf (.ref z)) Q E s := by
  have ty : s.TypeIs (.ref z) "zip" := ⟨_, hz, rfl⟩
  unfold Builtin.SmallTypes.nextOf
  refine wpAny_bind (wpAny_callSpecial?_slot (name := Str.ofString "__next__") ty F.slot_zip_next ?_)
  refine wpAny_call_entry F.slot_zip_next ty F.entry_zip_next ?_ (F.args_zip_next_1 _)
  exact zip_end hh D ok hz hTI hTO h1 h2 hl1 hl2 hend hE

end
open AutoSeq1 in
theorem new_enum_zip (z TI TO : Addr) (f0 : Value) :
    Meets (Builtin.«enumerate.__new__» ⟨[.type "enumerate", .ref z], []⟩) (fun _ R s => IsZip s.heap z TI TO f0 ∧
      R (.ok (.ret (.ref s.heap.objs.size)))
        { s with heap := s.heap.push { cls := .type "enumerate", data := .fields #[.none, .bool false, .ref z, rawInt 0, .none, .none] } }) :=
  .of_wp fun prog w A R s h => by
    obtain ⟨hp, gn, dd, tk, os⟩ := s
    obtain ⟨hz, h⟩ := h
    have sub := sub_enumerate
    have hZ : IsZip (Shared.heap ⟨hp, gn, dd, tk, os⟩) z TI TO f0 := hz
    wp_walk using wpAny_loadPart' hz
    refine wpAny_stack_any fun st => wpAny_pure ?_
    split
    · rename_i c _ _ _ _ _
      cases (c == Value.type "enumerate") <;>
        (wp_walk using wpAny_loadPart' hz, wpAny_pyIter_zip hZ
         exact ⟨_, rfl, h⟩)
    · wp_walk using wpAny_loadPart' hz, wpAny_pyIter_zip hZ
      exact ⟨_, rfl, h⟩
section
variable {prog : Program} {w : World} {A : Around} {E : Value → Shared → Prop} {s : Shared}
theorem call_enum_zip {z TI TO : Addr} {f0 : Value} {Q : Value → Shared → Prop} (hz : IsZip s.heap z TI TO f0)
    (h : ∀ h', IsEnum h' s.heap.objs.size z 0 .none → h'.objs.size = s.heap.objs.size + 1 →
      (∀ b o, s.heap.get? b = some o → h'.get? b = some o) → Q (.ref s.heap.objs.size) { s with heap := h' }) :
    wpAny (model prog w) A (call (.type "enumerate") [.ref z]) Q E s := by
  refine callType_new F.called_enumerate (by decide) (F.typeCall_enumerate_1 _) (F.newCall_enumerate_1 _)
    (fun obj => F.args_object_init_2 obj _) F.entry_enumerate_new (new_enum_zip z TI TO f0) ⟨hz, ?_⟩
  show _ ∧ _
  have he : IsEnum (s.heap.push { cls := .type "enumerate", data := .fields #[.none, .bool false, .ref z, rawInt 0, .none, .none] }) s.heap.objs.size z 0 .none :=
    Heap.get?_push_size _ rfl
  exact ⟨⟨_, he, rfl⟩, h _ he (Heap.size_push ..) fun b o q => Heap.get?_push_of_some _ q⟩
end

/-- enumerate(zip(xs, ys)): each turn a new pair (i, (x, y)) -/
def Itez (K : PySem.W.Frag) (a b : Addr) : It where
  go := fun i H => ∃ xs ys x y, SqL K H a xs ∧ SqL K H b ys ∧ xs[i]? = some x ∧ ys[i]? = some y
  yld := fun i H v H' => ∃ T U x y, v = .ref T ∧ H U = none ∧ Kp [] H H' ∧ H' U = some (.tup [x, y]) ∧ H' T = some (.tup [.int (i : Nat), .ref U]) ∧
    (∀ xs, SqL K H a xs → xs[i]? = some x) ∧ ∀ ys, SqL K H b ys → ys[i]? = some y
  stop := fun i H => ∃ xs ys, SqL K H a xs ∧ SqL K H b ys ∧ (xs.length ≤ i ∨ ys.length ≤ i)
def EzSt (e z TI TO i1 i2 a b : Addr) (i : Nat) (h : Heap) : Prop :=
  (∃ old, IsEnum h e z ((i : Nat) : Int) old) ∧ (∃ f0 fl, Own f0 ∧ h.get? z = some (zipO f0 fl TI TO)) ∧
  IsPair h TI (.ref i1) (.ref i2) ∧ (∃ x y, IsPair h TO x y) ∧ h.IsListIter i1 a i ∧ h.IsListIter i2 b i
theorem turn_ez {P : Program} {w : World} {K : PySem.W.Frag} {elts : List Expr} {kk : Nat} {tpos : Pos} {e z TI TO i1 i2 a b : Addr}
    (D : ZipApart z TI TO i1 i2 a b) (ez : e ≠ z) (eTI : e ≠ TI) (eTO : e ≠ TO) (e1 : e ≠ i1) (e2 : e ≠ i2) :
    Turn P w K (.Tuple elts kk tpos) (Itez K a b) [e, z, TI, TO, i1, i2] e (EzSt e z TI TO i1 i2 a b) where
  mem := List.mem_cons_self
  obj := by
    rintro i h ⟨⟨old, he⟩, ⟨f0, fl, _, hz⟩, hTI, ⟨x, y, hTO⟩, ⟨o1, q1, _, d1⟩, ⟨o2, q2, _, d2⟩⟩ c hc
    simp only [List.mem_cons, List.not_mem_nil, or_false] at hc
    rcases hc with rfl | rfl | rfl | rfl | rfl | rfl
    · exact ⟨_, he, fun v q => nomatch q⟩
    · exact ⟨_, hz, fun v q => nomatch q⟩
    · exact ⟨_, hTI, fun v q => nomatch q⟩
    · exact ⟨_, hTO, fun v q => nomatch q⟩
    · exact ⟨o1, q1, fun v q => by rw [d1] at q; cases q⟩
    · exact ⟨o2, q2, fun v q => by rw [d2] at q; cases q⟩
  keep := by
    rintro i h h' ⟨⟨old, he⟩, ⟨f0, fl, ok, hz⟩, hTI, ⟨x, y, hTO⟩, h1, h2⟩ k
    exact ⟨⟨old, k e (by simp) _ he⟩, ⟨f0, fl, ok, k z (by simp) _ hz⟩, k TI (by simp) _ hTI, ⟨x, y, k TO (by simp) _ hTO⟩,
      h1.at fun o q => k i1 (by simp) o q, h2.at fun o q => k i2 (by simp) o q⟩
  item := by
    intro X hP hw hK hc i pins s σ H E I hf st hg
    subst hP hw hK
    obtain ⟨⟨old, he⟩, ⟨f0, fl, ok, hz⟩, hTI, ⟨x0, y0, hTO⟩, h1, h2⟩ := st
    obtain ⟨xs, ys, x, y, hqx, hqy, hx, hy⟩ := hg
    obtain ⟨its, rv, p, _⟩ := I.list hqx
    obtain ⟨its2, rv2, p2, _⟩ := I.list hqy
    obtain ⟨u, hu, ru⟩ := rv.get hx
    obtain ⟨u2, hu2, ru2⟩ := rv2.get hy
    have lt : ∀ c ∈ [e, z, TI, TO, i1, i2], c < s.heap.objs.size := by
      intro c hc
      simp only [List.mem_cons, List.not_mem_nil, or_false] at hc
      rcases hc with rfl | rfl | rfl | rfl | rfl | rfl
      · exact Heap.lt_size he
      · exact Heap.lt_size hz
      · exact Heap.lt_size hTI
      · exact Heap.lt_size hTO
      · obtain ⟨_, q, _⟩ := h1
        exact Heap.lt_size q
      · obtain ⟨_, q, _⟩ := h2
        exact Heap.lt_size q
    refine next_enum he (nextOf_zip D ok hz hTI hTO h1 h2 p.isList p2.isList (x := u) (y := u2) (by simpa using hu) (by simpa using hu2) ?_)
    intro g1 f1 fl1 a1 b1 ok1 z1 TO1 l1 l2 U1 size1 kept1
    refine ⟨kept1 e _ ez eTO e1 e2 he, ?_⟩
    intro g2 E2 T2 size2 kept2
    refine ⟨_, rfl, wpAny_letOwnedTupleGo_enum (s := { s with heap := g2, toks := s.toks + 1 }) E2 ?_⟩
    intro g3 E3 same3
    replace same3 : Heap.SameBut e g2 g3 := same3
    have hn : H s.heap.objs.size = none := I.hok.fresh (Nat.le_refl _)
    -- the inner pair
    have I1 : L2.Inv X pins σ (upd H s.heap.objs.size (.tup [x, y])) { s with heap := g1, toks := s.toks } := by
      refine I.turnedNew (ch := [e, z, TI, TO, i1, i2]) ?_ hf (Nat.le_refl _) ?_
      · intro c o hc q
        refine kept1 c o ?_ ?_ ?_ ?_ q <;> (rintro rfl; exact hc (by simp))
      · exact ⟨by show 2 ≤ sizeLine; decide, [u, u2], .cons ru (.cons ru2 .nil), ⟨_, U1, rfl, _, rfl⟩⟩
    have fpe := hf e (List.mem_cons_self)
    have hf1 : ∀ c ∈ [e], FpOk X pins (upd H s.heap.objs.size (.tup [x, y])) c := by
      intro c hc
      rw [List.mem_singleton.mp hc]
      refine ⟨?_, fpe.2⟩
      rw [upd_ne (Nat.ne_of_lt (lt e (List.mem_cons_self)))]
      exact fpe.1
    have ltU : e < g1.objs.size := by
      rw [size1]
      exact Nat.lt_succ_of_lt (lt e (List.mem_cons_self))
    have T3 : g3.get? g1.objs.size = some { cls := .type "tuple", data := .seq #[.int i s.toks, .ref s.heap.objs.size] } :=
      (same3.2 _ (Nat.ne_of_gt ltU)).trans T2
    have I2 : L2.Inv X pins σ (upd (upd H s.heap.objs.size (.tup [x, y])) g1.objs.size (.tup [.int (i : Nat), .ref s.heap.objs.size])) { s with heap := g3, toks := s.toks + 1 } := by
      refine I1.turnedNew (ch := [e]) ?_ hf1 (Nat.le_refl _) ?_
      · intro c o hc q
        have hce : c ≠ e := fun z => hc (List.mem_singleton.mpr z)
        exact (same3.2 c hce).trans (kept2 c o hce q)
      · exact ⟨by show 2 ≤ sizeLine; decide, [.int i s.toks, .ref s.heap.objs.size], .cons ⟨_, rfl⟩ (.cons rfl .nil), ⟨_, T3, rfl, _, rfl⟩⟩
    have hn2 : (upd H s.heap.objs.size (.tup [x, y])) g1.objs.size = none := I1.hok.fresh (Nat.le_refl _)
    have tne : s.heap.objs.size ≠ g1.objs.size := by rw [size1]; omega
    refine ⟨.ref g1.objs.size, _, I2, rfl, ⟨g1.objs.size, s.heap.objs.size, x, y, rfl, hn, (Kp.new hn).trans (Kp.new hn2), ?_, upd_same, ?_, ?_⟩, ⟨⟨.ref s.heap.objs.size, ?_⟩, ⟨f1, fl1, ok1, ?_⟩, ?_, ⟨a1, b1, ?_⟩, ?_, ?_⟩, ?_⟩
    · rw [upd_ne tne, upd_same]
    · intro l hl
      rw [I.list_inj hl hqx]
      exact hx
    · intro l hl
      rw [I.list_inj hl hqy]
      exact hy
    · rw [show ((i + 1 : Nat) : Int) = (i : Int) + 1 by omega]
      exact E3
    · exact (same3.2 z ez.symm).trans (kept2 z _ ez.symm z1)
    · exact (same3.2 TI eTI.symm).trans (kept2 TI _ eTI.symm (kept1 TI _ D.TIz D.TITO D.TIi1 D.TIi2 hTI))
    · exact (same3.2 TO eTO.symm).trans (kept2 TO _ eTO.symm TO1)
    · exact l1.at fun o q => (same3.2 i1 e1.symm).trans (kept2 i1 o e1.symm q)
    · exact l2.at fun o q => (same3.2 i2 e2.symm).trans (kept2 i2 o e2.symm q)
    · intro c hc
      have hl := lt c hc
      rw [upd_ne (Nat.ne_of_lt (by rw [size1]; exact Nat.lt_succ_of_lt hl)), upd_ne (Nat.ne_of_lt hl)]
      exact (hf c hc).1
  done := by
    intro X hP hw hK hc i pins s σ H E I hf st hg
    subst hP hw hK
    obtain ⟨⟨old, he⟩, ⟨f0, fl, ok, hz⟩, hTI, ⟨x0, y0, hTO⟩, h1, h2⟩ := st
    obtain ⟨xs, ys, hqx, hqy, hend⟩ := hg
    obtain ⟨its, rv, p, _⟩ := I.list hqx
    obtain ⟨its2, rv2, p2, _⟩ := I.list hqy
    have n1 := rv.length
    have n2 := rv2.length
    have he' : its.toArray[i]? = none ∨ its2.toArray[i]? = none := by
      rcases hend with q | q
      · exact .inl (by simp; omega)
      · exact .inr (by simp; omega)
    refine next_enum_end he (nextOf_zip_end (I.ok.hd hc) D ok hz hTI hTO h1 h2 p.isList p2.isList he' ?_)
    rintro g1 ex kept ⟨o, ho, hcl⟩
    refine ⟨ex, o, rfl, ho, hcl, rfl, ?_⟩
    refine I.turnedL (t' := s.toks) (ch := [e, z, TI, TO, i1, i2]) ?_ hf
    intro c ob hb q
    refine kept c ob ?_ ?_ ?_ ?_ q <;> (rintro rfl; exact hb (by simp))
  self := by
    rintro A i s Q E ⟨⟨old, he⟩, _⟩ h
    exact wpAny_pyIter_enum he h
def iEz (K : PySem.W.Frag) (ta : TA) : TI := fun σ H R => ta σ H fun vs H1 => ∃ a b xs ys, vs = [.ref a, .ref b] ∧ SqL K H1 a xs ∧ SqL K H1 b ys ∧ R (Itez K a b) H1
theorem pi_ez {X : Cx} {e e2 : Expr} {ta : TA} {p p2 pos pos2 tpos : Pos} {elts : List Expr} {kk : Nat}
    (hgE : Gl X "enumerate") (hmE : X.mg "enumerate" = none) (hgZ : Gl X "zip") (hmZ : X.mg "zip" = none) (ha : PA X [e, e2] ta)
    (hs : starEach [e, e2] X.env = (false, eval e X.env) :: starEach [e2] X.env := by rfl)
    (hpl : (backTo pos2 (starEach [e2] X.env)).any (·.1) = false := by rfl)
    (hsE : starEach [.Call (.Name "zip" p2) [e, e2] [] pos2] X.env = [(false, eval (.Call (.Name "zip" p2) [e, e2] [] pos2) X.env)] := by rfl) :
    PI X (.Tuple elts kk tpos) (.Call (.Name "enumerate" p) [.Call (.Name "zip" p2) [e, e2] [] pos2] [] pos) (iEz X.K ta) := by
  refine ⟨fun pins s σ H R I h => ?_⟩
  refine Call_ (ld_blt I hgE hmE PyProof.Rows.boot_enumerate (PyProof.Rows.callWith_type1 ?_ hsE rfl))
  rw [hsE]
  show wpAny _ _ (spliced ((false, eval (.Call (.Name "zip" p2) [e, e2] [] pos2) X.env) :: [])) _ _ s
  refine Calls.spliced_cons ?_
  refine Call_ (ld_blt I hgZ hmZ PyProof.Rows.boot_zip (PyProof.Rows.callWith_type1 (thn (ha.run pos2 pins s σ H _ I h) ?_) hs hpl))
  rintro us s1 ⟨vs, H1, I1, r1, a, b, xs, ys, ex, hqx, hqy, q⟩
  subst ex
  cases r1 with
  | cons r rr =>
    cases rr with
    | cons r' rr =>
      cases rr
      cases r
      cases r'
      obtain ⟨its, rv, p1, _⟩ := I1.list hqx
      obtain ⟨its2, rv2, p3, _⟩ := I1.list hqy
      refine call_zip_2 p1.isList p3.isList ?_
      intro g1 hz hTI hTO l1 l2 size1 kept1
      refine Calls.spliced_nil ?_
      refine call_enum_zip (s := { s1 with heap := g1 }) hz ?_
      intro g2 he size2 kept2
      have sz : g1.objs.size = s1.heap.objs.size + 5 := size1
      replace he : IsEnum g2 g1.objs.size (s1.heap.objs.size + 4) 0 .none := he
      replace kept2 : ∀ b o, g1.get? b = some o → g2.get? b = some o := kept2
      refine wpAny_pyIter_enum he ?_
      have neS : ∀ j : Nat, j < 5 → g1.objs.size ≠ s1.heap.objs.size + j := fun j hj => Nat.ne_of_gt (by rw [sz]; exact Nat.add_lt_add_left hj _)
      have D := PySem.W.ktu_apart s1.heap.objs.size a b p1.lt p3.lt
      have I2 : L2.Inv X pins σ H1 { s1 with heap := g2 } := I1.kept (t' := s1.toks) fun b o q => kept2 b o (kept1 b o q)
      refine ⟨g1.objs.size, [g1.objs.size, s1.heap.objs.size + 4, s1.heap.objs.size + 2, s1.heap.objs.size + 3, s1.heap.objs.size, s1.heap.objs.size + 1],
        EzSt g1.objs.size (s1.heap.objs.size + 4) (s1.heap.objs.size + 2) (s1.heap.objs.size + 3) s1.heap.objs.size (s1.heap.objs.size + 1) a b, Itez X.K a b, H1, rfl, I2,
        turn_ez D (neS 4 (by decide)) (neS 2 (by decide)) (neS 3 (by decide)) (neS 0 (by decide)) (neS 1 (by decide)), ?_, ?_, q⟩
      · exact ⟨⟨.none, he⟩, ⟨.none, false, .inl rfl, kept2 _ _ hz⟩, kept2 _ _ hTI, ⟨_, _, kept2 _ _ hTO⟩,
          l1.at fun o q => kept2 _ o q, l2.at fun o q => kept2 _ o q⟩
      · intro c hc
        have hle : s1.heap.objs.size ≤ c := by
          simp only [List.mem_cons, List.not_mem_nil, or_false] at hc
          rcases hc with rfl | rfl | rfl | rfl | rfl | rfl
          · show s1.heap.objs.size ≤ g1.objs.size
            rw [sz]
            exact Nat.le_add_right _ _
          · exact Nat.le_add_right _ _
          · exact Nat.le_add_right _ _
          · exact Nat.le_add_right _ _
          · exact Nat.le_refl _
          · exact Nat.le_add_right _ _
        exact I1.fpOk hle (I1.hok.fresh hle)
/-- a new pair of the turn and a pair of ints -/
def YEZ (ns ms : List Int) : Nat → Hp → V → Hp → Prop := fun i H x H' => ∃ T U, x = .ref T ∧ H U = none ∧ Kp [] H H' ∧ H' U = some (.tup [.int (ns.getD i 0), .int (ms.getD i 0)]) ∧
  H' T = some (.tup [.int (i : Int), .ref U])
theorem walk_ez {K : PySem.W.Frag} {a b : Addr} {ns ms : List Int} {n : Nat} (hn : n = min ns.length ms.length) :
    Walk (Itez K a b) n (fun H => SqL K H a (ns.map V.int) ∧ SqL K H b (ms.map V.int)) (YEZ ns ms) := by
  subst hn
  refine ⟨fun i H hi q => ⟨_, _, _, _, q.1, q.2, getD_map (by omega), getD_map (by omega)⟩, fun H q => ⟨_, _, q.1, q.2, by rw [List.length_map, List.length_map]; omega⟩, ?_⟩
  rintro i H x H' hi q ⟨T, U, x1, x2, e, n, kp, hU, hT, e1, e2⟩
  have z1 := getD_at (by omega) (e1 _ q.1)
  have z2 := getD_at (by omega) (e2 _ q.2)
  subst z1 z2
  exact ⟨T, U, e, n, kp, hU, hT⟩
end Cf

set_option Elab.async false
set_option linter.all false
set_option maxRecDepth 100000
namespace Cf
open PySem PySem.Spec PyProof.Rows L2
/-! ### enumerate(t), t a tuple -/
open AutoSeq1 in
theorem new_enum_tup (t : Addr) (items : Array Value) (o : Obj) :
    Meets (Builtin.«enumerate.__new__» ⟨[.type "enumerate", .ref t], []⟩) (fun _ R s => s.heap.get? t = some o ∧ s.heap.IsTuple t items ∧
      R (.ok (.ret (.ref (s.heap.push { cls := .type "tuple_iterator", data := .fields #[.ref t, .int 0 0] }).objs.size)))
        { s with heap := (s.heap.push { cls := .type "tuple_iterator", data := .fields #[.ref t, .int 0 0] }).push { cls := .type "enumerate", data := .fields #[.none, .bool false, .ref s.heap.objs.size, rawInt 0, .none, .none] } }) :=
  .of_wp fun prog w A R s h => by
    obtain ⟨hp, gn, dd, tk, os⟩ := s
    obtain ⟨ho, ht, h⟩ := h
    have sub := sub_enumerate
    have hT : Heap.IsTuple (Shared.heap ⟨hp, gn, dd, tk, os⟩) t items := ht
    wp_walk using wpAny_loadPart' ho
    refine wpAny_stack_any fun st => wpAny_pure ?_
    split
    · rename_i c _ _ _ _ _
      cases (c == Value.type "enumerate") <;>
        (wp_walk using wpAny_loadPart' ho, wpAny_pyIter_tuple hT
         exact ⟨_, rfl, h⟩)
    · wp_walk using wpAny_loadPart' ho, wpAny_pyIter_tuple hT
      exact ⟨_, rfl, h⟩

section
variable {prog : Program} {w : World} {A : Around} {E : Value → Shared → Prop} {s : Shared}
theorem call_enum_tup {t : Addr} {items : Array Value} {Q : Value → Shared → Prop} (ht : s.heap.IsTuple t items)
    (h : ∀ h', IsEnum h' (s.heap.objs.size + 1) s.heap.objs.size 0 .none → h'.IsTupleIter s.heap.objs.size t 0 →
      (∀ b o, s.heap.get? b = some o → h'.get? b = some o) → Q (.ref (s.heap.objs.size + 1)) { s with heap := h' }) :
    wpAny (model prog w) A (call (.type "enumerate") [.ref t]) Q E s := by
  obtain ⟨o, ho, _⟩ := id ht
  refine callType_new F.called_enumerate (by decide) (F.typeCall_enumerate_1 _) (F.newCall_enumerate_1 _)
    (fun obj => F.args_object_init_2 obj _) F.entry_enumerate_new (new_enum_tup t items o) ⟨ho, ht, ?_⟩
  have hz : (s.heap.push { cls := .type "tuple_iterator", data := .fields #[.ref t, .int 0 0] }).objs.size = s.heap.objs.size + 1 := Heap.size_push ..
  show _ ∧ _
  rw [hz]
  have he : IsEnum ((s.heap.push { cls := .type "tuple_iterator", data := .fields #[.ref t, .int 0 0] }).push { cls := .type "enumerate", data := .fields #[.none, .bool false, .ref s.heap.objs.size, rawInt 0, .none, .none] }) (s.heap.objs.size + 1) s.heap.objs.size 0 .none := by
    rw [← hz]
    exact Heap.get?_push_size _ rfl
  refine ⟨⟨_, he, rfl⟩, h _ he ?_ fun b o q => Heap.get?_push_of_some _ (Heap.get?_push_of_some _ q)⟩
  exact ⟨_, Heap.get?_push_of_some _ (Heap.get?_push_size _ rfl), rfl, rfl⟩
end
def Itet (K : PySem.W.Frag) (a : Addr) : It where
  go := fun i H => ∃ xs x, SqT K H a xs ∧ xs[i]? = some x
  yld := fun i H v H' => ∃ T x, v = .ref T ∧ H T = none ∧ Kp [] H H' ∧ H' T = some (.tup [.int (i : Nat), x]) ∧ ∀ xs, SqT K H a xs → xs[i]? = some x
  stop := fun i H => ∃ xs, SqT K H a xs ∧ xs.length ≤ i
theorem turn_et {P : Program} {w : World} {K : PySem.W.Frag} {elts : List Expr} {kk : Nat} {tpos : Pos} (a e it : Addr) (ne : e ≠ it) (na : a ≠ e) :
    Turn P w K (.Tuple elts kk tpos) (Itet K a) [e, it] e (fun i h => (∃ old, IsEnum h e it ((i : Nat) : Int) old) ∧ h.IsTupleIter it a i) where
  mem := List.mem_cons_self
  obj := by
    rintro i h ⟨⟨old, he⟩, ⟨o, ho, _, hd⟩⟩ c hc
    simp only [List.mem_cons, List.not_mem_nil, or_false] at hc
    rcases hc with rfl | rfl
    · exact ⟨_, he, fun v q => nomatch q⟩
    · exact ⟨o, ho, fun v q => by rw [hd] at q; cases q⟩
  keep := by
    rintro i h h' ⟨⟨old, he⟩, hi⟩ k
    exact ⟨⟨old, k e (by simp) _ he⟩, hi.at fun o q => k it (by simp) o q⟩
  item := by
    intro X hP hw hK hc i pins s σ H E I hf st hg
    subst hP hw hK
    obtain ⟨⟨old, he⟩, hit⟩ := st
    obtain ⟨xs, x, hq, hx⟩ := hg
    obtain ⟨its, rv, p, _⟩ := I.tuple hq
    obtain ⟨u, hu, ru⟩ := rv.get hx
    have lt : ∀ c ∈ [e, it], c < s.heap.objs.size := by
      intro c hc
      simp only [List.mem_cons, List.not_mem_nil, or_false] at hc
      rcases hc with rfl | rfl
      · exact Heap.lt_size he
      · obtain ⟨_, q, _⟩ := hit
        exact Heap.lt_size q
    refine next_enum he (PySem.wpAny_nextOf_tuple_item hit (show s.heap.IsTuple a its.toArray from p) (x := u) (by simpa using hu) ?_)
    intro g1 hit1 same1
    refine ⟨(same1.2 e ne).trans he, ?_⟩
    intro g2 E2 T2 size2 kept2
    refine ⟨_, rfl, wpAny_letOwnedTupleGo_enum (s := { s with heap := g2, toks := s.toks + 1 }) E2 ?_⟩
    intro g3 E3 same3
    replace same3 : Heap.SameBut e g2 g3 := same3
    have size1 : g1.objs.size = s.heap.objs.size := same1.1
    have ltE : e < g1.objs.size := by
      rw [size1]
      exact lt e (List.mem_cons_self)
    have T3 : g3.get? s.heap.objs.size = some { cls := .type "tuple", data := .seq #[.int i s.toks, u] } := by
      rw [← size1]
      exact (same3.2 _ (Nat.ne_of_gt ltE)).trans T2
    have hn : H s.heap.objs.size = none := I.hok.fresh (Nat.le_refl _)
    have I2 : L2.Inv X pins σ (upd H s.heap.objs.size (.tup [.int (i : Nat), x])) { s with heap := g3, toks := s.toks + 1 } := by
      refine I.turnedNew (ch := [e, it]) ?_ hf (Nat.le_refl _) ?_
      · intro c o hc q
        have hce : c ≠ e := fun z => hc (by simp [z])
        have hci : c ≠ it := fun z => hc (by simp [z])
        exact (same3.2 c hce).trans (kept2 c o hce ((same1.2 c hci).trans q))
      · exact ⟨by show 2 ≤ sizeLine; decide, [.int i s.toks, u], .cons ⟨_, rfl⟩ (.cons ru .nil), ⟨_, T3, rfl, _, rfl⟩⟩
    have eT : Value.ref g1.objs.size = Value.ref s.heap.objs.size := by rw [size1]
    refine ⟨.ref s.heap.objs.size, _, I2, eT, ⟨_, x, rfl, hn, Kp.new hn, upd_same, ?_⟩, ⟨⟨u, ?_⟩, ?_⟩, ?_⟩
    · intro l hl
      rw [I.tuple_inj hl hq]
      exact hx
    · rw [show ((i + 1 : Nat) : Int) = (i : Int) + 1 by omega]
      exact E3
    · exact hit1.at fun o q => (same3.2 it ne.symm).trans (kept2 it o ne.symm q)
    · intro c hc
      rw [upd_ne (Nat.ne_of_lt (lt c hc))]
      exact (hf c hc).1
  done := by
    intro X hP hw hK hc i pins s σ H E I hf st hg
    subst hP hw hK
    obtain ⟨⟨old, he⟩, hit⟩ := st
    obtain ⟨xs, hq, hl⟩ := hg
    obtain ⟨its, rv, p, _⟩ := I.tuple hq
    have n1 := rv.length
    refine next_enum_end he (PySem.wpAny_nextOf_tuple_end (I.ok.hd hc) hit (show s.heap.IsTuple a its.toArray from p) (by simp; omega) ?_)
    rintro g1 ex kept ⟨o, ho, hcl⟩
    refine ⟨ex, o, rfl, ho, hcl, rfl, ?_⟩
    refine I.turnedL (t' := s.toks) (ch := [e, it]) ?_ hf
    intro c ob hb q
    exact kept c ob (fun z => hb (by simp [z])) q
  self := by
    rintro A i s Q E ⟨⟨old, he⟩, _⟩ h
    exact wpAny_pyIter_enum he h
def iEt (K : PySem.W.Frag) (ta : TA) : TI := fun σ H R => ta σ H fun vs H1 => ∃ a xs, vs = [.ref a] ∧ SqT K H1 a xs ∧ R (Itet K a) H1
theorem pi_et {X : Cx} {e : Expr} {ta : TA} {p pos tpos : Pos} {elts : List Expr} {kk : Nat} (hg : Gl X "enumerate") (hm : X.mg "enumerate" = none)
    (ha : PA X [e] ta) (hs : starEach [e] X.env = [(false, eval e X.env)] := by rfl) :
    PI X (.Tuple elts kk tpos) (.Call (.Name "enumerate" p) [e] [] pos) (iEt X.K ta) := by
  refine ⟨fun pins s σ H R I h => ?_⟩
  refine Call_ (ld_blt I hg hm PyProof.Rows.boot_enumerate (PyProof.Rows.callWith_type1 (thn (ha.run pos pins s σ H _ I h) ?_) hs rfl))
  rintro us s1 ⟨vs, H1, I1, r1, a, xs, ex, hq, q⟩
  subst ex
  cases r1 with
  | cons r rr =>
    cases rr
    cases r
    obtain ⟨its, rv, p1, _⟩ := I1.tuple hq
    refine call_enum_tup (show s1.heap.IsTuple a its.toArray from p1) ?_
    intro g1 he hit kept
    refine wpAny_pyIter_enum he ?_
    have I2 : L2.Inv X pins σ H1 { s1 with heap := g1 } := I1.kept (t' := s1.toks) kept
    have la : a < s1.heap.objs.size := by
      obtain ⟨o, ho, _⟩ := p1
      exact Heap.lt_size ho
    refine ⟨s1.heap.objs.size + 1, [s1.heap.objs.size + 1, s1.heap.objs.size], _, Itet X.K a, H1, rfl, I2,
      turn_et a (s1.heap.objs.size + 1) s1.heap.objs.size (Nat.succ_ne_self _) (Nat.ne_of_lt (Nat.lt_succ_of_lt la)), ⟨⟨.none, he⟩, hit⟩, ?_, q⟩
    intro c hc
    have hle : s1.heap.objs.size ≤ c := by
      simp only [List.mem_cons, List.not_mem_nil, or_false] at hc
      rcases hc with rfl | rfl
      · exact Nat.le_add_right _ _
      · exact Nat.le_refl _
    exact I1.fpOk hle (I1.hok.fresh hle)
theorem walk_et {K : PySem.W.Frag} {a : Addr} {ns : List Int} : Walk (Itet K a) ns.length (fun H => SqT K H a (ns.map V.int)) (YE ns) := by
  refine ⟨fun i H hi q => ⟨_, _, q, getD_map hi⟩, fun H q => ⟨_, q, by rw [List.length_map]; exact Nat.le_refl _⟩, ?_⟩
  rintro i H x H' hi q ⟨T, x1, e, n, kp, hT, e1⟩
  have z1 := getD_at hi (e1 _ q)
  subst z1
  exact ⟨T, e, n, kp, hT⟩
end Cf

set_option Elab.async false
set_option linter.all false
set_option maxRecDepth 100000
namespace Cf
open PySem PySem.Spec PyProof.Rows L2
/-! ### sorted, sum, min, max of a tuple of ints -/
section
variable {prog : Program} {w : World} {A : Around} {E : Value → Shared → Prop} {s : Shared} {l : Addr}
theorem collect_tup {vs : List Value} {Q : List Value → Shared → Prop} (hl : s.heap.IsTuple l vs.toArray) (hsz : vs.length ≤ sizeLine)
    (h : Q vs { s with heap := (s.heap.push (seqObj "list" #[] 0)).update s.heap.objs.size (Obj.mapSeq (· ++ vs.toArray)) }) :
    wpAny (model prog w) A (collect (.ref l)) Q E s := by
  obtain ⟨o, ho, hc, n, hd⟩ := id hl
  unfold collect
  refine wpAny_bind (wpAny_runValue (codeAny_builtin entry_proto_collect' ?_))
  show wpAny _ _ (do again (.builtin "list.__iadd__" ⟨[← newList [], .ref l], []⟩)) _ _ s
  refine wpAny_bind (wpAny_newList (wpAny_pure ⟨Code.quiet_builtin _ (by decide +kernel), codeAny_builtin entry_list_iadd' ?_⟩))
  show wpAny _ _ (Builtin.List.listExtendWith (.ref s.heap.objs.size) (.ref l) (.ref s.heap.objs.size)) _ _ { s with heap := s.heap.push (seqObj "list" #[] 0) }
  unfold Builtin.List.listExtendWith
  have hp : (s.heap.push (seqObj "list" #[] 0)).get? l = some o := Heap.get?_push_of_some _ ho
  refine wpAny_bind (wpAny_typeOf (T := "tuple") ⟨o, hp, hc⟩ ?_)
  rw [if_pos (by simp)]
  refine wpAny_bind (listItems_at hp hd ?_)
  refine wpAny_bind (listItems_at (xs := #[]) (n := 0) (Heap.get?_push_size _ rfl) rfl ?_)
  rw [if_neg (by simp)]
  refine wpAny_bind (listUpdate_at (xs := #[]) (n := 0) (Heap.get?_push_size _ rfl) rfl ?_ (Nat.zero_le _) ?_)
  · refine wpAny_pure ?_
    show wpAny (model prog w) A (do
      let o ← load s.heap.objs.size
      match o.data with
      | .seq xs _ => pure xs.toList
      | _ => unsupported "internal:collect") Q E _
    refine wpAny_bind (wpAny_load (get?_update_seq (Heap.get?_push_size _ rfl) _) ?_)
    show wpAny _ _ (pure ((#[] : Array Value) ++ vs.toArray).toList) Q E _
    rw [show ((#[] : Array Value) ++ vs.toArray).toList = vs by simp]
    exact wpAny_pure h
  · show (#[] ++ vs.toArray).size ≤ sizeLine + 1
    simp only [Array.size_append, List.size_toArray, List.length_nil]
    omega
theorem sorted_tup {vs : List Value} {ltv : Value → Value → Bool} {Q : Value → Shared → Prop} (O : SrtO.Swo ltv) (hl : s.heap.IsTuple l vs.toArray) (hz : vs.length ≤ sizeLine)
    (hS : 2 ≤ vs.length → ∀ (h1 : Heap) (a : Addr), h1.get? a = some (seqObj "list" vs.toArray 0) → SrtO.SortableO prog w A.in1.in1 { s with heap := h1 } a vs ltv)
    (h : ∀ out : List Value, SrtO.Srtd ltv out → SrtO.Stb ltv out vs → Q (.ref (s.heap.objs.size + 1)) { s with heap := sortedAll s.heap vs out.toArray }) :
    wpAny (model prog w) A (call (.builtin "sorted") [.ref l]) Q E s := by
  refine Calls.call_function_entry kind_sorted plain_sorted entry_sorted (args_sorted1 _) ?_
  unfold Builtin.«sorted»
  refine wpAny_bind (m := checkCount "sorted" 1 1 _) (wpAny_pure ?_)
  refine wpAny_bind (collect_tup hl hz ?_)
  refine wpAny_bind (wpAny_newList ?_ hz)
  have size1 : ((s.heap.push (seqObj "list" #[] 0)).update s.heap.objs.size (Obj.mapSeq (· ++ vs.toArray))).objs.size = s.heap.objs.size + 1 := by
    rw [Heap.size_update, Heap.size_push]
  have new : (((s.heap.push (seqObj "list" #[] 0)).update s.heap.objs.size (Obj.mapSeq (· ++ vs.toArray))).push (seqObj "list" vs.toArray 0)).get? (s.heap.objs.size + 1) = some (seqObj "list" vs.toArray 0) := by
    rw [← size1]
    exact Heap.get?_push_size _ rfl
  show wpAny _ _ _ _ _ { s with heap := ((s.heap.push (seqObj "list" #[] 0)).update s.heap.objs.size (Obj.mapSeq (· ++ vs.toArray))).push (seqObj "list" vs.toArray 0) }
  rw [size1]
  refine wpAny_bind (wpAny_holding (wpAny_call_entry slot_list_sort ⟨_, new, rfl⟩ entry_list_sort ?_ (args_list_sort _)))
  refine SrtO.list_sort_ord O new hz (fun h2 => hS h2 _ _ new) fun out hs hb => ⟨_, rfl, ?_⟩
  exact wpAny_pure ⟨_, rfl, h out hs hb⟩
end
section
variable {X : Cx}
theorem cr_srtT : CallR X (.builtin "sorted") (fun vs H Q => ∃ p, ∃ ns : List Int, vs = [.ref p] ∧ SqT X.K H p (ns.map V.int) ∧ ∀ ms : List Int, ms.Perm ns → ms.Pairwise (· ≤ ·) → New H (.lst (ms.map V.int)) Q) := by
  intro pins s σ H vs us Q I r h
  obtain ⟨a, ns, rfl, hs, q⟩ := h
  obtain ⟨its, rv, hl, hz⟩ := I.tuple hs
  rw [Vals.ref1 r]
  have hi := rv.ints
  refine sorted_tup SrtO.swo_int hl (by rw [← rv.length]; exact hz) (fun h2 h₁ a' _ => SrtO.ints_sortable hi h2) fun out h1 h2 => ?_
  obtain ⟨k1, k2, k3⟩ := SrtO.ints_out hi h1 h2
  obtain ⟨ep, he⟩ := PyProof.Rows.sortedAll_at s.heap its out.toArray
  have hlen : ((out.map SrtO.iv).map V.int).length ≤ sizeLine := by
    rw [List.length_map, k2.length_eq]
    rw [List.length_map] at hz
    exact hz
  have fresh : H (s.heap.objs.size + 1) = none := I.hok.fresh (Nat.le_succ _)
  refine ⟨.ref _, upd H (s.heap.objs.size + 1) (.lst ((out.map SrtO.iv).map V.int)), ?_, rfl, (q _ k2 k3).go _ fresh⟩
  exact I.laid (t' := s.toks) (fun _ _ => PyProof.Rows.sortedAll_old) (Nat.le_succ _) ⟨hlen, out, ep, vals_of_ints k1, he⟩
/-- sorted(x) of a list or a tuple of ints -/
theorem cr_srt : CallR X (.builtin "sorted") (fun vs H Q => ∃ p, ∃ ns : List Int, vs = [.ref p] ∧ (SqL X.K H p (ns.map V.int) ∨ SqT X.K H p (ns.map V.int)) ∧ ∀ ms : List Int, ms.Perm ns → ms.Pairwise (· ≤ ·) → New H (.lst (ms.map V.int)) Q) := by
  intro pins s σ H vs us Q I r h
  obtain ⟨a, ns, e, hs, q⟩ := h
  rcases hs with hs | hs
  · exact cr_srtL pins s σ H vs us Q I r ⟨a, ns, e, hs, q⟩
  · exact cr_srtT pins s σ H vs us Q I r ⟨a, ns, e, hs, q⟩
end

section
variable {prog : Program} {w : World} {A : Around} {E : Value → Shared → Prop} {s : Shared} {l : Addr} {xs : Array (Int × Tok)}
theorem iter_tup {Q : Value → Shared → Prop} (hl : s.heap.IsTuple l (intItems xs))
    (h : ∀ s2 : Shared, s2 = { s with heap := s.heap.push { cls := .type "tuple_iterator", data := .fields #[.ref l, .int 0 0] } } →
      (s2.heap.IsTupleIter s.heap.objs.size l 0 ∧ s2.heap.IsTuple l (intItems xs)) → (∀ b ∈ [s.heap.objs.size, l], b < s2.heap.objs.size) → l ≠ s.heap.objs.size → Q (.ref s.heap.objs.size) s2) :
    wpAny (model prog w) A (pyIter (.ref l)) Q E s := by
  have below : l < s.heap.objs.size := by
    obtain ⟨_, e, _⟩ := hl
    exact Heap.lt_size e
  have stays : (s.heap.push { cls := .type "tuple_iterator", data := .fields #[.ref l, .int 0 0] }).IsTuple l (intItems xs) := hl.at fun o e => Heap.get?_push_of_some _ e
  refine wpAny_pyIter_tuple hl (h _ rfl ⟨⟨_, Heap.get?_push_size _ rfl, rfl, rfl⟩, stays⟩ ?_ (Nat.ne_of_lt below))
  intro b hb
  show b < (s.heap.push _).objs.size
  rw [Heap.size_push]
  simp only [List.mem_cons, List.not_mem_nil, or_false] at hb
  rcases hb with rfl | rfl
  · exact Nat.lt_succ_self _
  · exact Nat.lt_succ_of_lt below
theorem kept_tup {h' : Heap} (hk : ∀ b o, b ∉ [s.heap.objs.size] → (s.heap.push { cls := .type "tuple_iterator", data := .fields #[.ref l, .int 0 0] }).get? b = some o → h'.get? b = some o) :
    ∀ b o, s.heap.get? b = some o → h'.get? b = some o := by
  intro b o e
  refine hk b o (fun hm => ?_) (Heap.get?_push_of_some _ e)
  exact absurd (List.mem_singleton.mp hm ▸ Heap.lt_size e) (Nat.lt_irrefl _)
theorem sum_tup {Q : Value → Shared → Prop} (hh : A.handled = none) (hl : s.heap.IsTuple l (intItems xs))
    (h : ∀ h' tk t', (∀ b o, s.heap.get? b = some o → h'.get? b = some o) → Q (.int (preSum (numAt xs) xs.size) t') { s with heap := h', toks := tk }) :
    wpAny (model prog w) A (call (.builtin "sum") [.ref l]) Q E s := by
  refine call_sum_walkG (iter_tup hl fun s2 e st hfp ne => ?_)
  subst e
  refine ⟨_, _, _, _, _, _, numAt xs, rfl, Walks.tuple (A := A.in1) hh _ l ne (intItems xs), st, hfp, (fun _ _ => intItems_at), ?_⟩
  intro h' tk t' hk
  simpa [intItems] using h h' tk t' (kept_tup hk)
theorem max_tup {Q : Value → Shared → Prop} (hh : A.handled = none) (hl : s.heap.IsTuple l (intItems xs)) (hne : 0 < xs.size)
    (h : ∀ v h' tk, (intItems xs)[argBest (fun i j => decide (numAt xs i > numAt xs j)) (xs.size - 1)]? = some v → (∀ b o, s.heap.get? b = some o → h'.get? b = some o) → Q v { s with heap := h', toks := tk }) :
    wpAny (model prog w) A (call (.builtin "max") [.ref l]) Q E s := by
  refine call_max_walk (iter_tup hl fun s2 e st hfp ne => ?_)
  subst e
  refine ⟨_, _, _, _, _, _, _, rfl, Walks.tuple (A := A.in1) hh _ l ne (intItems xs), st, hfp, by simpa [intItems] using hne, CmpOf.ints_gt (numAt xs) (fun _ _ => intItems_at), ?_⟩
  intro v h' tk hP hk
  exact h v h' tk (by simpa [intItems] using hP) (kept_tup hk)
theorem min_tup {Q : Value → Shared → Prop} (hh : A.handled = none) (hl : s.heap.IsTuple l (intItems xs)) (hne : 0 < xs.size)
    (h : ∀ v h' tk, (intItems xs)[argBest (fun i j => decide (numAt xs i < numAt xs j)) (xs.size - 1)]? = some v → (∀ b o, s.heap.get? b = some o → h'.get? b = some o) → Q v { s with heap := h', toks := tk }) :
    wpAny (model prog w) A (call (.builtin "min") [.ref l]) Q E s := by
  refine call_min_walk (iter_tup hl fun s2 e st hfp ne => ?_)
  subst e
  refine ⟨_, _, _, _, _, _, _, rfl, Walks.tuple (A := A.in1) hh _ l ne (intItems xs), st, hfp, by simpa [intItems] using hne, CmpOf.ints_lt (numAt xs) (fun _ _ => intItems_at), ?_⟩
  intro v h' tk hP hk
  exact h v h' tk (by simpa [intItems] using hP) (kept_tup hk)
end
section
variable {X : Cx}
theorem cr_sumT (hc : X.calm = true) : CallR X (.builtin "sum") (fun vs H Q => ∃ p, ∃ ns : List Int, vs = [.ref p] ∧ SqT X.K H p (ns.map V.int) ∧ Q (.int ns.sum) H) := by
  intro pins s σ H vs us Q I r h
  obtain ⟨a, ns, rfl, hs, q⟩ := h
  obtain ⟨its, rv, hl, _⟩ := I.tuple hs
  rw [Vals.ref1 r]
  have hi := rv.ints
  obtain ⟨xs, e⟩ := hi.allInts.items
  have hn : numsOf (intItems xs).toList = ns := by
    rw [← e]
    exact hi.numsOf
  rw [nums_intItems] at hn
  have hl : s.heap.IsTuple a its.toArray := hl
  rw [e] at hl
  refine sum_tup (I.ok.hd hc) hl fun h' tk t' hk => ?_
  rw [preSum_eq, List.take_of_length_le (by simp), hn]
  exact ⟨.int _, H, I.kept hk, ⟨_, rfl⟩, q⟩
theorem cr_minT (hc : X.calm = true) : CallR X (.builtin "min") (fun vs H Q => ∃ p, ∃ ns : List Int, vs = [.ref p] ∧ SqT X.K H p (ns.map V.int) ∧ 0 < ns.length ∧ ∀ m, m ∈ ns → (∀ y, y ∈ ns → m ≤ y) → Q (.int m) H) := by
  intro pins s σ H vs us Q I r h
  obtain ⟨a, ns, rfl, hs, hne, q⟩ := h
  obtain ⟨its, rv, hl, _⟩ := I.tuple hs
  rw [Vals.ref1 r]
  have hi := rv.ints
  obtain ⟨xs, e⟩ := hi.allInts.items
  have hn : numsOf (intItems xs).toList = ns := by
    rw [← e]
    exact hi.numsOf
  rw [nums_intItems] at hn
  subst hn
  have hl : s.heap.IsTuple a its.toArray := hl
  rw [e] at hl
  have hsz : 0 < xs.size := by simpa using hne
  refine min_tup (I.ok.hd hc) hl hsz fun v h' tk hv hk => ?_
  obtain ⟨t, rfl⟩ := intItems_at hv
  obtain ⟨h1, h2⟩ := argBest_lt (numAt xs) (xs.size - 1)
  refine ⟨.int _, H, I.kept hk, ⟨_, rfl⟩, q _ ?_ fun y hy => ?_⟩
  · rw [numAt_eq]
    exact PySem.getD_mem (by rw [List.length_map, Array.length_toList]; omega)
  · obtain ⟨j, hj, rfl⟩ := mem_getD hy
    rw [List.length_map, Array.length_toList] at hj
    rw [← numAt_eq]
    exact h2 j (by omega)
theorem cr_maxT (hc : X.calm = true) : CallR X (.builtin "max") (fun vs H Q => ∃ p, ∃ ns : List Int, vs = [.ref p] ∧ SqT X.K H p (ns.map V.int) ∧ 0 < ns.length ∧ ∀ m, m ∈ ns → (∀ y, y ∈ ns → y ≤ m) → Q (.int m) H) := by
  intro pins s σ H vs us Q I r h
  obtain ⟨a, ns, rfl, hs, hne, q⟩ := h
  obtain ⟨its, rv, hl, _⟩ := I.tuple hs
  rw [Vals.ref1 r]
  have hi := rv.ints
  obtain ⟨xs, e⟩ := hi.allInts.items
  have hn : numsOf (intItems xs).toList = ns := by
    rw [← e]
    exact hi.numsOf
  rw [nums_intItems] at hn
  subst hn
  have hl : s.heap.IsTuple a its.toArray := hl
  rw [e] at hl
  have hsz : 0 < xs.size := by simpa using hne
  refine max_tup (I.ok.hd hc) hl hsz fun v h' tk hv hk => ?_
  obtain ⟨t, rfl⟩ := intItems_at hv
  obtain ⟨h1, h2⟩ := argBest_gt (numAt xs) (xs.size - 1)
  refine ⟨.int _, H, I.kept hk, ⟨_, rfl⟩, q _ ?_ fun y hy => ?_⟩
  · rw [numAt_eq]
    exact PySem.getD_mem (by rw [List.length_map, Array.length_toList]; omega)
  · obtain ⟨j, hj, rfl⟩ := mem_getD hy
    rw [List.length_map, Array.length_toList] at hj
    rw [← numAt_eq]
    exact h2 j (by omega)
theorem erase_map (f : Int → V) : ∀ (ns : List Int) (i : Nat), (ns.map f).eraseIdx i = (ns.eraseIdx i).map f
  | [], _ => rfl
  | _ :: _, 0 => rfl
  | n :: r, i + 1 => by
    show f n :: (r.map f).eraseIdx i = f n :: (r.eraseIdx i).map f
    rw [erase_map f r i]
/-- xs.pop(i), 0 ≤ i, a list of ints -/
theorem mt_popI : MtM X "list.pop" (fun x vs H Q => ∃ l, ∃ ns : List Int, ∃ i : Int, x = .ref l ∧ vs = [.int i] ∧ IL H l ns ∧ (0 ≤ i ∧ i < (ns.length : Int)) ∧ ns.length < 2 ^ 62 ∧ ∀ H1, Md l H H1 → IL H1 l (ns.eraseIdx i.toNat) → Q (.int (ns.getD i.toNat 0)) H1) :=
  mt_imp mt_popAt fun _ _ H _ ⟨l, ns, i, a, b, h, hi, hl, q⟩ => by
    refine ⟨l, _, i, i.toNat, _, a, b, h, by omega, by omega, ?_, getD_map (by omega), q _ Md.upd ?_⟩
    · have z := (ixN_seq (n := (ns.map V.int).length) (i := i) (j := i.toNat) (by
        unfold ixN
        rw [if_pos hi.1, List.length_map, if_pos hi.2])).1
      exact z
    · show upd H l _ l = _
      rw [upd_same, erase_map]
end
open AutoSeq1 in
theorem tup_mul1 (l : Addr) (items : Array Value) (n : Nat) (dd : Option Addr) (sl : Array (Option Value)) (u : Tok) :
    Meets (Builtin.«tuple.__mul__» ⟨[.ref l, .int 1 u], []⟩) (fun _ R s => s.heap.get? l = some { cls := .type "tuple", dict := dd, data := .seq items n, slots := sl } ∧
      R (.ok (.ret (Value.ref l))) s) :=
  .of_wp fun prog w A R s h => by
    obtain ⟨hp, gn, d, tk, os⟩ := s
    obtain ⟨hl, h⟩ := h
    have f1 := AutoSeq1.idx_int
    wp_walk using wpAny_loadPart' hl
    repeat (first
      | (refine wpAny_ite_false (by decide) ?_; wp_walk using wpAny_loadPart' hl)
      | (refine wpAny_ite_true (by simp) ?_; wp_walk using wpAny_loadPart' hl))
    exact ⟨_, rfl, h⟩
section
variable {X : Cx}
/-- (x, ..) * 1 is the tuple itself -/
theorem op_repT1 : OpR X (binaryOp .Mult) (fun x y H Q => ∃ p xs, x = .ref p ∧ y = .int 1 ∧ SqT X.K H p xs ∧ Q (.ref p) H) := by
  intro pins s σ H x y v u Q I rx ry h
  obtain ⟨l, xs, rfl, rfl, hT, q⟩ := h
  cases rx
  obtain ⟨t, rfl⟩ := ry
  obtain ⟨its, r, ⟨⟨cls, dd, data, sl⟩, ho, hc, n, hd⟩, hs⟩ := I.tuple hT
  simp only at hc hd
  subst hc hd
  refine wpAny_binaryOp_repeat_ref (T := "tuple") (U := "int") (by decide) ⟨_, ho, rfl⟩ (fun s' => typeIs_int s' 1 t) noFill_tuple_mul F.fills_int_mul F.slot_int_rmul repeat_tuple F.slot_int_index.lookup ?_
  refine call_meets F.slot_int_rmul (typeIs_int s 1 t) F.entry_int_rmul (F.args_int_rmul_2 _ _) (int_rmul_tuple 1 t l its.toArray n dd sl) ⟨ho, rfl, ⟨_, ho, rfl⟩, ?_⟩
  refine call_meets F.slot_tuple_mul ⟨_, ho, rfl⟩ F.entry_tuple_mul (F.args_tuple_mul_2 _ _) (tup_mul1 l its.toArray n dd sl t) ⟨ho, ?_⟩
  exact ⟨.ref l, H, I, rfl, q⟩
/-- (x,) * k of ints, 1 ≤ k: the tuple itself or a new one -/
theorem op_repT : OpR X (binaryOp .Mult) (fun x y H Q => ∃ p, ∃ ns : List Int, ∃ k : Int, x = .ref p ∧ y = .int k ∧ SqT X.K H p (ns.map V.int) ∧ ns ≠ [] ∧ 1 ≤ k ∧ k ≤ 1000 ∧ ns.length ≤ 1000 ∧
    ∀ q H1, Kp [] H H1 → SqT X.K H1 q (((List.replicate k.toNat ns).flatten).map V.int) → Q (.ref q) H1) := by
  intro pins s σ H x y v u Q I rx ry h
  obtain ⟨p, ns, k, a, b, c, ne, h1, h2, h3, w⟩ := h
  by_cases e : k = 1
  · subst e
    refine op_repT1 pins s σ H x y v u Q I rx ry ⟨p, _, a, b, c, w p H Kp.refl ?_⟩
    show SqT X.K H p (((List.replicate 1 ns).flatten).map V.int)
    rw [show (List.replicate 1 ns).flatten = ns by simp]
    exact c
  · refine L2.op_repT pins s σ H x y v u Q I rx ry ⟨p, k, _, a, b, c, by simpa using ne, by omega, h2, by rw [List.length_map]; exact h3, ?_⟩
    intro q nq
    refine w q _ (Kp.new nq) ?_
    rw [← rep_map]
    exact sqT upd_same
theorem call_lstS : CallR X (.type "list") (fun vs H Q => ∃ p xs, vs = [.ref p] ∧ (SqL X.K H p xs ∨ SqT X.K H p xs) ∧ New H (.lst xs) Q) :=
  call_imp call_list_of fun _ _ _ ⟨p, xs, e, h, n⟩ => ⟨p, xs, e, h, n.go⟩
end
/-! ### the same, the written part by its name -/
section
variable {X : Cx}
theorem ix_liK {K : PySem.W.Frag} (e : X.K = K)  : IxR X (rIxI (SqL K)) := by
  subst e
  exact ix_li 
theorem ix_tiK {K : PySem.W.Frag} (e : X.K = K)  : IxR X (rIxI (SqT K)) := by
  subst e
  exact ix_ti 
theorem ix_leK {K : PySem.W.Frag} (e : X.K = K)  : IxR X (rIxE (SqL K)) := by
  subst e
  exact ix_le 
theorem ix_teK {K : PySem.W.Frag} (e : X.K = K)  : IxR X (rIxE (SqT K)) := by
  subst e
  exact ix_te 
theorem ix_lvK {K : PySem.W.Frag} (e : X.K = K)  : IxR X (rIxV (SqL K)) := by
  subst e
  exact ix_lv 
theorem ix_tvK {K : PySem.W.Frag} (e : X.K = K)  : IxR X (rIxV (SqT K)) := by
  subst e
  exact ix_tv 
theorem call_len_seqK {K : PySem.W.Frag} (e : X.K = K)  : CallR X (.builtin "len") (fun xs H Q => ∃ p ys, xs = [.ref p] ∧ (SqL K H p ys ∨ SqT K H p ys) ∧ Q (.int ys.length) H) := by
  subst e
  exact call_len_seq 
theorem sl_liToK {K : PySem.W.Frag} (e : X.K = K)  : SlR X (fun x lo hi H Q => ∃ p, ∃ ns : List Int, ∃ k : Int, x = .ref p ∧ lo = none ∧ hi = some k ∧ SqL K H p (ns.map V.int) ∧ 0 ≤ k ∧ New H (.lst ((ns.take k.toNat).map V.int)) Q) := by
  subst e
  exact sl_liTo 
theorem call_tupLK {K : PySem.W.Frag} (e : X.K = K)  : CallR X (.type "tuple") (fun vs H Q => ∃ p xs, vs = [.ref p] ∧ SqL K H p xs ∧ New H (.tup xs) Q) := by
  subst e
  exact call_tupL 
theorem call_lstLK {K : PySem.W.Frag} (e : X.K = K)  : CallR X (.type "list") (fun vs H Q => ∃ p xs, vs = [.ref p] ∧ SqL K H p xs ∧ New H (.lst xs) Q) := by
  subst e
  exact call_lstL 
theorem call_lstTK {K : PySem.W.Frag} (e : X.K = K)  : CallR X (.type "list") (fun vs H Q => ∃ p xs, vs = [.ref p] ∧ SqT K H p xs ∧ New H (.lst xs) Q) := by
  subst e
  exact call_lstT 
theorem call_lstSK {K : PySem.W.Frag} (e : X.K = K)  : CallR X (.type "list") (fun vs H Q => ∃ p xs, vs = [.ref p] ∧ (SqL K H p xs ∨ SqT K H p xs) ∧ New H (.lst xs) Q) := by
  subst e
  exact call_lstS 
theorem cr_srtLK {K : PySem.W.Frag} (e : X.K = K)  : CallR X (.builtin "sorted") (fun vs H Q => ∃ p, ∃ ns : List Int, vs = [.ref p] ∧ SqL K H p (ns.map V.int) ∧ ∀ ms : List Int, ms.Perm ns → ms.Pairwise (· ≤ ·) → New H (.lst (ms.map V.int)) Q) := by
  subst e
  exact cr_srtL 
theorem cr_srtTK {K : PySem.W.Frag} (e : X.K = K)  : CallR X (.builtin "sorted") (fun vs H Q => ∃ p, ∃ ns : List Int, vs = [.ref p] ∧ SqT K H p (ns.map V.int) ∧ ∀ ms : List Int, ms.Perm ns → ms.Pairwise (· ≤ ·) → New H (.lst (ms.map V.int)) Q) := by
  subst e
  exact cr_srtT 
theorem cr_srtK {K : PySem.W.Frag} (e : X.K = K)  : CallR X (.builtin "sorted") (fun vs H Q => ∃ p, ∃ ns : List Int, vs = [.ref p] ∧ (SqL K H p (ns.map V.int) ∨ SqT K H p (ns.map V.int)) ∧ ∀ ms : List Int, ms.Perm ns → ms.Pairwise (· ≤ ·) → New H (.lst (ms.map V.int)) Q) := by
  subst e
  exact cr_srt 
theorem cr_sumK {K : PySem.W.Frag} (e : X.K = K) (hc : X.calm = true) : CallR X (.builtin "sum") (rSum K) := by
  subst e
  exact cr_sum hc
theorem cr_maxK {K : PySem.W.Frag} (e : X.K = K) (hc : X.calm = true) : CallR X (.builtin "max") (rMax K) := by
  subst e
  exact cr_max hc
theorem cr_minK {K : PySem.W.Frag} (e : X.K = K) (hc : X.calm = true) : CallR X (.builtin "min") (rMin K) := by
  subst e
  exact cr_min hc
theorem cr_allK {K : PySem.W.Frag} (e : X.K = K) (hc : X.calm = true) : CallR X (.builtin "all") (rAll K) := by
  subst e
  exact cr_all hc
theorem cr_anyK {K : PySem.W.Frag} (e : X.K = K) (hc : X.calm = true) : CallR X (.builtin "any") (rAny K) := by
  subst e
  exact cr_any hc
theorem cr_sumTK {K : PySem.W.Frag} (e : X.K = K) (hc : X.calm = true) : CallR X (.builtin "sum") (fun vs H Q => ∃ p, ∃ ns : List Int, vs = [.ref p] ∧ SqT K H p (ns.map V.int) ∧ Q (.int ns.sum) H) := by
  subst e
  exact cr_sumT hc
theorem cr_minTK {K : PySem.W.Frag} (e : X.K = K) (hc : X.calm = true) : CallR X (.builtin "min") (fun vs H Q => ∃ p, ∃ ns : List Int, vs = [.ref p] ∧ SqT K H p (ns.map V.int) ∧ 0 < ns.length ∧ ∀ m, m ∈ ns → (∀ y, y ∈ ns → m ≤ y) → Q (.int m) H) := by
  subst e
  exact cr_minT hc
theorem cr_maxTK {K : PySem.W.Frag} (e : X.K = K) (hc : X.calm = true) : CallR X (.builtin "max") (fun vs H Q => ∃ p, ∃ ns : List Int, vs = [.ref p] ∧ SqT K H p (ns.map V.int) ∧ 0 < ns.length ∧ ∀ m, m ∈ ns → (∀ y, y ∈ ns → y ≤ m) → Q (.int m) H) := by
  subst e
  exact cr_maxT hc
theorem op_repTK {K : PySem.W.Frag} (e : X.K = K)  : OpR X (binaryOp .Mult) (fun x y H Q => ∃ p, ∃ ns : List Int, ∃ k : Int, x = .ref p ∧ y = .int k ∧ SqT K H p (ns.map V.int) ∧ ns ≠ [] ∧ 1 ≤ k ∧ k ≤ 1000 ∧ ns.length ≤ 1000 ∧ ∀ q H1, Kp [] H H1 → SqT K H1 q (((List.replicate k.toNat ns).flatten).map V.int) → Q (.ref q) H1) := by
  subst e
  exact Cf.op_repT 
theorem call_reprK {K : PySem.W.Frag} (e : X.K = K) {k : Nat} (hr : Room k X.A) (hgd : X.A.guards = some []) : CallR X (.builtin "repr") (rRepr K) := by
  subst e
  exact call_repr hr hgd
theorem op_eqLIK {K : PySem.W.Frag} (e : X.K = K) {k : Nat} (hr : Room k X.A) : OpR X (compareOp .Eq) (fun x y H Q => ∃ p q, ∃ ns ms : List Int, x = .ref p ∧ y = .ref q ∧ SqL K H p (ns.map V.int) ∧ SqL K H q (ms.map V.int) ∧ Q (.bl (decide (ns = ms))) H) := by
  subst e
  exact op_eqLI hr
theorem op_neLIK {K : PySem.W.Frag} (e : X.K = K) {k : Nat} (hr : Room k X.A) : OpR X (compareOp .NotEq) (fun x y H Q => ∃ p q, ∃ ns ms : List Int, x = .ref p ∧ y = .ref q ∧ SqL K H p (ns.map V.int) ∧ SqL K H q (ms.map V.int) ∧ Q (.bl (!decide (ns = ms))) H) := by
  subst e
  exact op_neLI hr
theorem op_eqTIK {K : PySem.W.Frag} (e : X.K = K) {k : Nat} (hr : Room k X.A) : OpR X (compareOp .Eq) (fun x y H Q => ∃ p q, ∃ ns ms : List Int, x = .ref p ∧ y = .ref q ∧ SqT K H p (ns.map V.int) ∧ SqT K H q (ms.map V.int) ∧ Q (.bl (decide (ns = ms))) H) := by
  subst e
  exact op_eqTI hr
theorem op_neTIK {K : PySem.W.Frag} (e : X.K = K) {k : Nat} (hr : Room k X.A) : OpR X (compareOp .NotEq) (fun x y H Q => ∃ p q, ∃ ns ms : List Int, x = .ref p ∧ y = .ref q ∧ SqT K H p (ns.map V.int) ∧ SqT K H q (ms.map V.int) ∧ Q (.bl (!decide (ns = ms))) H) := by
  subst e
  exact op_neTI hr
end
section
variable {X : Cx}
theorem first_at : ∀ (ns : List Int) (y : Int), y ∈ ns → ∃ j, j < ns.length ∧ ns.getD j 0 = y ∧ ∀ i, i < j → ns.getD i 0 ≠ y
  | n :: r, y, h => by
    by_cases e : n = y
    · exact ⟨0, by simp, by simpa using e, fun i hi => absurd hi (Nat.not_lt_zero _)⟩
    · have h2 : y ∈ r := by
        rcases List.mem_cons.mp h with z | z
        · exact absurd z.symm e
        · exact z
      obtain ⟨j, h1, h3, h4⟩ := first_at r y h2
      refine ⟨j + 1, by simpa using h1, by simpa using h3, fun i hi => ?_⟩
      cases i with
      | zero => simpa using e
      | succ i => simpa using h4 i (by omega)
/-- xs.index(y), y one of the ints xs: the first place -/
theorem mt_indexI {K : PySem.W.Frag} (e : X.K = K) : MtR X "list.index" (fun x vs H Q => ∃ l, ∃ ns : List Int, ∃ y : Int, x = .ref l ∧ vs = [.int y] ∧ SqL K H l (ns.map V.int) ∧ y ∈ ns ∧
    ∀ j : Nat, j < ns.length → ns.getD j 0 = y → (∀ i, i < j → ns.getD i 0 ≠ y) → Q (.int (j : Int)) H) := by
  subst e
  intro pins s σ H x vs v us Q I rx rs h
  obtain ⟨l, ns, y, a, b, hs, hy, q⟩ := h
  obtain ⟨j, h1, h2, h3⟩ := first_at ns y hy
  refine mt_index pins s σ H x vs v us Q I rx rs ⟨l, _, .int y, j, .int (ns.getD j 0), a, b, hs, rfl, ?_, getD_map h1, ?_, ?_, q j h1 h2 h3⟩
  · rw [List.all_map, List.all_eq_true]
    intro x _
    rfl
  · show (ns.getD j 0 == y) = true
    rw [h2]
    exact beq_self_eq_true y
  · intro m z hm hz
    have hml : m < ns.length := by omega
    rw [getD_map hml] at hz
    have ez := Option.some.inj hz
    subst ez
    show (ns.getD m 0 == y) = false
    exact beq_eq_false_iff_ne.mpr (h3 m hm)
end
section
variable {X : Cx}
theorem cut_drop (xs : List V) (k : Nat) : cutV xs (some (k : Int)) none = xs.drop k := by
  unfold cutV
  rw [HT.sIx_none, HT.sIx_nat]
  rcases Nat.le_total k xs.length with h | h
  · rw [Nat.min_eq_left h, List.take_of_length_le (by rw [List.length_drop]; exact Nat.le_refl _)]
  · rw [Nat.min_eq_right h, List.drop_eq_nil_of_le (Nat.le_refl _), List.drop_eq_nil_of_le h, List.take_nil]
/-- t[k:] of a tuple of ints, 0 ≤ k -/
theorem sl_tiFrom {K : PySem.W.Frag} (e : X.K = K) : SlR X (fun x lo hi H Q => ∃ p, ∃ ns : List Int, ∃ k : Int, x = .ref p ∧ lo = some k ∧ hi = none ∧ SqT K H p (ns.map V.int) ∧ 0 ≤ k ∧
    ∀ q H1, Kp [] H H1 → SqT K H1 q ((ns.drop k.toNat).map V.int) → Q (.ref q) H1) := by
  subst e
  refine sl_imp sl_tupA fun x lo hi H Q ⟨p, ns, k, a, b, c, d, hk, w⟩ => ?_
  subst a b c
  have e : cutV (ns.map V.int) (some k) none = (ns.drop k.toNat).map V.int := by
    have q := cut_drop (ns.map V.int) k.toNat
    rw [show ((k.toNat : Nat) : Int) = k by omega] at q
    rw [q, List.map_drop]
  refine ⟨p, _, rfl, d, fun hw => ?_, fun _ q nq => ?_⟩
  · refine w p H Kp.refl ?_
    rw [← e]
    unfold cutV
    rw [hw.1, hw.2, List.drop_zero, Nat.sub_zero, List.take_of_length_le (Nat.le_refl _)]
    exact d
  · refine w q _ (Kp.new nq) ?_
    rw [← e]
    exact sqT upd_same
/-- t + u of tuples of ints -/
theorem op_catTI {K : PySem.W.Frag} (e : X.K = K) : OpR X (binaryOp .Add) (fun x y H Q => ∃ p q, ∃ ns ms : List Int, x = .ref p ∧ y = .ref q ∧ SqT K H p (ns.map V.int) ∧ SqT K H q (ms.map V.int) ∧ ns.length + ms.length ≤ sizeLine ∧
    ∀ r H1, Kp [] H H1 → SqT K H1 r ((ns ++ ms).map V.int) → Q (.ref r) H1) := by
  subst e
  refine op_imp op_catA fun x y H Q ⟨p, q, ns, ms, a, b, c, d, l, w⟩ => ?_
  refine ⟨p, q, _, _, a, b, c, d, by rw [List.length_map, List.length_map]; exact l, fun z => ?_, fun _ z => ?_, fun _ _ r nr => ?_⟩
  · refine w q H Kp.refl ?_
    have : ns = [] := by simpa using z
    subst this
    exact d
  · refine w p H Kp.refl ?_
    have : ms = [] := by simpa using z
    subst this
    rw [List.append_nil]
    exact c
  · refine w r _ (Kp.new nr) ?_
    rw [List.map_append]
    exact sqT upd_same
end
end Cf

set_option Elab.async false
set_option linter.all false
set_option maxRecDepth 100000
namespace Cf
open PySem PySem.Spec PyProof.Rows L2
section
variable {X : Cx}
/-- xs[k:] of a list of ints, 0 ≤ k -/
theorem sl_liFrom {K : PySem.W.Frag} (e : X.K = K) : SlR X (fun x lo hi H Q => ∃ p, ∃ ns : List Int, ∃ k : Int, x = .ref p ∧ lo = some k ∧ hi = none ∧ SqL K H p (ns.map V.int) ∧ 0 ≤ k ∧ New H (.lst ((ns.drop k.toNat).map V.int)) Q) := by
  subst e
  refine sl_imp sl_list fun x lo hi H Q ⟨p, ns, k, a, b, c, d, hk, n⟩ => ?_
  subst a b c
  refine ⟨p, _, rfl, d, ?_⟩
  have e : cutV (ns.map V.int) (some k) none = (ns.drop k.toNat).map V.int := by
    have q := cut_drop (ns.map V.int) k.toNat
    rw [show ((k.toNat : Nat) : Int) = k by omega] at q
    rw [q, List.map_drop]
  rw [e]
  exact n.go
theorem flat_ints (ns : List Int) : (ns.map V.int).all flatV = true := by
  rw [List.all_eq_true]
  intro v hv
  obtain ⟨i, _, rfl⟩ := List.mem_map.mp hv
  rfl
theorem inV_int (i : Int) : ∀ ns : List Int, inV (.int i) (ns.map V.int) = decide (i ∈ ns)
  | [] => rfl
  | x :: r => by
    have ih := inV_int i r
    unfold inV at ih ⊢
    rw [List.map_cons, List.any_cons, ih]
    have e : eqV (.int x) (.int i) = decide (i = x) := by
      by_cases h : i = x
      · subst h
        simp [eqV]
      · have h2 : ¬ x = i := fun z => h z.symm
        simp [eqV, h, h2]
    rw [e]
    by_cases h : i = x <;> simp [h]
/-- i in xs, a list or a tuple of ints -/
theorem op_inI {K : PySem.W.Frag} (e : X.K = K) : OpR X (compareOp .In) (fun x y H Q => ∃ p, ∃ ns : List Int, ∃ i : Int, x = .int i ∧ y = .ref p ∧ (SqL K H p (ns.map V.int) ∨ SqT K H p (ns.map V.int)) ∧ Q (.bl (decide (i ∈ ns))) H) := by
  subst e
  refine op_imp op_in_seq fun x y H Q ⟨p, ns, i, a, b, c, q⟩ => ?_
  subst a
  refine ⟨p, _, b, c, rfl, flat_ints ns, ?_⟩
  rw [inV_int]
  exact q
theorem op_notInI {K : PySem.W.Frag} (e : X.K = K) : OpR X (compareOp .NotIn) (fun x y H Q => ∃ p, ∃ ns : List Int, ∃ i : Int, x = .int i ∧ y = .ref p ∧ (SqL K H p (ns.map V.int) ∨ SqT K H p (ns.map V.int)) ∧ Q (.bl (!decide (i ∈ ns))) H) := by
  subst e
  refine op_imp op_notIn_seq fun x y H Q ⟨p, ns, i, a, b, c, q⟩ => ?_
  subst a
  refine ⟨p, _, b, c, rfl, flat_ints ns, ?_⟩
  rw [inV_int]
  exact q
end
end Cf

set_option Elab.async false
set_option linter.all false
set_option maxRecDepth 100000
namespace Cf
open PySem PySem.Spec PyProof.Rows L2
section
variable {X : Cx}
/-- a statement that is never reached -/
theorem ps_never {st : Stmt} : PS X st (fun _ _ _ => False) := ⟨fun _ _ _ _ _ _ h => h.elim⟩
/-- isinstance(x, T), T a built-in type -/
theorem call_isiB {K : PySem.W.Frag} (e : X.K = K) : CallR X (.builtin "isinstance") (fun xs H Q => ∃ (x : V) (a T : String) (b : Bool), xs = [x, .ty T] ∧ TyX K H x (.type a) ∧ kitB a T = some b ∧ Q (.bl b) H) := by
  subst e
  exact call_imp call_isi fun xs H Q ⟨x, a, T, b, ex, ty, h, q⟩ => ⟨x, _, _, _, b, ex, .ty T, ty, kit_ty h, q⟩
theorem ty_int {K : PySem.W.Frag} {H : Hp} (i : Int) : TyX K H (.int i) (.type "int") := .base (.int i)
theorem kit_ii : kitB "int" "int" = some true := by decide +kernel
theorem kit_ib : kitB "int" "bool" = some false := by decide +kernel
/-- t.index(y), y one of the ints of the tuple t: the first place -/
theorem mt_tindexI {K : PySem.W.Frag} (e : X.K = K) : MtR X "tuple.index" (fun x vs H Q => ∃ p, ∃ ns : List Int, ∃ y : Int, x = .ref p ∧ vs = [.int y] ∧ SqT K H p (ns.map V.int) ∧ y ∈ ns ∧
    ∀ j : Nat, j < ns.length → ns.getD j 0 = y → (∀ i, i < j → ns.getD i 0 ≠ y) → Q (.int (j : Int)) H) := by
  subst e
  intro pins s σ H x xs v us Q I rx rs h
  obtain ⟨p, ns, y, rfl, rfl, hq, hy, q⟩ := h
  obtain ⟨j, h1, h2, h3⟩ := first_at ns y hy
  cases rx
  obtain ⟨u, rfl, t, rfl⟩ := vals1 rs
  obtain ⟨its, r, pl, hz⟩ := I.tuple hq
  obtain ⟨⟨cls, dd, dt, sl⟩, ho, hc, n, hd⟩ := pl
  simp only at hc hd
  subst hc
  subst hd
  have hl : its.toArray.size = ns.length := by rw [List.size_toArray, ← r.length, List.length_map]
  have hj : j < its.toArray.size := by rw [hl]; exact h1
  have at' : ∀ (m : Nat) (hm : m < its.toArray.size), ∃ t', its.toArray[m] = Value.int (ns.getD m 0) t' := fun m hm => by
    have hm' : m < ns.length := by rw [← hl]; exact hm
    obtain ⟨w, hw, t', hw'⟩ := r.get (i := m) (x := .int (ns.getD m 0)) (getD_map hm')
    refine ⟨t', ?_⟩
    have e := (List.getElem?_eq_some_iff.mp hw).2
    rw [← hw', ← e]
    simp
  refine call_meets PySem.F.slot_tuple_index ⟨_, ho, rfl⟩ PySem.F.entry_tuple_index (PySem.F.args_tuple_index_2 _ _) (TI.tuple_indexAt p its.toArray n dd sl (.int y t) (eqU (.int y)) j hj ?_ ?_)
    ⟨ho, fun w hw => mem_eqAt (x := .int y) ⟨t, rfl⟩ rfl r (flat_ints ns) w (by simpa using hw), ⟨.int (j : Nat), H, I.tok _, ⟨_, rfl⟩, q j h1 h2 h3⟩⟩
  · obtain ⟨t', e2⟩ := at' j hj
    rw [e2]
    show (ns.getD j 0 == y) = true
    rw [h2]
    exact beq_self_eq_true y
  · intro m hm hmj
    obtain ⟨t', e2⟩ := at' m hm
    rw [e2]
    show (ns.getD m 0 == y) = false
    exact beq_eq_false_iff_ne.mpr (h3 m hmj)
/-- the numbers from 0 on -/
def upto (n : Nat) : List Int := (List.range n).map fun i : Nat => (i : Int)
theorem upto_len (n : Nat) : (upto n).length = n := by simp [upto]
theorem upto_get (n i : Nat) (h : i < n) : (upto n).getD i 0 = (i : Int) := by
  unfold upto
  rw [List.getD_eq_getElem?_getD, List.getElem?_map, List.getElem?_range h]
  rfl
theorem rgV_upto (n : Nat) : rgV 0 (n : Int) = (upto n).map V.int := by
  unfold rgV upto
  rw [show ((n : Int) - 0).toNat = n by omega, List.map_map]
  refine List.map_congr_left fun i _ => ?_
  show V.int (0 + (i : Int)) = V.int (i : Int)
  rw [Int.zero_add]
/-- list(range(n)) -/
def tLstUp (ta : TE) : TE := fun σ H Q => ta σ H fun x H1 => ∃ n : Nat, x = .int (n : Int) ∧ n ≤ 1000 ∧ New H1 (.lst ((upto n).map V.int)) Q
theorem pe_listUp {a : Expr} {ta : TE} {p p2 pos pos2 : Pos} (hc : X.calm = true) (hg : Gl X "list") (hm : X.mg "list" = none) (hg2 : Gl X "range") (hm2 : X.mg "range" = none) (ha : PE X a ta)
    (na : starEach [Expr.Call (.Name "range" p2) [a] [] pos2] X.env = (false, eval (Expr.Call (.Name "range" p2) [a] [] pos2) X.env) :: starEach [] X.env := by rfl)
    (nb : starEach [a] X.env = (false, eval a X.env) :: starEach [] X.env := by rfl) :
    PE X (.Call (.Name "list" p) [.Call (.Name "range" p2) [a] [] pos2] [] pos) (tLstUp ta) :=
  pe_imp (pe_listRg hc hg hm (prg_1 hg2 hm2 (pe_up ha) nb) na) fun σ H Q h => ⟨_, h, fun v H1 ⟨n, ev, hn, w⟩ => ⟨(n : Int), ev, RgOk.of_le (by omega) (by omega) (by omega) (by omega), fun q nq => by
    rw [rgV_upto]
    exact w.go q nq⟩⟩
end

/-- a tuple that was laid by the program: it has no names of its own -/
def PlT (H : Hp) (p : Addr) : Prop := ∃ o u, H p = some (.frz o u) ∧ o.dict = none
theorem PlT.kp0 {H H' : Hp} {p : Addr} (k : Kp [] H H') (h : PlT H p) : PlT H' p := by
  obtain ⟨o, u, e, d⟩ := h
  exact ⟨o, u, k.at0 e, d⟩
theorem PlT.kp1 {H H' : Hp} {p b : Addr} (k : Kp [b] H H') (n : p ≠ b) (h : PlT H p) : PlT H' p := by
  obtain ⟨o, u, e, d⟩ := h
  exact ⟨o, u, k.at1 n e, d⟩
theorem PlT.lst1 {H H' : Hp} {p b : Addr} {xs : List V} (k : Kp [b] H H') (hb : H b = some (.lst xs)) (h : PlT H p) : PlT H' p := by
  refine h.kp1 k fun z => ?_
  obtain ⟨o, u, e, d⟩ := h
  rw [z, hb] at e
  cases e
theorem PlT.md {H H' : Hp} {p b : Addr} {xs : List V} (k : Md b H H') (hb : H b = some (.lst xs)) (h : PlT H p) : PlT H' p := h.lst1 k.kp hb
/-- laid where nothing was: a tuple, its object known -/
def NewF (H : Hp) (xs : List V) (Q : V → Hp → Prop) : Prop := ∀ p H1 o, H p = none → Kp [] H H1 → o.dict = none → H1 p = some (.frz o (.tup xs)) → Q (.ref p) H1
theorem sqF {K : PySem.W.Frag} {H : Hp} {p : Addr} {o : Obj} {xs : List V} (h : H p = some (.frz o (.tup xs))) : SqT K H p xs := .inl (.inr ⟨o, h⟩)
theorem plF {H : Hp} {p : Addr} {o : Obj} {xs : List V} (d : o.dict = none) (h : H p = some (.frz o (.tup xs))) : PlT H p := ⟨o, _, h, d⟩
section
variable {X : Cx}
theorem call_tupF {K : PySem.W.Frag} (e : X.K = K) : CallR X (.type "tuple") (fun vs H Q => ∃ p xs, vs = [.ref p] ∧ SqL K H p xs ∧ NewF H xs Q) := by
  subst e
  intro pins s σ H vs us Q I r h
  obtain ⟨p, xs, rfl, hq, w⟩ := h
  obtain ⟨u, rfl, rx⟩ := vals1 r
  cases rx
  obtain ⟨its, rv, pl, hz⟩ := I.list hq
  have hlen := rv.length
  refine call_tuple_list pl.isList (fun h1 kp => ?_) (by simp only [List.size_toArray] <;> omega)
  have J : Inv X pins σ H { s with heap := h1 } := I.kept (t' := s.toks) kp
  have fresh : H h1.objs.size = none := J.hok.fresh (Nat.le_refl _)
  have J2 : Inv X pins σ (upd H h1.objs.size (.frz { cls := .type "tuple", data := .seq its.toArray } (.tup xs))) { s with heap := h1.push { cls := .type "tuple", data := .seq its.toArray } } :=
    J.laid (t' := s.toks) (fun b o q => Heap.get?_push_of_some _ q) (Nat.le_refl _)
      (show ObjOk X.prog X.w _ _ _ (.frz _ (.tup xs)) from ⟨Heap.get?_push_size _ rfl, hz, its, rv, IsTup.new _ _⟩)
  exact ⟨.ref h1.objs.size, _, J2, rfl, w _ _ _ fresh (Kp.new fresh) rfl upd_same⟩
/-- t.m(..), t a tuple that was laid -/
def tTM (K : PySem.W.Frag) (r : V → List V → Hp → VK → Prop) (to : TE) (t : TA) : TE := fun σ H Q => to σ H fun x H1 => ∃ p xs, x = .ref p ∧ SqT K H1 p xs ∧ PlT H1 p ∧ t σ H1 fun vs H2 => r x vs H2 Q
theorem pe_tm {K : PySem.W.Frag} {o e : Expr} {es : List Expr} {to : TE} {t : TA} {name : Str} {ap cp : Pos} {id : String} {r : V → List V → Hp → VK → Prop} (eK : X.K = K) (slot : Slot "tuple" name id)
    (hty : typeOf (.builtin id) = pure (.type "method_descriptor")) (hm : MtR X id r) (ho : PE X o to) (ha : PA X (e :: es) t)
    (hb : attributeBase o name X.env (eval o X.env) = eval o X.env := by rfl)
    (hf : ((backTo cp (starEach (e :: es) X.env)).all (fun z => !z.1) && (backToKw cp (keywordEach [] X.env)).all (fun z => z.1.isSome) && decide ((e :: es).length + ([] : List Keyword).length + (if ([] : List Keyword).isEmpty then 0 else 1) < 30)) = true := by rfl)
    (hl : (ap.endLine == cp.line) = true := by rfl) (hs : starEach (e :: es) X.env = (false, eval e X.env) :: starEach es X.env := by rfl) (hp : (backTo cp (starEach es X.env)).any (·.1) = false := by rfl) :
    PE X (.Call (.Attribute o name ap) (e :: es) [] cp) (tTM K r to t) := by
  subst eK
  refine ⟨fun pins s σ H Q I h => ?_⟩
  refine wpAny_Call_method_late hb hf hl rfl (thn (ho.run pins s σ H _ I h) fun v s1 ⟨x, H1, I1, r1, p, xs, ex, hq, ⟨ob, u, hob, hd⟩, q1⟩ => ?_)
  subst ex
  cases r1
  obtain ⟨its, rv, ⟨o2, ho2, hc2, _⟩, hz⟩ := I1.tuple hq
  obtain ⟨e1, _⟩ := I1.hok p _ hob
  have hA := ha.run cp pins s1 σ H1 _ I1 q1
  refine ⟨"tuple", id, PySem.F.plainAttrs_tuple, slot, hty, ⟨o2, ho2, hc2⟩, fun a ea => ?_, ?_⟩
  · cases ea
    exact ⟨ob, e1, hd⟩
  · rw [hs] at hA ⊢
    refine Calls.callWith_builtin (by show (false || (backTo cp (starEach es X.env)).any (·.1)) = false; rw [hp] <;> rfl) (Calls.evalArgs_plain ?_)
    exact thn hA fun ws s2 ⟨vs, H2, I2, r2, q2⟩ => hm pins s2 σ H2 (V.ref p) vs (Value.ref p) ws Q I2 rfl r2 q2
end
end Cf

set_option Elab.async false
set_option linter.all false
set_option maxRecDepth 100000
namespace Cf
open PySem PySem.Spec PyProof.Rows L2
/-! ### zip of lists and tuples, mixed -/
def Sq2 (K : PySem.W.Frag) (H : Hp) (b : Bool) (a : Addr) (xs : List V) : Prop := match b with
  | true => SqL K H a xs
  | false => SqT K H a xs
def itAt (b : Bool) (h : Heap) (it a : Addr) (i : Nat) : Prop := match b with
  | true => h.IsListIter it a i
  | false => h.IsTupleIter it a i
theorem itAt_obj {b : Bool} {h : Heap} {it a : Addr} {i : Nat} (s : itAt b h it a i) : ∃ o, h.get? it = some o ∧ ∀ v, o.data ≠ .cell v := by
  cases b with
  | true =>
    obtain ⟨o, ho, _, hd⟩ := s
    exact ⟨o, ho, fun v q => by rw [hd] at q; cases q⟩
  | false =>
    obtain ⟨o, ho, _, hd⟩ := s
    exact ⟨o, ho, fun v q => by rw [hd] at q; cases q⟩
theorem itAt_at {b : Bool} {h h' : Heap} {it a : Addr} {i : Nat} (s : itAt b h it a i) (k : ∀ o, h.get? it = some o → h'.get? it = some o) : itAt b h' it a i := by
  cases b with
  | true => exact Heap.IsListIter.at s k
  | false => exact Heap.IsTupleIter.at s k
theorem draws_tup {prog : Program} {w : World} {A : Around} (hh : A.handled = none) (it l : Addr) (hne : l ≠ it) (items : Array Value) :
    Draws prog w A it [it, l] items.size (fun i v => items[i]? = some v) (fun i h => h.IsTupleIter it l i ∧ h.IsTuple l items) where
  live := fun _ _ st => let ⟨o, ho, _⟩ := st.1; ⟨o, ho⟩
  frame := fun _ _ _ st k => ⟨st.1.at fun o e => k it (by simp) o e, st.2.at fun o e => k l (by simp) o e⟩
  item := fun i s Q E hi st hQ => by
    refine PySem.wpAny_nextOf_tuple_item st.1 st.2 (x := items[i]) (by simp [hi]) fun h1 q1 same => ?_
    exact hQ _ h1 s.toks (by simp [hi]) ⟨q1, st.2.at fun o e => (same.2 l hne).trans e⟩ same
  done := fun s Q E st hE => PySem.wpAny_nextOf_tuple_end hh st.1 st.2 (by simp) hE
section
variable {X : Cx} {pins : List (Addr × Obj)} {σ : L2.St} {H : Hp} {s : Shared} {b : Bool} {a it : Addr} {xs ys : List V}
theorem sq2_inj (I : L2.Inv X pins σ H s) (h : Sq2 X.K H b a xs) (h' : Sq2 X.K H b a ys) : xs = ys := by
  cases b with
  | true => exact I.list_inj h h'
  | false => exact I.tuple_inj h h'
theorem sq2_lt (I : L2.Inv X pins σ H s) (h : Sq2 X.K H b a xs) : a < s.heap.objs.size := by
  cases b with
  | true =>
    obtain ⟨its, rv, p, _⟩ := I.list h
    exact p.lt
  | false =>
    obtain ⟨its, rv, ⟨o, ho, _⟩, _⟩ := I.tuple h
    exact Heap.lt_size ho
theorem src_draws (I : L2.Inv X pins σ H s) (hc : X.calm = true) (h : Sq2 X.K H b a xs) (ne : a ≠ it) : ∃ (its : List Value) (St : Nat → Heap → Prop), Vals xs its ∧
    Draws X.prog X.w X.A.in1 it [it, a] its.toArray.size (fun i v => its.toArray[i]? = some v) St ∧ (∀ i, itAt b s.heap it a i → St i s.heap) ∧ ∀ i h, St i h → itAt b h it a i := by
  cases b with
  | true =>
    obtain ⟨its, rv, p, _⟩ := I.list h
    exact ⟨its, _, rv, Draws.list (A := X.A.in1) (I.ok.hd hc) it a ne its.toArray, fun i q => ⟨q, p.isList⟩, fun i h q => q.1⟩
  | false =>
    obtain ⟨its, rv, p, _⟩ := I.tuple h
    exact ⟨its, _, rv, draws_tup (A := X.A.in1) (I.ok.hd hc) it a ne its.toArray, fun i q => ⟨q, p⟩, fun i h q => q.1⟩
theorem src_begins (I : L2.Inv X pins σ H s) (h : Sq2 X.K H b a xs) : ∃ (o : Obj) (W : Heap → Prop), Begins (.ref a) o W ∧ W s.heap ∧ ∀ (h' : Heap) (it : Addr), h'.get? it = some o → itAt b h' it a 0 := by
  cases b with
  | true =>
    obtain ⟨its, rv, p, _⟩ := I.list h
    exact ⟨_, _, begins_list a its.toArray, p.isList, fun h' it q => ⟨_, q, rfl, rfl⟩⟩
  | false =>
    obtain ⟨its, rv, p, _⟩ := I.tuple h
    exact ⟨_, _, begins_tuple a its.toArray, p, fun h' it q => ⟨_, q, rfl, rfl⟩⟩
end
theorem vals_3 {x y z : V} {us : List Value} (r : Vals [x, y, z] us) : ∃ u1 u2 u3, us = [u1, u2, u3] ∧ RelV x u1 ∧ RelV y u2 ∧ RelV z u3 := by
  cases r with
  | cons r1 t =>
    cases t with
    | cons r2 t =>
      cases t with
      | cons r3 t =>
        cases t
        exact ⟨_, _, _, rfl, r1, r2, r3⟩
theorem arr_at {its : List Value} {i : Nat} {v : Value} (h : its[i]? = some v) : its.toArray[i]? = some v := by simpa using h
theorem lt_at {its : List Value} {i : Nat} {v : Value} (h : its[i]? = some v) : i < its.toArray.size := by
  have := (List.getElem?_eq_some_iff.mp h).1
  simpa using this
def Itz2 (K : PySem.W.Frag) (b1 : Bool) (a1 : Addr) (b2 : Bool) (a2 : Addr) : It where
  go := fun i H => ∃ xs1 x1 xs2 x2, Sq2 K H b1 a1 xs1 ∧ xs1[i]? = some x1 ∧ Sq2 K H b2 a2 xs2 ∧ xs2[i]? = some x2
  yld := fun i H v H' => ∃ T x1 x2, v = .ref T ∧ H T = none ∧ H' = upd H T (.tup [x1, x2]) ∧ (∀ xs, Sq2 K H b1 a1 xs → xs[i]? = some x1) ∧ (∀ xs, Sq2 K H b2 a2 xs → xs[i]? = some x2)
  stop := fun i H => ∃ xs1 xs2, Sq2 K H b1 a1 xs1 ∧ Sq2 K H b2 a2 xs2 ∧ i ≤ xs1.length ∧ i ≤ xs2.length ∧ (i = xs1.length ∨ i = xs2.length)
theorem turn_z2 {P : Program} {w : World} {K : PySem.W.Frag} {elts : List Expr} {kk : Nat} {tpos : Pos} {z TI TO i1 i2 a1 a2 : Addr} {b1 b2 : Bool}
    (S : ZipSep2 z TI TO i1 i2 [i1, a1] [i2, a2]) (n1 : a1 ≠ i1) (n2 : a2 ≠ i2) :
    Turn P w K (.Tuple elts kk tpos) (Itz2 K b1 a1 b2 a2) [z, TI, TO, i1, i2] z (fun i h => IsZip h z TI TO .none ∧ IsTupOf2 h TI (.ref i1) (.ref i2) ∧ (∃ y1 y2, IsTupOf2 h TO y1 y2) ∧ itAt b1 h i1 a1 i ∧ itAt b2 h i2 a2 i) where
  mem := by simp
  obj := fun i h st c hc => by
    obtain ⟨hz, hTI, ⟨y1, y2, hTO⟩, s1, s2⟩ := st
    have e' : c = z ∨ c = TI ∨ c = TO ∨ c = i1 ∨ c = i2 := by simpa using hc
    rcases e' with q | q | q | q | q
    · rw [q]; exact ⟨_, hz, fun v q => nomatch q⟩
    · rw [q]; exact ⟨_, hTI, fun v q => nomatch q⟩
    · rw [q]; exact ⟨_, hTO, fun v q => nomatch q⟩
    · rw [q]; exact itAt_obj s1
    · rw [q]; exact itAt_obj s2
  keep := fun i h h' st k => by
    obtain ⟨hz, hTI, ⟨y1, y2, hTO⟩, s1, s2⟩ := st
    exact ⟨k z (by simp) _ hz, k TI (by simp) _ hTI, ⟨y1, y2, k TO (by simp) _ hTO⟩, itAt_at s1 fun o q => k i1 (by simp) o q, itAt_at s2 fun o q => k i2 (by simp) o q⟩
  item := by
    intro X hP hw hK hc i pins s σ H E I hf st hg
    subst hP hw hK
    obtain ⟨hz, hTI, ⟨y1, y2, hTO⟩, s1, s2⟩ := st
    obtain ⟨xs1, x1, xs2, x2, q1, g1, q2, g2⟩ := hg
    obtain ⟨its1, St1, r1, D1, u1, w1⟩ := src_draws (it := i1) I hc q1 n1
    obtain ⟨v1, hv1, rv1⟩ := r1.get g1
    obtain ⟨its2, St2, r2, D2, u2, w2⟩ := src_draws (it := i2) I hc q2 n2
    obtain ⟨v2, hv2, rv2⟩ := r2.get g2
    have hzl : z < s.heap.objs.size := Heap.lt_size hz
    refine wpAny_pyNext_zipD2_item S D1 D2 hz hTI hTO (u1 i s1) (u2 i s2) (lt_at hv1) (lt_at hv2) fun m1 m2 h' tk p1 p2 z' TO' t1 t2 hT hsz hk => ?_
    have e1 : m1 = v1 := Option.some.inj ((p1.symm).trans (arr_at hv1))
    subst e1
    have e2 : m2 = v2 := Option.some.inj ((p2.symm).trans (arr_at hv2))
    subst e2
    refine ⟨_, rfl, wpAny_letOwnedTupleGo_zip (s := { s with heap := h', toks := tk }) z' fun h'' z'' sb => ?_⟩
    have hT2 : h''.get? s.heap.objs.size = some { cls := .type "tuple", data := .seq #[m1, m2] } := (sb.2 _ (Nat.ne_of_gt hzl)).trans hT
    have new : ObjOk X.prog X.w (upd H s.heap.objs.size (.tup [x1, x2])) h'' s.heap.objs.size (.tup [x1, x2]) :=
      ⟨by show 2 ≤ sizeLine; decide, [m1, m2], .cons rv1 (.cons rv2  .nil), ⟨_, hT2, rfl, _, rfl⟩⟩
    have J : L2.Inv X pins σ (upd H s.heap.objs.size (.tup [x1, x2])) { s with heap := h'', toks := tk } :=
      I.turnedNew (ch := [z, TI, TO, i1, i2]) (fun c o hb q => (sb.2 c (fun q' => hb (by simp [q']))).trans (hk c o (fun q' => hb (by simp [q'])) (fun q' => hb (by simp [q'])) (fun q' => hb (by simp [q'])) (fun q' => hb (by simp [q'])) q)) hf (Nat.le_refl _) new
    refine ⟨.ref s.heap.objs.size, _, J, rfl, ⟨_, x1, x2, rfl, I.hok.fresh (Nat.le_refl _), rfl, (fun l hl => by rw [sq2_inj I hl q1]; exact g1), (fun l hl => by rw [sq2_inj I hl q2]; exact g2)⟩, ⟨z'', ?_, ⟨m1, m2, ?_⟩, ?_, ?_⟩, fun c hcm => ?_⟩
    · exact (sb.2 _ S.TIz).trans (hk _ _ S.TIz S.TITO S.TIi1 S.TIi2 hTI)
    · exact (sb.2 _ S.TOz).trans TO'
    · exact itAt_at (w1 _ _ t1) fun o q => (sb.2 _ (Ne.symm S.zi1)).trans q
    · exact itAt_at (w2 _ _ t2) fun o q => (sb.2 _ (Ne.symm S.zi2)).trans q
    · have hlt : c < s.heap.objs.size := by
        have e' : c = z ∨ c = TI ∨ c = TO ∨ c = i1 ∨ c = i2 := by simpa using hcm
        rcases e' with q | q | q | q | q
        · rw [q]; exact hzl
        · rw [q]; exact Heap.lt_size hTI
        · rw [q]; exact Heap.lt_size hTO
        · rw [q]; obtain ⟨o, ho, _⟩ := itAt_obj s1; exact Heap.lt_size ho
        · rw [q]; obtain ⟨o, ho, _⟩ := itAt_obj s2; exact Heap.lt_size ho
      rw [upd_ne (Nat.ne_of_lt hlt)]
      exact (hf c hcm).1
  done := by
    intro X hP hw hK hc i pins s σ H E I hf st hg
    subst hP hw hK
    obtain ⟨hz, hTI, ⟨y1, y2, hTO⟩, s1, s2⟩ := st
    obtain ⟨xs1, xs2, q1, q2, c1, c2, hend⟩ := hg
    obtain ⟨its1, St1, r1, D1, u1, w1⟩ := src_draws (it := i1) I hc q1 n1
    have l1 := r1.length
    obtain ⟨its2, St2, r2, D2, u2, w2⟩ := src_draws (it := i2) I hc q2 n2
    have l2 := r2.length
    refine wpAny_pyNext_zipD2_end S D1 D2 hz hTI hTO (u1 i s1) (u2 i s2) (by rw [List.size_toArray]; omega) (by rw [List.size_toArray]; omega) ?_ fun h' tk hk => ⟨rfl, I.turnedL (ch := [z, TI, TO, i1, i2]) (fun c o hb q => hk c o (fun q' => hb (by simp [q'])) (fun q' => hb (by simp [q'])) (fun q' => hb (by simp [q'])) (fun q' => hb (by simp [q'])) q) hf⟩
    rcases hend with q | q
    · exact .inl (by rw [List.size_toArray]; omega)
    · exact .inr (by rw [List.size_toArray]; omega)
  self := fun A i s Q E st h => wpAny_pyIter_zip st.1 h
def iZip2 (K : PySem.W.Frag) (b1 : Bool) (b2 : Bool) (ta : TA) : TI := fun σ H R => ta σ H fun vs H1 => ∃ a1 xs1 a2 xs2, vs = [.ref a1, .ref a2] ∧ Sq2 K H1 b1 a1 xs1 ∧ Sq2 K H1 b2 a2 xs2 ∧ R (Itz2 K b1 a1 b2 a2) H1
theorem pi_z2 {X : Cx} {K : PySem.W.Frag} (b1 : Bool) (b2 : Bool) {e1 e2 : Expr} {ta : TA} {p pos tpos : Pos} {elts : List Expr} {kk : Nat} (eK : X.K = K) (hg : Gl X "zip") (hm : X.mg "zip" = none) (ha : PA X [e1, e2] ta)
    (hs : starEach [e1, e2] X.env = (false, eval e1 X.env) :: starEach [e2] X.env := by rfl) (hpl : (backTo pos (starEach [e2] X.env)).any (·.1) = false := by rfl) :
    PI X (.Tuple elts kk tpos) (.Call (.Name "zip" p) [e1, e2] [] pos) (iZip2 K b1 b2 ta) := by
  subst eK
  refine ⟨fun pins s σ H R I h => ?_⟩
  refine Call_ (ld_blt I hg hm PyProof.Rows.boot_zip (PyProof.Rows.callWith_type1 (thn (ha.run pos pins s σ H _ I h) fun us s1 ⟨vs, H1, I1, r1, q1⟩ => ?_) hs hpl))
  obtain ⟨a1, xs1, a2, xs2, ex, q1, q2, q⟩ := q1
  subst ex
  obtain ⟨u1, u2, rfl, r1, r2⟩ := vals2 r1
  cases r1
  cases r2
  obtain ⟨o1, W1, B1, y1, z1⟩ := src_begins I1 q1
  obtain ⟨o2, W2, B2, y2, z2⟩ := src_begins I1 q2
  refine zip_begins2 B1 B2 y1 y2 fun h' hz hTI hTO g1 g2 hsz hk => wpAny_pyIter_zip hz ?_
  have I2 : L2.Inv X pins σ H1 { s1 with heap := h' } := I1.kept (t' := s1.toks) hk
  have S := zip_sep2 (N := s1.heap.objs.size) (fp1 := [a1]) (fp2 := [a2]) (fun c hc => by rw [List.mem_singleton.mp hc]; exact sq2_lt I1 q1) (fun c hc => by rw [List.mem_singleton.mp hc]; exact sq2_lt I1 q2)
  refine ⟨_, [s1.heap.objs.size + 4, s1.heap.objs.size + 2, s1.heap.objs.size + 3, s1.heap.objs.size, s1.heap.objs.size + 1], _, _, H1, rfl, I2, turn_z2 S (Nat.ne_of_lt (Nat.lt_of_lt_of_le (sq2_lt I1 q1) (Nat.le_refl _))) (Nat.ne_of_lt (Nat.lt_of_lt_of_le (sq2_lt I1 q2) (Nat.le_add_right _ _))), ⟨hz, hTI, ⟨_, _, hTO⟩, z1 _ _ g1, z2 _ _ g2⟩, ?_, q⟩
  intro c hcm
  have e' : c = s1.heap.objs.size + 4 ∨ c = s1.heap.objs.size + 2 ∨ c = s1.heap.objs.size + 3 ∨ c = s1.heap.objs.size ∨ c = s1.heap.objs.size + 1 := by simpa using hcm
  have hle : s1.heap.objs.size ≤ c := by
    rcases e' with z | z | z | z | z <;> (rw [z]; first | exact Nat.le_refl _ | exact Nat.le_add_right _ _)
  exact I1.fpOk hle (I1.hok.fresh hle)
theorem walk_z2 {K : PySem.W.Frag} {b1 : Bool} {a1 : Addr} {b2 : Bool} {a2 : Addr} {ns ms : List Int} {n : Nat} (hn : n = min ns.length ms.length) : Walk (Itz2 K b1 a1 b2 a2) n (fun H => Sq2 K H b1 a1 (ns.map V.int) ∧ Sq2 K H b2 a2 (ms.map V.int)) (YZ ns ms) := by
  subst hn
  refine ⟨fun i H hi q => ?_, fun H q => ?_, ?_⟩
  · exact ⟨_, _, _, _, q.1, getD_map (by omega), q.2, getD_map (by omega)⟩
  · exact ⟨_, _, q.1, q.2, by rw [List.length_map]; omega, by rw [List.length_map]; omega, by rw [List.length_map, List.length_map]; omega⟩
  · rintro i H x H' hi q ⟨T, x1, x2, e, n, eh, f1, f2⟩
    have z1 := getD_at (by omega) (f1 _ q.1)
    have z2 := getD_at (by omega) (f2 _ q.2)
    subst z1 z2 eh
    exact ⟨T, e, n, Kp.new n, upd_same⟩
def Itz3 (K : PySem.W.Frag) (b1 : Bool) (a1 : Addr) (b2 : Bool) (a2 : Addr) (b3 : Bool) (a3 : Addr) : It where
  go := fun i H => ∃ xs1 x1 xs2 x2 xs3 x3, Sq2 K H b1 a1 xs1 ∧ xs1[i]? = some x1 ∧ Sq2 K H b2 a2 xs2 ∧ xs2[i]? = some x2 ∧ Sq2 K H b3 a3 xs3 ∧ xs3[i]? = some x3
  yld := fun i H v H' => ∃ T x1 x2 x3, v = .ref T ∧ H T = none ∧ H' = upd H T (.tup [x1, x2, x3]) ∧ (∀ xs, Sq2 K H b1 a1 xs → xs[i]? = some x1) ∧ (∀ xs, Sq2 K H b2 a2 xs → xs[i]? = some x2) ∧ (∀ xs, Sq2 K H b3 a3 xs → xs[i]? = some x3)
  stop := fun i H => ∃ xs1 xs2 xs3, Sq2 K H b1 a1 xs1 ∧ Sq2 K H b2 a2 xs2 ∧ Sq2 K H b3 a3 xs3 ∧ i ≤ xs1.length ∧ i ≤ xs2.length ∧ i ≤ xs3.length ∧ (i = xs1.length ∨ i = xs2.length ∨ i = xs3.length)
theorem turn_z3 {P : Program} {w : World} {K : PySem.W.Frag} {elts : List Expr} {kk : Nat} {tpos : Pos} {z TI TO i1 i2 i3 a1 a2 a3 : Addr} {b1 b2 b3 : Bool}
    (S : ZipSep3 z TI TO i1 i2 i3 [i1, a1] [i2, a2] [i3, a3]) (n1 : a1 ≠ i1) (n2 : a2 ≠ i2) (n3 : a3 ≠ i3) :
    Turn P w K (.Tuple elts kk tpos) (Itz3 K b1 a1 b2 a2 b3 a3) [z, TI, TO, i1, i2, i3] z (fun i h => IsZip h z TI TO .none ∧ IsTupOf3 h TI (.ref i1) (.ref i2) (.ref i3) ∧ (∃ y1 y2 y3, IsTupOf3 h TO y1 y2 y3) ∧ itAt b1 h i1 a1 i ∧ itAt b2 h i2 a2 i ∧ itAt b3 h i3 a3 i) where
  mem := by simp
  obj := fun i h st c hc => by
    obtain ⟨hz, hTI, ⟨y1, y2, y3, hTO⟩, s1, s2, s3⟩ := st
    have e' : c = z ∨ c = TI ∨ c = TO ∨ c = i1 ∨ c = i2 ∨ c = i3 := by simpa using hc
    rcases e' with q | q | q | q | q | q
    · rw [q]; exact ⟨_, hz, fun v q => nomatch q⟩
    · rw [q]; exact ⟨_, hTI, fun v q => nomatch q⟩
    · rw [q]; exact ⟨_, hTO, fun v q => nomatch q⟩
    · rw [q]; exact itAt_obj s1
    · rw [q]; exact itAt_obj s2
    · rw [q]; exact itAt_obj s3
  keep := fun i h h' st k => by
    obtain ⟨hz, hTI, ⟨y1, y2, y3, hTO⟩, s1, s2, s3⟩ := st
    exact ⟨k z (by simp) _ hz, k TI (by simp) _ hTI, ⟨y1, y2, y3, k TO (by simp) _ hTO⟩, itAt_at s1 fun o q => k i1 (by simp) o q, itAt_at s2 fun o q => k i2 (by simp) o q, itAt_at s3 fun o q => k i3 (by simp) o q⟩
  item := by
    intro X hP hw hK hc i pins s σ H E I hf st hg
    subst hP hw hK
    obtain ⟨hz, hTI, ⟨y1, y2, y3, hTO⟩, s1, s2, s3⟩ := st
    obtain ⟨xs1, x1, xs2, x2, xs3, x3, q1, g1, q2, g2, q3, g3⟩ := hg
    obtain ⟨its1, St1, r1, D1, u1, w1⟩ := src_draws (it := i1) I hc q1 n1
    obtain ⟨v1, hv1, rv1⟩ := r1.get g1
    obtain ⟨its2, St2, r2, D2, u2, w2⟩ := src_draws (it := i2) I hc q2 n2
    obtain ⟨v2, hv2, rv2⟩ := r2.get g2
    obtain ⟨its3, St3, r3, D3, u3, w3⟩ := src_draws (it := i3) I hc q3 n3
    obtain ⟨v3, hv3, rv3⟩ := r3.get g3
    have hzl : z < s.heap.objs.size := Heap.lt_size hz
    refine wpAny_pyNext_zipD3_item S D1 D2 D3 hz hTI hTO (u1 i s1) (u2 i s2) (u3 i s3) (lt_at hv1) (lt_at hv2) (lt_at hv3) fun m1 m2 m3 h' tk p1 p2 p3 z' TO' t1 t2 t3 hT hsz hk => ?_
    have e1 : m1 = v1 := Option.some.inj ((p1.symm).trans (arr_at hv1))
    subst e1
    have e2 : m2 = v2 := Option.some.inj ((p2.symm).trans (arr_at hv2))
    subst e2
    have e3 : m3 = v3 := Option.some.inj ((p3.symm).trans (arr_at hv3))
    subst e3
    refine ⟨_, rfl, wpAny_letOwnedTupleGo_zip (s := { s with heap := h', toks := tk }) z' fun h'' z'' sb => ?_⟩
    have hT2 : h''.get? s.heap.objs.size = some { cls := .type "tuple", data := .seq #[m1, m2, m3] } := (sb.2 _ (Nat.ne_of_gt hzl)).trans hT
    have new : ObjOk X.prog X.w (upd H s.heap.objs.size (.tup [x1, x2, x3])) h'' s.heap.objs.size (.tup [x1, x2, x3]) :=
      ⟨by show 3 ≤ sizeLine; decide, [m1, m2, m3], .cons rv1 (.cons rv2 (.cons rv3  .nil)), ⟨_, hT2, rfl, _, rfl⟩⟩
    have J : L2.Inv X pins σ (upd H s.heap.objs.size (.tup [x1, x2, x3])) { s with heap := h'', toks := tk } :=
      I.turnedNew (ch := [z, TI, TO, i1, i2, i3]) (fun c o hb q => (sb.2 c (fun q' => hb (by simp [q']))).trans (hk c o (fun q' => hb (by simp [q'])) (fun q' => hb (by simp [q'])) (fun q' => hb (by simp [q'])) (fun q' => hb (by simp [q'])) (fun q' => hb (by simp [q'])) q)) hf (Nat.le_refl _) new
    refine ⟨.ref s.heap.objs.size, _, J, rfl, ⟨_, x1, x2, x3, rfl, I.hok.fresh (Nat.le_refl _), rfl, (fun l hl => by rw [sq2_inj I hl q1]; exact g1), (fun l hl => by rw [sq2_inj I hl q2]; exact g2), (fun l hl => by rw [sq2_inj I hl q3]; exact g3)⟩, ⟨z'', ?_, ⟨m1, m2, m3, ?_⟩, ?_, ?_, ?_⟩, fun c hcm => ?_⟩
    · exact (sb.2 _ S.TIz).trans (hk _ _ S.TIz S.TITO S.TIi1 S.TIi2 S.TIi3 hTI)
    · exact (sb.2 _ S.TOz).trans TO'
    · exact itAt_at (w1 _ _ t1) fun o q => (sb.2 _ (Ne.symm S.zi1)).trans q
    · exact itAt_at (w2 _ _ t2) fun o q => (sb.2 _ (Ne.symm S.zi2)).trans q
    · exact itAt_at (w3 _ _ t3) fun o q => (sb.2 _ (Ne.symm S.zi3)).trans q
    · have hlt : c < s.heap.objs.size := by
        have e' : c = z ∨ c = TI ∨ c = TO ∨ c = i1 ∨ c = i2 ∨ c = i3 := by simpa using hcm
        rcases e' with q | q | q | q | q | q
        · rw [q]; exact hzl
        · rw [q]; exact Heap.lt_size hTI
        · rw [q]; exact Heap.lt_size hTO
        · rw [q]; obtain ⟨o, ho, _⟩ := itAt_obj s1; exact Heap.lt_size ho
        · rw [q]; obtain ⟨o, ho, _⟩ := itAt_obj s2; exact Heap.lt_size ho
        · rw [q]; obtain ⟨o, ho, _⟩ := itAt_obj s3; exact Heap.lt_size ho
      rw [upd_ne (Nat.ne_of_lt hlt)]
      exact (hf c hcm).1
  done := by
    intro X hP hw hK hc i pins s σ H E I hf st hg
    subst hP hw hK
    obtain ⟨hz, hTI, ⟨y1, y2, y3, hTO⟩, s1, s2, s3⟩ := st
    obtain ⟨xs1, xs2, xs3, q1, q2, q3, c1, c2, c3, hend⟩ := hg
    obtain ⟨its1, St1, r1, D1, u1, w1⟩ := src_draws (it := i1) I hc q1 n1
    have l1 := r1.length
    obtain ⟨its2, St2, r2, D2, u2, w2⟩ := src_draws (it := i2) I hc q2 n2
    have l2 := r2.length
    obtain ⟨its3, St3, r3, D3, u3, w3⟩ := src_draws (it := i3) I hc q3 n3
    have l3 := r3.length
    refine wpAny_pyNext_zipD3_end S D1 D2 D3 hz hTI hTO (u1 i s1) (u2 i s2) (u3 i s3) (by rw [List.size_toArray]; omega) (by rw [List.size_toArray]; omega) (by rw [List.size_toArray]; omega) ?_ fun h' tk hk => ⟨rfl, I.turnedL (ch := [z, TI, TO, i1, i2, i3]) (fun c o hb q => hk c o (fun q' => hb (by simp [q'])) (fun q' => hb (by simp [q'])) (fun q' => hb (by simp [q'])) (fun q' => hb (by simp [q'])) (fun q' => hb (by simp [q'])) q) hf⟩
    rcases hend with q | q | q
    · exact .inl (by rw [List.size_toArray]; omega)
    · exact .inr (.inl (by rw [List.size_toArray]; omega))
    · exact .inr (.inr (by rw [List.size_toArray]; omega))
  self := fun A i s Q E st h => wpAny_pyIter_zip st.1 h
def iZip3 (K : PySem.W.Frag) (b1 : Bool) (b2 : Bool) (b3 : Bool) (ta : TA) : TI := fun σ H R => ta σ H fun vs H1 => ∃ a1 xs1 a2 xs2 a3 xs3, vs = [.ref a1, .ref a2, .ref a3] ∧ Sq2 K H1 b1 a1 xs1 ∧ Sq2 K H1 b2 a2 xs2 ∧ Sq2 K H1 b3 a3 xs3 ∧ R (Itz3 K b1 a1 b2 a2 b3 a3) H1
theorem pi_z3 {X : Cx} {K : PySem.W.Frag} (b1 : Bool) (b2 : Bool) (b3 : Bool) {e1 e2 e3 : Expr} {ta : TA} {p pos tpos : Pos} {elts : List Expr} {kk : Nat} (eK : X.K = K) (hg : Gl X "zip") (hm : X.mg "zip" = none) (ha : PA X [e1, e2, e3] ta)
    (hs : starEach [e1, e2, e3] X.env = (false, eval e1 X.env) :: starEach [e2, e3] X.env := by rfl) (hpl : (backTo pos (starEach [e2, e3] X.env)).any (·.1) = false := by rfl) :
    PI X (.Tuple elts kk tpos) (.Call (.Name "zip" p) [e1, e2, e3] [] pos) (iZip3 K b1 b2 b3 ta) := by
  subst eK
  refine ⟨fun pins s σ H R I h => ?_⟩
  refine Call_ (ld_blt I hg hm PyProof.Rows.boot_zip (PyProof.Rows.callWith_type1 (thn (ha.run pos pins s σ H _ I h) fun us s1 ⟨vs, H1, I1, r1, q1⟩ => ?_) hs hpl))
  obtain ⟨a1, xs1, a2, xs2, a3, xs3, ex, q1, q2, q3, q⟩ := q1
  subst ex
  obtain ⟨u1, u2, u3, rfl, r1, r2, r3⟩ := vals_3 r1
  cases r1
  cases r2
  cases r3
  obtain ⟨o1, W1, B1, y1, z1⟩ := src_begins I1 q1
  obtain ⟨o2, W2, B2, y2, z2⟩ := src_begins I1 q2
  obtain ⟨o3, W3, B3, y3, z3⟩ := src_begins I1 q3
  refine zip_begins3 B1 B2 B3 y1 y2 y3 fun h' hz hTI hTO g1 g2 g3 hsz hk => wpAny_pyIter_zip hz ?_
  have I2 : L2.Inv X pins σ H1 { s1 with heap := h' } := I1.kept (t' := s1.toks) hk
  have S := zip_sep3 (N := s1.heap.objs.size) (fp1 := [a1]) (fp2 := [a2]) (fp3 := [a3]) (fun c hc => by rw [List.mem_singleton.mp hc]; exact sq2_lt I1 q1) (fun c hc => by rw [List.mem_singleton.mp hc]; exact sq2_lt I1 q2) (fun c hc => by rw [List.mem_singleton.mp hc]; exact sq2_lt I1 q3)
  refine ⟨_, [s1.heap.objs.size + 5, s1.heap.objs.size + 3, s1.heap.objs.size + 4, s1.heap.objs.size, s1.heap.objs.size + 1, s1.heap.objs.size + 2], _, _, H1, rfl, I2, turn_z3 S (Nat.ne_of_lt (Nat.lt_of_lt_of_le (sq2_lt I1 q1) (Nat.le_refl _))) (Nat.ne_of_lt (Nat.lt_of_lt_of_le (sq2_lt I1 q2) (Nat.le_add_right _ _))) (Nat.ne_of_lt (Nat.lt_of_lt_of_le (sq2_lt I1 q3) (Nat.le_add_right _ _))), ⟨hz, hTI, ⟨_, _, _, hTO⟩, z1 _ _ g1, z2 _ _ g2, z3 _ _ g3⟩, ?_, q⟩
  intro c hcm
  have e' : c = s1.heap.objs.size + 5 ∨ c = s1.heap.objs.size + 3 ∨ c = s1.heap.objs.size + 4 ∨ c = s1.heap.objs.size ∨ c = s1.heap.objs.size + 1 ∨ c = s1.heap.objs.size + 2 := by simpa using hcm
  have hle : s1.heap.objs.size ≤ c := by
    rcases e' with z | z | z | z | z | z <;> (rw [z]; first | exact Nat.le_refl _ | exact Nat.le_add_right _ _)
  exact I1.fpOk hle (I1.hok.fresh hle)
def YZ3 (ns ms ls : List Int) : Nat → Hp → V → Hp → Prop := fun i H x H' => ∃ T, x = .ref T ∧ H T = none ∧ Kp [] H H' ∧ H' T = some (.tup [.int (ns.getD i 0), .int (ms.getD i 0), .int (ls.getD i 0)])
theorem walk_z3 {K : PySem.W.Frag} {b1 : Bool} {a1 : Addr} {b2 : Bool} {a2 : Addr} {b3 : Bool} {a3 : Addr} {ns ms ls : List Int} {n : Nat} (hn : n = min (min ns.length ms.length) ls.length) : Walk (Itz3 K b1 a1 b2 a2 b3 a3) n (fun H => Sq2 K H b1 a1 (ns.map V.int) ∧ Sq2 K H b2 a2 (ms.map V.int) ∧ Sq2 K H b3 a3 (ls.map V.int)) (YZ3 ns ms ls) := by
  subst hn
  refine ⟨fun i H hi q => ?_, fun H q => ?_, ?_⟩
  · exact ⟨_, _, _, _, _, _, q.1, getD_map (by omega), q.2.1, getD_map (by omega), q.2.2, getD_map (by omega)⟩
  · exact ⟨_, _, _, q.1, q.2.1, q.2.2, by rw [List.length_map]; omega, by rw [List.length_map]; omega, by rw [List.length_map]; omega, by rw [List.length_map, List.length_map, List.length_map]; omega⟩
  · rintro i H x H' hi q ⟨T, x1, x2, x3, e, n, eh, f1, f2, f3⟩
    have z1 := getD_at (by omega) (f1 _ q.1)
    have z2 := getD_at (by omega) (f2 _ q.2.1)
    have z3 := getD_at (by omega) (f3 _ q.2.2)
    subst z1 z2 z3 eh
    exact ⟨T, e, n, Kp.new n, upd_same⟩
end Cf

set_option Elab.async false
set_option linter.all false
set_option maxRecDepth 100000
namespace Cf
open PySem PySem.Spec PyProof.Rows L2
/-! ### tuples of ints, one after the other -/
def tupD (ns : List Int) : PyData := .tuple (ns.map PyData.int)
inductive Rw (K : PySem.W.Frag) (H : Hp) : List V → List (List Int) → Prop
  | nil : Rw K H [] []
  | cons {p : Addr} {ns : List Int} {xs : List V} {rs : List (List Int)} : SqT K H p (ns.map V.int) → Rw K H xs rs → Rw K H (.ref p :: xs) (ns :: rs)
section
variable {K : PySem.W.Frag} {H H' : Hp} {xs ys : List V} {rs ts : List (List Int)}
theorem Rw.go (e : ∀ p zs, SqT K H p zs → SqT K H' p zs) : ∀ {xs : List V} {rs : List (List Int)}, Rw K H xs rs → Rw K H' xs rs
  | _, _, .nil => .nil
  | _, _, .cons h t => .cons (e _ _ h) (t.go e)
theorem Rw.kp0 (h : Rw K H xs rs) (k : Kp [] H H') : Rw K H' xs rs := h.go fun _ _ z => k.tup0 z
theorem Rw.len : ∀ {xs : List V} {rs : List (List Int)}, Rw K H xs rs → xs.length = rs.length
  | _, _, .nil => rfl
  | _, _, .cons _ t => by rw [List.length_cons, List.length_cons, t.len]
theorem Rw.app : ∀ {xs : List V} {rs : List (List Int)}, Rw K H xs rs → Rw K H ys ts → Rw K H (xs ++ ys) (rs ++ ts)
  | _, _, .nil, h => h
  | _, _, .cons h t, h2 => .cons h (t.app h2)
theorem Rw.one {p : Addr} {ns : List Int} (h : SqT K H p (ns.map V.int)) : Rw K H [.ref p] [ns] := .cons h .nil
theorem Rw.get : ∀ {xs : List V} {rs : List (List Int)} {i : Nat} {x : V}, Rw K H xs rs → xs[i]? = some x → ∃ p, x = .ref p ∧ i < rs.length ∧ SqT K H p ((rs.getD i []).map V.int)
  | _, _, i, x, .nil, h => by simp at h
  | _, _, 0, x, .cons h t, e => ⟨_, (Option.some.inj e).symm, by simp, h⟩
  | _, _, i + 1, x, .cons h t, e => by
    obtain ⟨p, a, b, c⟩ := t.get (i := i) (x := x) (by simpa using e)
    exact ⟨p, a, by simpa using b, c⟩
theorem Rw.mem (h : Rw K H xs rs) {x : V} (hx : x ∈ xs) : ∃ p ns, x = .ref p ∧ ns ∈ rs ∧ SqT K H p (ns.map V.int) := by
  obtain ⟨i, hi, e⟩ := List.mem_iff_getElem.mp hx
  obtain ⟨p, a, b, c⟩ := h.get (i := i) (x := x) (by rw [List.getElem?_eq_getElem hi, e])
  refine ⟨p, _, a, ?_, c⟩
  rw [List.getD_eq_getElem?_getD, List.getElem?_eq_getElem b]
  exact List.getElem_mem b
theorem Rw.dp : ∀ {xs : List V} {rs : List (List Int)}, Rw K H xs rs → DpAll K H xs (rs.map tupD)
  | _, _, .nil => .nil
  | _, _, .cons h t => .cons (dp_ti h) t.dp
end
/-- a tuple of tuples of ints shows -/
theorem tupD_sm {ns : List Int} {m : Nat} (hl : ns.length ≤ m) (h : ∀ x ∈ ns, x.natAbs < 2 ^ 100) : (tupD ns).shown.length ≤ m * 103 + 3 ∧ (tupD ns).showable = true ∧ (tupD ns).depth ≤ 1 := by
  obtain ⟨a, b, d⟩ := tup_shown (ints_sm (ns := ns) h)
  rw [List.length_map] at a
  refine ⟨Nat.le_trans a (by omega), b, ?_⟩
  have := depth_ints ns
  unfold tupD
  simp only [PyData.depth]
  omega
section
variable {X : Cx}
/-- t[:k] of a tuple of ints, 0 ≤ k -/
theorem sl_tiTo {K : PySem.W.Frag} (e : X.K = K) : SlR X (fun x lo hi H Q => ∃ p, ∃ ns : List Int, ∃ k : Int, x = .ref p ∧ lo = none ∧ hi = some k ∧ SqT K H p (ns.map V.int) ∧ 0 ≤ k ∧
    ∀ q H1, (q = p ∨ H q = none) → Kp [] H H1 → SqT K H1 q ((ns.take k.toNat).map V.int) → Q (.ref q) H1) := by
  subst e
  refine sl_imp sl_tupA fun x lo hi H Q ⟨p, ns, k, a, b, c, d, hk, w⟩ => ?_
  subst a b c
  have e : cutV (ns.map V.int) none (some k) = (ns.take k.toNat).map V.int := by
    have q := cut_take (ns.map V.int) k.toNat
    rw [show ((k.toNat : Nat) : Int) = k by omega] at q
    rw [q, List.map_take]
  refine ⟨p, _, rfl, d, fun hw => ?_, fun _ q nq => ?_⟩
  · refine w p H (.inl rfl) Kp.refl ?_
    rw [← e]
    unfold cutV
    rw [hw.1, hw.2, List.drop_zero, Nat.sub_zero, List.take_of_length_le (Nat.le_refl _)]
    exact d
  · refine w q _ (.inr nq) (Kp.new nq) ?_
    rw [← e]
    exact sqT upd_same
end
section
variable {X : Cx}
/-- xs.extend(ys), two lists -/
theorem mt_ext : MtM X "list.extend" (fun x vs H Q => ∃ l b xs zs, x = .ref l ∧ vs = [.ref b] ∧ H l = some (.lst xs) ∧ H b = some (.lst zs) ∧ xs.length + zs.length ≤ sizeLine ∧ ∀ H1, Md l H H1 → H1 l = some (.lst (xs ++ zs)) → Q .non H1) :=
  mt_imp mt_extend fun _ _ _ _ ⟨l, b, xs, zs, a, c, h, h2, z, q⟩ => ⟨l, b, xs, zs, a, c, h, h2, z, q _ Md.upd upd_same⟩
end
theorem ty_tup {K : PySem.W.Frag} {H : Hp} {p : Addr} {xs : List V} (h : SqT K H p xs) : TyX K H (.ref p) (.type "tuple") := by
  rcases h with (h | ⟨o, h⟩) | ⟨o, its, n, hk, hc, _⟩
  · exact .base (.tup h)
  · exact .fTuple h
  · exact .kTuple hk hc
theorem kit_tt : kitB "tuple" "tuple" = some true := by decide +kernel
end Cf

set_option Elab.async false
set_option linter.all false
set_option maxRecDepth 100000
namespace Cf
open PySem PySem.Spec PyProof.Rows L2
open LamX (CodeO TabS Tabs ExtN TabB lamEnv lamCx lam_make2)
open PySem.W (keyToks keyToksAll EachIs SortsAt dataKind AllAlike Sortable alike alikeAll)
/-! ### a lambda of one parameter -/
structure Lam1 (sc scope : Scope) (x : Str) : Prop where
  kind : scope.kind = .function
  co : scope.isCoroutine = false
  gen : scope.isGenerator = false
  par : scope.names.lookup x = some .local
  own : ∀ y ∈ scope.names, y.2 ≠ .cell ∧ (y.2 = .local → y.1 = x)
  free : ∀ y ∈ scope.names, y.2 = .free → sc.names.lookup y.1 = some .cell ∨ sc.names.lookup y.1 = some .free
def lam1B (sc scope : Scope) (x : Str) : Bool :=
  decide (scope.kind = .function) && !scope.isCoroutine && !scope.isGenerator && decide (scope.names.lookup x = some .local) &&
    scope.names.all fun y => !decide (y.2 = .cell) && (!decide (y.2 = .local) || decide (y.1 = x)) && (!decide (y.2 = .free) || (decide (sc.names.lookup y.1 = some .cell) || decide (sc.names.lookup y.1 = some .free)))
theorem lam1_by {sc scope : Scope} {x : Str} (h : lam1B sc scope x = true) : Lam1 sc scope x := by
  unfold lam1B at h
  simp only [Bool.and_eq_true, Bool.or_eq_true, Bool.not_eq_true', decide_eq_true_eq, decide_eq_false_iff_not, List.all_eq_true] at h
  obtain ⟨⟨⟨⟨h1, h2⟩, h3⟩, h4⟩, h5⟩ := h
  refine ⟨h1, h2, h3, h4, fun y hy => ⟨(h5 y hy).1.1, fun e => ?_⟩, fun y hy e => ?_⟩
  · rcases (h5 y hy).1.2 with z | z
    · exact absurd e z
    · exact z
  · rcases (h5 y hy).2 with z | z
    · exact absurd e z
    · exact z
/-- where the lambda's body is evaluated -/
def lamC (X : Cx) (A : Around) (outer : List Env) (s : Shared) (H : Hp) (scope : Scope) (f c' : Addr) : Cx :=
  { lamCx X A outer s H (fun _ _ _ => False) scope f c' with xe := fun _ _ => False }
section
variable {X : Cx} {pins : List (Addr × Obj)} {σ : L2.St} {H : Hp} {s : Shared}
theorem lam1_start {A : Around} {outer : List Env} {scope : Scope} {x : Str} {f c' : Addr} {h1 : Heap} {tk i : Nat} {v : V} {u : Value} (I : L2.Inv X pins σ H s) (L : Lam1 X.env.scope scope x) (hN : X.N.Nodup) (hi : X.N[i]? = some x)
    (e0 : Env0 X.prog X.w X.K X.mg X.base A outer s H) (hd : A.handled = none) (ru : RelV v u) (hns : h1.Ns s.heap.objs.size fun y => [(x, u)].reverse.lookup y)
    (kp : ∀ b o, s.heap.get? b = some o → h1.get? b = some o) : L2.Inv (lamC X A outer s H scope f c') [] (σ.set i (some v)) H { s with heap := h1, toks := tk } := by
  have there : ∀ y ∈ scope.names, y.2 = .free → ∃ c, X.env.cells.lookup y.1 = some c := by
    intro y hy e
    rcases L.free y hy e with z | z
    · exact I.ok.has _ (.inl z)
    · exact I.ok.has _ (.inr z)
  have back : ∀ {y : Str} {c : Addr}, (cloFrom X.env.cells scope.names []).lookup y = some c → X.env.cells.lookup y = some c := by
    intro y c e
    rcases cloFrom_mem (PySem.mem_of_lookup e) with hm | ⟨q1, q2⟩
    · cases hm
    · obtain ⟨c1, hc⟩ := there _ q1 rfl
      replace hc : X.env.cells.lookup y = some c1 := hc
      have ec : c = c1 := by
        rw [q2, hc] <;> rfl
      rw [ec]
      exact hc
  have caught : ∀ {y : Str}, scope.names.lookup y = some .free → ∃ c, (cloFrom X.env.cells scope.names []).lookup y = some c := by
    intro y hl
    have hy : (y, NameKind.free) ∈ scope.names := PySem.mem_of_lookup hl
    exact mem_lookup (cloFrom_has (cells := X.env.cells) (acc := []) hy)
  have cellK : ∀ {c : Addr} {z : Option Value}, s.heap.IsCell c z → h1.IsCell c z := by
    rintro c z ⟨o, ho, hd⟩
    exact ⟨o, kp _ _ ho, hd⟩
  have none : ∀ b : Addr, b ∉ (lamC X A outer s H scope f c').ex := fun b z => by
    have z : b ∈ ([] : List Addr) := z
    cases z
  have nocell : ∀ y, scope.names.lookup y ≠ some .cell := fun y hl => (L.own _ (PySem.mem_of_lookup hl)).1 rfl
  refine ⟨⟨e0.mod, L.kind, rfl, rfl, Nat.le_refl _, fun y z c e1 e2 => I.ok.inj y z c (back e1) (back e2), ?has, ?cab, fun _ => hd, Around.frames_deeper e0.frames, .inr ⟨rfl, rfl⟩,
      fun b z => absurd z (none b), e0.bs, e0.bsz, fun b _ _ => none b, fun b z => absurd z (none b), e0.funs, e0.frf⟩,
    rfl, e0.bare, Un.kept kp, ⟨_, hns, ?loc⟩, ?cell, e0.hok.fresh (Nat.le_refl _), ?freeC, ?pin, e0.hok.kept kp, by rw [List.length_set]; exact I.len⟩
  case has =>
    intro y hy
    have hy : scope.names.lookup y = some .cell ∨ scope.names.lookup y = some .free := hy
    rcases hy with hy | hy
    · exact absurd hy (nocell y)
    · exact caught hy
  case cab =>
    intro y c z _
    have z : false = true := z
    cases z
  case loc =>
    intro j y z e1 e2 e3
    have e1 : X.N[j]? = some y := e1
    have e3 : Vis scope y := e3
    rcases e3 with k | k | k
    · -- the parameter
      have ey : y = x := (L.own _ (PySem.mem_of_lookup k)).2 rfl
      subst ey
      have ej : j = i := by
        exact (List.getElem?_inj (List.getElem?_eq_some_iff.mp e1).1 hN).mp (e1.trans hi.symm)
      subst ej
      have hl : j < σ.length := by
        rw [I.len]
        exact (List.getElem?_eq_some_iff.mp e1).1
      rw [List.getElem?_set_self hl] at e2
      have ez : v = z := Option.some.inj (Option.some.inj e2)
      subst ez
      refine ⟨u, ru, .inl ⟨k, ?_⟩⟩
      simp [List.lookup]
    · exact absurd k (nocell y)
    · have ny : y ≠ x := fun e => by
        rw [e, L.par] at k
        cases k
      have nj : i ≠ j := fun e => by
        rw [← e, hi] at e1
        exact ny (Option.some.inj e1).symm
      rw [List.getElem?_set_ne nj] at e2
      obtain ⟨m, hn, hl⟩ := I.loc
      have hvis : Vis X.env.scope y := by
        rcases L.free _ (PySem.mem_of_lookup k) rfl with q | q
        · exact .inr (.inl q)
        · exact .inr (.inr q)
      obtain ⟨w1, r1, q1⟩ := hl j y z e1 e2 hvis
      obtain ⟨c2, h2⟩ := caught k
      refine ⟨w1, r1, .inr ⟨.inr k, c2, h2, ?_⟩⟩
      have c1 := back h2
      rcases q1 with ⟨k1, _⟩ | ⟨_, c3, e4, z4⟩
      · replace k1 : X.env.scope.names.lookup y = some .local := k1
        rcases L.free _ (PySem.mem_of_lookup k) rfl with k2 | k2
        · replace k2 : X.env.scope.names.lookup y = some .cell := k2
          rw [k2] at k1
          cases k1
        · replace k2 : X.env.scope.names.lookup y = some .free := k2
          rw [k2] at k1
          cases k1
      · rw [c1] at e4
        cases e4
        exact cellK z4
  case cell =>
    intro y c e
    obtain ⟨w1, z⟩ := I.cell y c (back e)
    exact ⟨w1, cellK z⟩
  case freeC =>
    intro y c e
    exact I.freeC y c (back e)
  case pin =>
    intro q hq
    have hq : q ∈ ([] : List (Addr × Obj)) ++ [] := hq
    cases hq
/-- the lambda, called inside a built-in that X's def calls -/
theorem lam1_call {k i : Nat} {f c' : Addr} {pm ctv : Value} {params : Arguments} {body : Expr} {scope : Scope} {x : Str} {tb : TE} {v : V} {u : Value} {Q : VK} {E : Value → Shared → Prop}
    (I : L2.Inv X pins σ H s) (L : Lam1 X.env.scope scope x) (hN : X.N.Nodup) (hi : X.N[i]? = some x) (hr : Room (k + 3) X.A)
    (hf : s.heap.get? f = some (PySem.W.kla_obj "<lambda>" (X.env.qual ++ "<lambda>") params body scope (cloFrom X.env.cells scope.names []) pm c' ctv))
    (hc : ∃ (oc : Obj) (vs : Array Value) (t : Tok), s.heap.get? c' = some oc ∧ oc.data = .fields vs ∧ vs[1]? = some (.str (X.env.qual ++ "<lambda>") t))
    (hbind : bindArgs (PySem.W.kla_fn "<lambda>" (X.env.qual ++ "<lambda>") params body scope (cloFrom X.env.cells scope.names []) pm (.ref c') ctv) ⟨[u], []⟩ = pure [(x, u)])
    (hbody : PE (lamC X X.A.in1.in1 X.stack s H scope f c') body tb) (ru : RelV v u) (ht : tb (σ.set i (some v)) H Q) :
    wpAny (model X.prog X.w) X.A.in1.in1 (call (.ref f) [u]) (fun y s' => ∃ z H', L2.Inv X pins σ H' s' ∧ RelV z y ∧ Q z H' ∧ Un (frs X.stack) [] H H' s.heap s'.heap) E s := by
  have hr2 : Room (k + 1) X.A.in1.in1 := (hr.in1).in1
  obtain ⟨oc, vs, t, hoc, hdc, hvc⟩ := hc
  have e0 := I.env0.in1.in1
  have run : codeAny (model X.prog X.w) X.A.in1.in1 (.call (.ref f) ⟨[u], []⟩) (CR CX0 X.stack X.prog X.w H s Q E0) s := by
    refine PySem.W.kla_callFunE hr2.depth hf rfl L.co L.gen rfl ⟨c', oc, vs, t, rfl, hoc, hdc, hvc⟩ ?_
    rw [hbind]
    refine wpAny_pure (wpAny_newFunctionEnv (fun y hy => (L.own y hy).1) (fun y hy => ?_) (fun h1 hns hsb => ⟨I.nolimit.fresh _ hsb, ?_⟩) L.kind)
    · rw [List.mem_singleton.mp hy]
      exact L.par
    · show codeAny _ _ (.expr body (lamEnv X scope s.heap.objs.size f c')) _ _
      have kp : ∀ b o, s.heap.get? b = some o → h1.get? b = some o := by
        intro b o e
        exact hsb.extBut b o (Nat.ne_of_lt (Heap.lt_size e)) (Heap.get?_push_of_some _ e)
      have J := lam1_start (f := f) (c' := c') (tk := s.toks + [(x, u)].length) I L hN hi e0 hr2.hd ru hns kp
      refine PySem.W.kla_codeExpr (wpAny_mono (hbody.run [] _ _ H Q J ht) (fun y s' hq => ?_) fun e s' hq => hq.elim)
      obtain ⟨z, H', J', rv, q⟩ := hq
      exact ⟨z, H', J'.os, J'.bare, J'.base, J'.hok, rv, q⟩
  refine wpAny_call (codeAny_mono run fun r s' hq => ?_)
  cases r with
  | error e => exact (show False from hq).elim
  | ok fl =>
    cases fl with
    | ret y =>
      have hq : CE X.stack X.prog X.w H s Q y s' := hq
      have un : ∃ z H', Un (frs X.stack) [] H H' s.heap s'.heap ∧ RelV z y ∧ Q z H' ∧ s'.os = s.os ∧ AllBare s'.gens ∧ HOk X.prog X.w H' s'.heap := by
        obtain ⟨z, H', a1, a2, a3, a4, a5, a6⟩ := hq
        exact ⟨z, H', a3, a5, a6, a1, a2, a4⟩
      obtain ⟨z, H', un, rv, q, os, ba, hk⟩ := un
      have J : EP X pins σ (fun z' H'' => z' = z ∧ H'' = H') y s' := I.after ⟨z, H', os, ba, un, hk, rv, rfl, rfl⟩
      obtain ⟨z', H'', J, rv', ez, eH⟩ := J
      subst ez eH
      exact ⟨_, _, J, rv, q, un⟩
    | next => exact False.elim hq
    | brk => exact False.elim hq
    | cont => exact False.elim hq
end
/-! ### sorted(xs, key=lambda x: (a, b)) of ints -/
def KLe (key : Int → Int × Int) (a b : Int) : Prop := (key a).1 < (key b).1 ∨ ((key a).1 = (key b).1 ∧ (key a).2 ≤ (key b).2)
def kD (p : Int × Int) : PyData := .tuple [.int p.1, .int p.2]
theorem toks_le {p q : Int × Int} (h : PyProof.Rows.lexLt itemOrd (keyToks (kD q)) (keyToks (kD p)) = false) : p.1 < q.1 ∨ (p.1 = q.1 ∧ p.2 ≤ q.2) := by
  have e : ∀ r : Int × Int, keyToks (kD r) = [.inl 1, .inl r.1, .inl 1, .inl r.2, .inl 0] := fun r => by
    simp [kD, keyToks, keyToksAll]
  rw [e, e] at h
  simp [PyProof.Rows.lexLt, itemLt] at h
  omega
/-- what was told of each -/
inductive KeyR (key : Int → Int × Int) (H : Hp) : List Value → List Int → Prop
  | nil : KeyR key H [] []
  | cons {T : Addr} {n : Int} {us : List Value} {ns : List Int} : H T = some (.tup [.int (key n).1, .int (key n).2]) → KeyR key H us ns → KeyR key H (.ref T :: us) (n :: ns)
section
variable {key : Int → Int × Int} {H H' : Hp}
theorem KeyR.kp0 (k : Kp [] H H') : ∀ {us : List Value} {ns : List Int}, KeyR key H us ns → KeyR key H' us ns
  | _, _, .nil => .nil
  | _, _, .cons h t => .cons (k.at0 h) (t.kp0 k)
theorem KeyR.len : ∀ {us : List Value} {ns : List Int}, KeyR key H us ns → us.length = ns.length
  | _, _, .nil => rfl
  | _, _, .cons _ t => by rw [List.length_cons, List.length_cons, t.len]
theorem KeyR.snoc {T : Addr} {n : Int} (h : H T = some (.tup [.int (key n).1, .int (key n).2])) : ∀ {us : List Value} {ns : List Int}, KeyR key H us ns → KeyR key H (us ++ [.ref T]) (ns ++ [n])
  | _, _, .nil => .cons h .nil
  | _, _, .cons a t => .cons a (t.snoc h)
end
section
variable {X : Cx} {pins : List (Addr × Obj)} {σ : L2.St} {H : Hp} {s : Shared} {key : Int → Int × Int}
theorem KeyR.reads (I : L2.Inv X pins σ H s) : ∀ {us : List Value} {ns : List Int}, KeyR key H us ns → EachIs (fun v d => ∃ as, Reads s.heap v d as) us (ns.map fun n => kD (key n))
  | _, _, .nil => .nil
  | _, _, .cons h t => .cons (Dp.reads I _ _ _ (dp_ti (K := X.K) (ns := [_, _]) (sqT h)) rfl) (t.reads I)
theorem out_frs {b : Addr} (I : L2.Inv X pins σ H s) (fp : FpOk X pins H b) : b ∉ frs X.stack := fun z => by
  rcases List.mem_cons.mp (I.stkSub _ z) with e | e
  · exact fp.2.1 e
  · exact fp.2.2.1 e
theorem kD_alike (ns : List Int) : AllAlike (ns.map fun n => kD (key n)) := by
  intro d hd d' hd'
  obtain ⟨a, _, rfl⟩ := List.mem_map.mp hd
  obtain ⟨b, _, rfl⟩ := List.mem_map.mp hd'
  simp [kD, alike, alikeAll]
theorem kD_sortable (ns : List Int) : Sortable (ns.map fun n => kD (key n)) := by
  refine .inl fun d hd => ?_
  obtain ⟨a, _, rfl⟩ := List.mem_map.mp hd
  exact ⟨_, _, rfl⟩
/-- what a sort by the keys leaves -/
theorem out_sorted {h : Heap} {us vs : List Value} {ns : List Int} {xs : Array Keyed} (hr : EachIs (fun v d => ∃ as, Reads h v d as) us (ns.map fun n => kD (key n))) (hi : IntsAre vs ns)
    (hp : xs.Perm (us.toArray.zip vs.toArray)) (hs : SortedToK (dataKind h (ns.map fun n => kD (key n))) xs xs.size) :
    ∃ ms : List Int, IntsAre (xs.map (·.2)).toList ms ∧ ms.Perm ns ∧ ms.Pairwise (KLe key) := by
  have hz : (us.toArray.zip vs.toArray).toList = us.zip vs := by simp
  have pl : xs.toList.Perm (us.zip vs) := by
    rw [← hz]
    exact Array.perm_iff_toList_perm.mp hp
  -- each pair: a key that reads so, and its int
  have each : ∀ p ∈ us.zip vs, ∃ n t, n ∈ ns ∧ p.2 = Value.int n t ∧ ∃ as, Reads h p.1 (kD (key n)) as := by
    clear hp hs pl hz
    have go : ∀ (us vs : List Value) (ns : List Int), EachIs (fun v d => ∃ as, Reads h v d as) us (ns.map fun n => kD (key n)) → IntsAre vs ns → ∀ p ∈ us.zip vs, ∃ n t, n ∈ ns ∧ p.2 = Value.int n t ∧ ∃ as, Reads h p.1 (kD (key n)) as := by
      intro us
      induction us with
      | nil => intro vs ns _ _ p hp; simp at hp
      | cons u us ih =>
        intro vs ns h1 h2 p hp
        cases h2 with
        | nil => simp at hp
        | cons n0 t0 h2 =>
          cases h1 with
          | cons a b =>
            rcases List.mem_cons.mp hp with z | z
            · rw [z]
              exact ⟨_, _, List.mem_cons_self, rfl, a⟩
            · obtain ⟨n, t, c1, c2, c3⟩ := ih _ _ b h2 p z
              exact ⟨n, t, List.mem_cons_of_mem _ c1, c2, c3⟩
    exact go us vs ns hr hi
  have lenE : us.length = vs.length := by
    have h1 : ∀ {us : List Value} {ds : List PyData}, EachIs (fun v d => ∃ as, Reads h v d as) us ds → us.length = ds.length := by
      intro us ds e
      induction e with
      | nil => rfl
      | cons _ _ ih => rw [List.length_cons, List.length_cons, ih]
    have := h1 hr
    rw [List.length_map] at this
    have := hi.length
    omega
  have keyE : ∀ p ∈ us.zip vs, (dataKind h (ns.map fun n => kD (key n))).keyOf p.1 = some (keyToks (kD (key (SrtO.iv p.2)))) := by
    intro p hpm
    obtain ⟨n, t, c1, c2, as, c3⟩ := each p hpm
    rw [c2]
    exact PySem.W.dataKind_some (kD_alike ns) (List.mem_map.mpr ⟨n, c1, rfl⟩) c3
  refine ⟨xs.toList.map fun p => SrtO.iv p.2, ?_, ?_, ?_⟩
  · -- ints
    have : ∀ l : List Keyed, (∀ p ∈ l, ∃ n t, p.2 = Value.int n t) → IntsAre (l.map (·.2)) (l.map fun p => SrtO.iv p.2) := by
      intro l
      induction l with
      | nil => intro _; exact .nil
      | cons p r ih =>
        intro hl
        obtain ⟨n, t, e⟩ := hl p List.mem_cons_self
        rw [List.map_cons, List.map_cons, e]
        exact .cons n t (ih fun q hq => hl q (List.mem_cons_of_mem _ hq))
    rw [Array.toList_map]
    refine this xs.toList fun p hpm => ?_
    obtain ⟨n, t, _, c2, _⟩ := each p (pl.mem_iff.mp hpm)
    exact ⟨n, t, c2⟩
  · have e : (us.zip vs).map (fun p => SrtO.iv p.2) = ns := by
      have go : ∀ (us vs : List Value) (ns : List Int), us.length = vs.length → IntsAre vs ns → (us.zip vs).map (fun p => SrtO.iv p.2) = ns := by
        intro us
        induction us with
        | nil =>
          intro vs ns hl h2
          cases h2 with
          | nil => rfl
          | cons _ _ _ => simp at hl
        | cons u us ih =>
          intro vs ns hl h2
          cases h2 with
          | nil => simp at hl
          | cons n0 t0 h2 =>
            rw [List.zip_cons_cons, List.map_cons, ih _ _ (by simpa using hl) h2]
            rfl
      exact go us vs ns lenE hi
    have := pl.map fun p => SrtO.iv p.2
    rw [e] at this
    exact this
  · rw [List.pairwise_iff_getElem]
    intro i j hi2 hj hij
    rw [List.length_map, Array.length_toList] at hi2 hj
    have hle := hs i j (by omega) hj
    have kk : ∀ t (ht : t < xs.size), KK (dataKind h (ns.map fun n => kD (key n))) xs t = keyToks (kD (key (SrtO.iv (xs[t]).2))) := by
      intro t ht
      unfold KK
      rw [Array.getElem?_eq_getElem ht]
      show ((dataKind h (ns.map fun n => kD (key n))).keyOf (xs[t]).1).getD _ = _
      rw [keyE _ (pl.mem_iff.mp (Array.getElem_mem_toList ht))]
      rfl
    rw [kk i hi2, kk j hj] at hle
    have := toks_le hle
    simp only [List.getElem_map, Array.getElem_toList]
    exact this
end
end Cf

set_option Elab.async false
set_option linter.all false
set_option maxRecDepth 100000
namespace Cf
open PySem PySem.Spec PyProof.Rows L2
open LamX (CodeO TabS Tabs ExtN TabB lamEnv lamCx lam_make2)
open PySem.W (keyToks keyToksAll EachIs SortsAt dataKind AllAlike Sortable alike alikeAll)
section
variable {X : Cx} {pins : List (Addr × Obj)} {σ : L2.St} {H : Hp} {s : Shared} {key : Int → Int × Int}
theorem fp_at {b : Addr} {H' : Hp} (fp : FpOk X pins H b) (n : H' b = none) : FpOk X pins H' b := ⟨n, fp.2⟩
/-- behind the keys: the sort itself, and the list filled again -/
theorem key_end {A : Around} {E : Value → Shared → Prop} {a kS : Addr} {kA : Array Value} {vs : List Value} {ns : List Int} {e e1 : Nat} {P : PySem.Fin → Shared → Prop} (I : L2.Inv X pins σ H s) (hu : A.units + 64 < cLine)
    (fa : FpOk X pins H a) (fk : FpOk X pins H kS) (hka : kS ≠ a) (hk : s.heap.get? kS = some (seqObj "list" kA e)) (ha : s.heap.get? a = some (seqObj "list" #[] e1)) (hR : KeyR key H kA.toList ns) (hi : IntsAre vs ns) (hz : vs.length ≤ 1000)
    (h : ∀ s' (out : Array Value) (c : Nat) (ms : List Int), L2.Inv X pins σ H s' → s'.heap.get? a = some (seqObj "list" out c) → IntsAre out.toList ms → ms.Perm ns → ms.Pairwise (KLe key) → s'.heap.objs.size = s.heap.objs.size → P (.done (.ret .none)) s') :
    wpAny (model X.prog X.w) A (ksk_end a false vs.toArray e1 (.ref kS) kA) P E s := by
  have hr := hR.reads I
  have kl : kA.size = vs.length := by
    have h1 := hR.len
    have h2 := hi.length
    rw [Array.length_toList] at h1
    omega
  have big : (1000 : Nat) ≤ sizeLine := by decide
  have hzs : (kA.zip vs.toArray).size = vs.length := by rw [Array.size_zip, kl, List.size_toArray, Nat.min_self]
  have tail : ∀ st : SortSt, (arrOf st).Perm (kA.zip vs.toArray) → failedOf st = none → SortedToK (dataKind s.heap (ns.map fun n => kD (key n))) (arrOf st) (arrOf st).size → wpAny (model X.prog X.w) A (ksk_tail a false e1 (.ref kS) st) P E s := by
    intro st hp hf hs
    have e0 : kA = kA.toList.toArray := by simp
    rw [e0] at hp
    obtain ⟨ms, m1, m2, m3⟩ := out_sorted hr hi hp hs
    rw [← e0] at hp
    have hsz : ((arrOf st).map (·.2)).size = vs.length := by rw [Array.size_map, hp.size_eq, hzs]
    have s1 := Heap.SameBut.update s.heap kS (Obj.mapSeq fun _ => (#[] : Array Value))
    have na1 : (s.heap.update kS (Obj.mapSeq fun _ => (#[] : Array Value))).get? a = some (seqObj "list" #[] e1) := (s1.2 a hka.symm).trans ha
    have s2 := Heap.SameBut.update (s.heap.update kS (Obj.mapSeq fun _ => (#[] : Array Value))) a (Obj.mapSeq fun _ => (arrOf st).map (·.2))
    obtain ⟨c2, hc2⟩ : ∃ c2, ((s.heap.update kS (Obj.mapSeq fun _ => (#[] : Array Value))).update a (Obj.mapSeq fun _ => (arrOf st).map (·.2))).get? a = some (seqObj "list" ((arrOf st).map (·.2)) c2) := ⟨_, get?_update_seq na1 _⟩
    unfold ksk_tail
    try dsimp only
    refine wpAny_bind (listUpdate_at hk rfl ?_ (by rw [kl]; omega) (Nat.zero_le _))
    refine wpAny_bind (wpAny_letGo ?_)
    refine wpAny_bind (seqEpoch_at na1 rfl ?_)
    simp only [Bool.false_eq_true, if_false]
    refine wpAny_bind (listUpdate_at na1 rfl ?_ (Nat.zero_le _) (by rw [hsz]; omega))
    rw [hf]
    simp only [bne_self_eq_false, Bool.false_eq_true, if_false]
    refine wpAny_pure (h _ _ c2 ms ?_ hc2 m1 m2 m3 (by show (Heap.update _ _ _).objs.size = _; rw [Heap.size_update, Heap.size_update]))
    refine I.turnedL (ch := [kS, a]) (fun b o hb q => ?_) (fun b hb => ?_)
    · have h1 : b ≠ kS := fun z => hb (by simp [z])
      have h2 : b ≠ a := fun z => hb (by simp [z])
      exact (s2.2 b h2).trans ((s1.2 b h1).trans q)
    · simp only [List.mem_cons, List.not_mem_nil, or_false] at hb
      rcases hb with z | z
      · rw [z]; exact fk
      · rw [z]; exact fa
  have S : SortsAt X.prog X.w A s (dataKind s.heap (ns.map fun n => kD (key n))) kA.toList := by
    refine SortsAt.data hr (kD_alike ns) (kD_sortable ns) fun d hd => ?_
    obtain ⟨n, _, rfl⟩ := List.mem_map.mp hd
    have : (kD (key n)).depth ≤ 1 := by
      simp [kD, PyData.depth, PyData.depthAll]
    omega
  obtain ⟨kd, h1, h2⟩ := S.kind
  have h0 : KeysOf (dataKind s.heap (ns.map fun n => kD (key n))) (kA.zip vs.toArray) := PySem.W.keysOf_zip S.keys
  unfold ksk_end
  try dsimp only
  simp only [Bool.false_eq_true, if_false]
  by_cases hl2 : vs.toArray.size < 2
  · rw [if_pos hl2, if_pos hl2]
    refine wpAny_bind (wpAny_pure ?_)
    rw [StateT.run_pure]
    refine wpAny_bind (wpAny_pure ?_)
    try dsimp only
    refine tail (SortSt.mk' general' (kA.zip vs.toArray) #[] 7 none) (Array.Perm.refl _) rfl ?_
    intro i j hij hj
    have hj : j < (kA.zip vs.toArray).size := hj
    rw [hzs] at hj
    rw [List.size_toArray] at hl2
    have : i = j := by omega
    subst this
    exact KeyOrd.kle_refl _
  · rw [if_neg hl2, if_neg hl2]
    rw [List.size_toArray] at hl2
    have hkq : ∀ {Q : SortKind → Shared → Prop}, Q kd s → wpAny (model X.prog X.w) A (keyKind' kA) Q E s := by
      intro Q hQ
      have := h2 (by rw [Array.length_toList]; omega) E hQ
      rwa [Array.toArray_toList] at this
    refine wpAny_bind (hkq ?_)
    refine wpAny_bind (wpAny_mono (PyProof.Rows.H.wpS_sortRunsSt (κ := dataKind s.heap (ns.map fun n => kD (key n))) (kd := kd) (a₀ := kA.zip vs.toArray) (st := SortSt.mk' kd (kA.zip vs.toArray) #[] 7 none)
      (Q := fun _ st' => (arrOf st').Perm (kA.zip vs.toArray) ∧ failedOf st' = none ∧ SortedToK (dataKind s.heap (ns.map fun n => kD (key n))) (arrOf st') (kA.zip vs.toArray).size)
      h1 h0 ⟨Array.Perm.refl _, rfl, rfl⟩ rfl (Stable.refl _) (by rw [hzs]; omega) fun st' a1 a2 a3 _ => ⟨a1, a2, a3⟩) ?_ fun _ _ z => z)
    rintro ⟨⟨⟩, st'⟩ s' ⟨rfl, hp, hf, hs⟩
    try dsimp only
    exact tail st' hp hf (by rw [hp.size_eq]; exact hs)
/-- sorted(l, key=f), f the lambda of one parameter that was made, l the items vs -/
theorem sort_lam {k i : Nat} {l f c' : Addr} {pm ctv : Value} {params : Arguments} {body : Expr} {scope : Scope} {x : Str} {tb : TE} {vs : List Value} {ns : List Int} {Q : VK} {E : Value → Shared → Prop}
    (I : L2.Inv X pins σ H s) (L : Lam1 X.env.scope scope x) (hN : X.N.Nodup) (hi : X.N[i]? = some x) (hr : Room (k + 3) X.A)
    (hf : s.heap.get? f = some (PySem.W.kla_obj "<lambda>" (X.env.qual ++ "<lambda>") params body scope (cloFrom X.env.cells scope.names []) pm c' ctv)) (hfn : H f = none) (hfr : f ∉ frs X.stack)
    (hco : H c' = some (CodeO c' (X.env.qual ++ "<lambda>")))
    (hbind : ∀ u : Value, bindArgs (PySem.W.kla_fn "<lambda>" (X.env.qual ++ "<lambda>") params body scope (cloFrom X.env.cells scope.names []) pm (.ref c') ctv) ⟨[u], []⟩ = pure [(x, u)])
    (hbody : ∀ (s : Shared) (H : Hp), PE (lamC X X.A.in1.in1 X.stack s H scope f c') body tb)
    (hcol : ∀ {R : List Value → Shared → Prop}, R vs { s with heap := (s.heap.push (seqObj "list" #[] 0)).update s.heap.objs.size (Obj.mapSeq (· ++ vs.toArray)) } → wpAny (model X.prog X.w) X.A.in1 (collect (.ref l)) R (fun _ _ => False) s)
    (hv : IntsAre vs ns) (hz : vs.length ≤ 1000)
    (turn : ∀ n ∈ ns, ∀ H', Kp [] H H' → tb (σ.set i (some (.int n))) H' fun y H2 => Kp [] H' H2 ∧ ∃ T, y = .ref T ∧ H2 T = some (.tup [.int (key n).1, .int (key n).2]))
    (h : ∀ ms : List Int, ms.Perm ns → ms.Pairwise (KLe key) → New H (.lst (ms.map V.int)) Q) :
    wpAny (model X.prog X.w) X.A (call (.builtin "sorted") [.ref l] [(Str.ofString "key", .ref f)]) (EP X pins σ Q) E s := by
  have big : (1000 : Nat) ≤ sizeLine := by decide
  refine call_function_entry_kw kind_sorted plain_sorted entry_sorted (ksk_s1 _ _) ?_
  unfold Builtin.«sorted»
  refine wpAny_bind (m := checkCount "sorted" 1 1 _) (wpAny_pure ?_)
  refine wpAny_bind (wpAny_mono (hcol (R := fun us s' => us = vs ∧ s' = { s with heap := (s.heap.push (seqObj "list" #[] 0)).update s.heap.objs.size (Obj.mapSeq (· ++ vs.toArray)) }) ⟨rfl, rfl⟩) ?_ (fun _ _ z => z.elim))
  rintro us s0 ⟨rfl, rfl⟩
  refine wpAny_bind (wpAny_newList ?_ (by omega))
  have size1 : ((s.heap.push (seqObj "list" #[] 0)).update s.heap.objs.size (Obj.mapSeq (· ++ us.toArray))).objs.size = s.heap.objs.size + 1 := by
    rw [Heap.size_update, Heap.size_push]
  have hoL : (((s.heap.push (seqObj "list" #[] 0)).update s.heap.objs.size (Obj.mapSeq (· ++ us.toArray))).push (seqObj "list" us.toArray 0)).get? (s.heap.objs.size + 1) = some (seqObj "list" us.toArray 0) := by
    rw [← size1]
    exact Heap.get?_push_size _ rfl
  have keep0 : ∀ b o, s.heap.get? b = some o → (((s.heap.push (seqObj "list" #[] 0)).update s.heap.objs.size (Obj.mapSeq (· ++ us.toArray))).push (seqObj "list" us.toArray 0)).get? b = some o := by
    intro b o q
    have lt : b < s.heap.objs.size := Heap.lt_size q
    rw [Heap.get?_push_ne _ _ _ (by rw [size1]; exact Nat.ne_of_lt (Nat.lt_succ_of_lt lt)), Heap.get?_update_ne _ _ _ _ (Nat.ne_of_lt lt), Heap.get?_push_ne _ _ _ (Nat.ne_of_lt lt)]
    exact q
  show wpAny _ _ _ _ _ { s with heap := ((s.heap.push (seqObj "list" #[] 0)).update s.heap.objs.size (Obj.mapSeq (· ++ us.toArray))).push (seqObj "list" us.toArray 0) }
  rw [size1]
  have size2 : (((s.heap.push (seqObj "list" #[] 0)).update s.heap.objs.size (Obj.mapSeq (· ++ us.toArray))).push (seqObj "list" us.toArray 0)).objs.size = s.heap.objs.size + 2 := by
    rw [Heap.size_push, size1]
  generalize hh0 : ((s.heap.push (seqObj "list" #[] 0)).update s.heap.objs.size (Obj.mapSeq (· ++ us.toArray))).push (seqObj "list" us.toArray 0) = h0 at hoL keep0 size2
  generalize ha : s.heap.objs.size + 1 = a at hoL
  have fa : FpOk X pins H a := I.fpOk (by omega) (I.hok.fresh (by omega))
  have I0 : L2.Inv X pins σ H { s with heap := h0 } := I.kept (t' := s.toks) keep0
  refine wpAny_bind (wpAny_holding (wpAny_call_entry_kw slot_list_sort ⟨_, hoL, rfl⟩ entry_list_sort ?_ (ksk_l1 _ _)))
  show wpAny (model X.prog X.w) X.A.in1.in1 (Builtin.«list.sort» ⟨[.ref a], [(Str.ofString "key", .ref f)]⟩) _ _ _
  rw [ksk_t1]
  unfold ksk_tree
  obtain ⟨e1, ho1⟩ : ∃ e1, (h0.update a (Obj.mapSeq fun _ => (#[] : Array Value))).get? a = some (seqObj "list" #[] e1) := ⟨_, get?_update_seq hoL fun _ => #[]⟩
  have s1 := Heap.SameBut.update h0 a (Obj.mapSeq fun _ => (#[] : Array Value))
  refine wpAny_bind (listItems_at hoL rfl ?_)
  refine wpAny_bind (listUpdate_at hoL rfl ?_ (by rw [List.size_toArray]; omega) (Nat.zero_le _))
  refine wpAny_bind (seqEpoch_at ho1 rfl ?_)
  refine wpAny_bind (wpAny_newTuple ?_ (by show us.length ≤ _; omega))
  refine wpAny_bind (wpAny_newList ?_ (Nat.zero_le _))
  refine wpAny_holding ?_
  have size3 : ((h0.update a (Obj.mapSeq fun _ => (#[] : Array Value))).push (seqObj "tuple" us.toArray 0)).objs.size = s.heap.objs.size + 3 := by
    rw [Heap.size_push, Heap.size_update, size2]
  show wpAny _ _ (ksk_rest a (.ref f) false us.toArray e1 (.ref ((h0.update a (Obj.mapSeq fun _ => (#[] : Array Value))).push (seqObj "tuple" us.toArray 0)).objs.size)) _ _ { s with heap := ((h0.update a (Obj.mapSeq fun _ => (#[] : Array Value))).push (seqObj "tuple" us.toArray 0)).push (seqObj "list" #[] 0) }
  have hkS : (((h0.update a (Obj.mapSeq fun _ => (#[] : Array Value))).push (seqObj "tuple" us.toArray 0)).push (seqObj "list" #[] 0)).get? (s.heap.objs.size + 3) = some (seqObj "list" #[] 0) := by
    rw [← size3]
    exact Heap.get?_push_size _ rfl
  rw [size3]
  have keep1 : ∀ b o, b ≠ a → h0.get? b = some o → (((h0.update a (Obj.mapSeq fun _ => (#[] : Array Value))).push (seqObj "tuple" us.toArray 0)).push (seqObj "list" #[] 0)).get? b = some o := by
    intro b o nb q
    exact Heap.get?_push_of_some _ (Heap.get?_push_of_some _ ((s1.2 b nb).trans q))
  have ho3 : (((h0.update a (Obj.mapSeq fun _ => (#[] : Array Value))).push (seqObj "tuple" us.toArray 0)).push (seqObj "list" #[] 0)).get? a = some (seqObj "list" #[] e1) := Heap.get?_push_of_some _ (Heap.get?_push_of_some _ ho1)
  generalize hh1 : ((h0.update a (Obj.mapSeq fun _ => (#[] : Array Value))).push (seqObj "tuple" us.toArray 0)).push (seqObj "list" #[] 0) = h1 at hkS keep1 ho3
  generalize hkk : s.heap.objs.size + 3 = kS at hkS
  have fk : FpOk X pins H kS := I.fpOk (by omega) (I.hok.fresh (by omega))
  have hka : kS ≠ a := by omega
  have I1 := L2.Inv.turnedL (s := { s with heap := h0 }) (h' := h1) (t' := s.toks) (ch := [a]) I0 (fun b o hb q => keep1 b o (fun z => hb (by simp [z])) q) (fun b hb => by rw [List.mem_singleton.mp hb]; exact fa)
  have hfa : f ≠ a := Nat.ne_of_lt (by rw [← ha]; exact Nat.lt_succ_of_lt (Heap.lt_size hf))
  have hf1 := keep1 f _ hfa (keep0 f _ hf)
  unfold ksk_rest
  refine wpAny_bind (wpAny_rule ?_)
  first
    | rw [List.forIn_toArray]
    | (rw [← Array.forIn_toList]; simp only [List.toList_toArray])
  refine wpAny_bind (ksk_fold (fun j s' => ∃ (H' : Hp) (kA : Array Value) (e : Nat), L2.Inv X pins σ H' s' ∧ Kp [] H H' ∧
      s'.heap.get? f = some (PySem.W.kla_obj "<lambda>" (X.env.qual ++ "<lambda>") params body scope (cloFrom X.env.cells scope.names []) pm c' ctv) ∧ s'.heap.get? kS = some (seqObj "list" kA e) ∧ s'.heap.get? a = some (seqObj "list" #[] e1) ∧
      H' f = none ∧ H' kS = none ∧ H' a = none ∧ KeyR key H' kA.toList (ns.take j)) us 0 _ ⟨H, #[], 0, I1, Kp.refl, hf1, hkS, ho3, hfn, fk.1, fa.1, .nil⟩ ?step ?done)
  case step =>
    rintro j u s' hu ⟨H', kA, e, J, kp, jf, jk, ja, nf, nk, na, jR⟩
    simp only [Nat.zero_add] at jR ⊢
    obtain ⟨n, t, rfl, hn⟩ : ∃ n t, u = Value.int n t ∧ ns[j]? = some n := by
      have go : ∀ (us : List Value) (ns : List Int) (j : Nat), IntsAre us ns → us[j]? = some u → ∃ n t, u = Value.int n t ∧ ns[j]? = some n := by
        intro us
        induction us with
        | nil => intro ns j _ h; simp at h
        | cons w us ih =>
          intro ns j hh h
          cases hh with
          | cons n0 t0 hh =>
            cases j with
            | zero => exact ⟨n0, t0, (Option.some.inj h).symm, rfl⟩
            | succ j =>
              obtain ⟨n, t, a1, a2⟩ := ih _ j hh (by simpa using h)
              exact ⟨n, t, a1, by simpa using a2⟩
      exact go us ns j hv hu
    have hmem : n ∈ ns := List.mem_of_getElem? hn
    have kal : kA.size ≤ us.length := by
      have h1 := jR.len
      rw [Array.length_toList, List.length_take] at h1
      have h2 := hv.length
      omega
    obtain ⟨⟨oc, cvs, tq, q1, q2, q3⟩, _, _⟩ := J.hok c' _ (kp.at0 hco)
    refine wpAny_bind (wpAny_attempt (wpAny_mono (lam1_call (k := k) J L hN hi hr jf ⟨oc, cvs, tq, q1, q2, q3⟩ (hbind _) (hbody s' H') (v := .int n) ⟨t, rfl⟩ (turn n hmem H' kp)) (fun y s2 hq => ?_) fun _ _ z => z))
    obtain ⟨z, H2, J2, rv, ⟨k2, T, ez, hT⟩, un⟩ := hq
    subst ez
    cases rv
    try dsimp only
    have fkJ := out_frs J (fp_at fk nk)
    have faJ := out_frs J (fp_at fa na)
    have jf2 := un.keep f _ jf nf hfr (by simp)
    have jk2 := un.keep kS _ jk nk fkJ (by simp)
    have ja2 := un.keep a _ ja na faJ (by simp)
    have nf2 := un.free f _ jf nf (by simp)
    have nk2 := un.free kS _ jk nk (by simp)
    have na2 := un.free a _ ja na (by simp)
    have sB := Heap.SameBut.update s2.heap kS (Obj.mapSeq (·.push (Value.ref T)))
    obtain ⟨c2, hc2⟩ : ∃ c2, (s2.heap.update kS (Obj.mapSeq (·.push (Value.ref T)))).get? kS = some (seqObj "list" (kA.push (Value.ref T)) c2) := ⟨_, get?_update_seq jk2 (·.push (Value.ref T))⟩
    refine wpAny_bind (listUpdate_at jk2 rfl ?_ (by omega) (Nat.le_trans (Nat.le_of_eq (Array.size_push ..)) (by omega)))
    have hfk : f ≠ kS := Nat.ne_of_lt (Nat.lt_of_lt_of_le (Heap.lt_size hf) (by rw [← hkk]; exact Nat.le_add_right _ _))
    refine wpAny_pure ⟨rfl, H2, kA.push (Value.ref T), c2, ?_, kp.trans k2, (sB.2 f hfk).trans jf2, hc2, (sB.2 a hka.symm).trans ja2, nf2, nk2, na2, ?_⟩
    · exact J2.turnedL (t' := s2.toks) (ch := [kS]) (fun b o hb q => (sB.2 b (fun z => hb (by simp [z]))).trans q) (fun b hb => by rw [List.mem_singleton.mp hb]; exact fp_at fk nk2)
    · have e3 : ns.take (j + 1) = ns.take j ++ [n] := by
        rw [List.take_add_one, hn]
        rfl
      rw [e3, Array.toList_push]
      exact (jR.kp0 k2).snoc hT
  case done =>
    rintro s' ⟨H', kA, e, J, kp, jf, jk, ja, nf, nk, na, jR⟩
    have hl := hv.length
    rw [List.take_of_length_le (by omega)] at jR
    refine wpAny_bind (listItems_at jk rfl ?_)
    have hu2 : X.A.in1.in1.units + 64 < cLine := ((hr.in1).in1).units
    refine key_end (key := key) J hu2 (fp_at fa na) (fp_at fk nk) hka jk ja jR hv hz ?_
    intro s3 out c ms J3 hout m1 m2 m3 _
    refine ⟨_, rfl, wpAny_pure ⟨_, rfl, ?_⟩⟩
    have olen : out.size ≤ 1000 := by
      have h1 := m1.length
      have h2 := m2.length_eq
      rw [Array.length_toList] at h1
      omega
    have nH : H a = none := fa.1
    refine ⟨.ref a, upd H' a (.lst (ms.map V.int)), ?_, rfl, h ms m2 m3 a _ nH (kp.trans (Kp.new na)) upd_same⟩
    refine L2.Inv.take (h' := s3.heap) (t' := s3.toks) J3 (fun b ob _ q => q) (fp_at fa na) ?_
    · exact ⟨by rw [List.length_map]; have h1 := m1.length; rw [Array.length_toList] at h1; omega, out.toList, c, vals_of_ints m1, by rw [Array.toArray_toList]; exact hout⟩
end
end Cf

set_option Elab.async false
set_option linter.all false
set_option maxRecDepth 100000
namespace Cf
open PySem PySem.Spec PyProof.Rows L2
open LamX (CodeO TabS Tabs ExtN TabB lamEnv lamCx lam_make2)
/-! ### heaps that grow, tables of code objects among them -/
/-- all but the tables stay, and the tables of T are good ones -/
structure Kt (T : List (Addr × Str)) (H H' : Hp) : Prop where
  ext : ExtN H H'
  tab : Tabs T H → Tabs T H'
/-- nothing is there, but a table at most -/
def Nt (H : Hp) (p : Addr) : Prop := ∀ o, H p = some o → ∃ ps, o = .tbl ps
section
variable {K : PySem.W.Frag} {T : List (Addr × Str)} {H H1 H2 : Hp} {p b : Addr} {xs : List V}
theorem nt0 (h : H p = none) : Nt H p := fun o e => by
  rw [h] at e
  cases e
theorem Kt.refl : Kt T H H := ⟨ExtN.refl H, fun h => h⟩
theorem Kt.trans (a : Kt T H H1) (c : Kt T H1 H2) : Kt T H H2 := ⟨a.ext.trans c.ext, fun h => c.tab (a.tab h)⟩
theorem Kp.kt (k : Kp [] H H1) : Kt T H H1 := ⟨ExtN.of fun b o e => k.at0 e, fun h => h.ext fun b o e => k.at0 e⟩
theorem Kt.kp (a : Kt T H H1) (k : Kp [] H1 H2) : Kt T H H2 := a.trans k.kt
theorem Kt.nt (a : Kt T H H1) (h : Nt H1 p) : Nt H p := fun o e => by
  by_cases z : ∃ ps, o = .tbl ps
  · exact z
  · exact h o (a.ext p o e fun ps w => z ⟨ps, w⟩)
theorem Kt.nt0 (a : Kt T H H1) (h : H1 p = none) : Nt H p := a.nt (Cf.nt0 h)
theorem Kt.atL (a : Kt T H H1) (h : H p = some (.lst xs)) : H1 p = some (.lst xs) := a.ext p _ h fun ps z => nomatch z
theorem Kt.atT (a : Kt T H H1) (h : H p = some (.tup xs)) : H1 p = some (.tup xs) := a.ext p _ h fun ps z => nomatch z
theorem Kt.tup0 (a : Kt T H H1) (h : SqT K H p xs) : SqT K H1 p xs := by
  rcases h with (h | ⟨o, h⟩) | h
  · exact .inl (.inl (a.atT h))
  · exact .inl (.inr ⟨o, a.ext p _ h fun ps z => nomatch z⟩)
  · exact .inr h
theorem Kt.lst0 (a : Kt T H H1) (h : SqL K H p xs) : SqL K H1 p xs := by
  rcases h with (h | ⟨o, h⟩) | h
  · exact .inl (.inl (a.atL h))
  · exact .inl (.inr ⟨o, a.ext p _ h fun ps z => nomatch z⟩)
  · exact .inr h
theorem Kt.plt (a : Kt T H H1) (h : PlT H p) : PlT H1 p := by
  obtain ⟨o, u, e, d⟩ := h
  exact ⟨o, u, a.ext p _ e (fun ps z => nomatch z), d⟩
/-- a list that was not there before is changed -/
theorem Kt.own (a : Kt T H H1) (z : Nt H p) (hl : H1 p = some (.lst xs)) (m : Kp [p] H1 H2) : Kt T H H2 := by
  have np : ∀ q o, H1 q = some o → (∀ ys, o ≠ .lst ys) → q ≠ p := fun q o e n w => by
    rw [w, hl] at e
    cases e
    exact n _ rfl
  refine ⟨fun q o e n => ?_, fun hT r hr => ?_⟩
  · have hq : q ≠ p := fun w => by
      rw [w] at e
      obtain ⟨ps, hp⟩ := z o e
      exact n ps hp
    exact m.at1 hq (a.ext q o e n)
  · obtain ⟨ps, h1, h3, h4⟩ := a.tab hT r hr
    refine ⟨ps, m.at1 (np _ _ h1 fun ys w => nomatch w) h1, h3, fun pos cv hc => ?_⟩
    obtain ⟨c, e1, e2⟩ := h4 pos cv hc
    refine ⟨c, e1, m.at1 (np _ _ e2 fun ys w => ?_) e2⟩
    unfold LamX.CodeO at w
    cases w
theorem Kt.md (a : Kt T H H1) (z : Nt H p) (hl : H1 p = some (.lst xs)) (m : Md p H1 H2) : Kt T H H2 := a.own z hl m.kp
end
section
variable {K : PySem.W.Frag} {T : List (Addr × Str)} {H H' : Hp}
mutual
theorem dp_kt (k : Kt T H H') : ∀ {v : V} {d : PyData}, Dp K H v d → Dp K H' v d
  | _, _, .non => .non
  | _, _, .bl b => .bl b
  | _, _, .int i => .int i
  | _, _, .str x => .str x
  | _, _, .lst s h => .lst (k.lst0 s) (dps_kt k h)
  | _, _, .tup s h => .tup (k.tup0 s) (dps_kt k h)
theorem dps_kt (k : Kt T H H') : ∀ {vs : List V} {ds : List PyData}, DpAll K H vs ds → DpAll K H' vs ds
  | _, _, .nil => .nil
  | _, _, .cons h t => .cons (dp_kt k h) (dps_kt k t)
end
theorem Rw.kt {xs : List V} {rs : List (List Int)} (h : Rw K H xs rs) (k : Kt T H H') : Rw K H' xs rs := h.go fun _ _ z => k.tup0 z
end
/-! ### sorted(xs, key=lambda x: ..) -/
def tSortK (T : List (Addr × Str)) (K : PySem.W.Frag) (i : Nat) (ta : TA) (tb : TE) : TE := fun σ H Q => ta σ H fun vs H1 => ∃ (p : Addr) (ns : List Int) (key : Int → Int × Int), vs = [.ref p] ∧ SqL K H1 p (ns.map V.int) ∧ ns.length ≤ 1000 ∧ Tabs T H1 ∧
  ∀ H2, Kt T H1 H2 → (∀ n ∈ ns, ∀ H', Kp [] H2 H' → tb (σ.set i (some (.int n))) H' fun y H3 => Kp [] H' H3 ∧ ∃ U, y = .ref U ∧ H3 U = some (.tup [.int (key n).1, .int (key n).2])) ∧
    ∀ ms : List Int, ms.Perm ns → ms.Pairwise (KLe key) → New H2 (.lst (ms.map V.int)) Q
section
variable {X : Cx}
theorem pe_sortK {T : List (Addr × Str)} {K : PySem.W.Frag} {c P : Addr} {k i : Nat} {x : Str} {e : Expr} {ta : TA} {tb : TE} {params : Arguments} {body : Expr} {scope : Scope} {p lpos kpos pos : Pos} (eK : X.K = K) (hc : X.calm = true)
    (TB : TabB X.base X.mg c P) (hcode : X.env.code = .ref c) (hmT : (P, X.env.qual ++ "<lambda>") ∈ T) (hu : ∀ r ∈ T, r.1 = P → r.2 = X.env.qual ++ "<lambda>") (hr : Room (k + 3) X.A) (L : Lam1 X.env.scope scope x) (hN : X.N.Nodup) (hi : X.N[i]? = some x)
    (hdef : defaultsOf params X.env = ([], []))
    (hbind : ∀ (q : Str) (cl : List (Str × Addr)) (pm cv ctv u : Value), bindArgs (PySem.W.kla_fn "<lambda>" q params body scope cl pm cv ctv) ⟨[u], []⟩ = pure [(x, u)])
    (hbody : ∀ (s : Shared) (H : Hp) (f c' : Addr), PE (lamC X X.A.in1.in1 X.stack s H scope f c') body tb)
    (hg : Gl X "sorted") (hm : X.mg "sorted" = none) (ha : PA X [e] ta)
    (he : backTo pos (starEach [e] X.env) = (false, eval e X.env) :: backTo pos (starEach [] X.env) := by rfl) (hpl : (backTo pos (starEach [e] X.env)).any (·.1) = false := by rfl)
    (hall : (backToKw pos (keywordEach [⟨some "key", .Lambda params body scope lpos, kpos⟩] X.env)).all (·.1.isSome) = true := by rfl) (hno : (backToKw pos (keywordEach [⟨some "key", .Lambda params body scope lpos, kpos⟩] X.env)).any (·.1.isNone) = false := by rfl)
    (hks : (backToKw pos (keywordEach [⟨some "key", .Lambda params body scope lpos, kpos⟩] X.env)).filterMap (·.1) = [Str.ofString "key"] := by rfl) :
    PE X (.Call (.Name "sorted" p) [e] [⟨some "key", .Lambda params body scope lpos, kpos⟩] pos) (tSortK T K i ta tb) := by
  subst eK
  refine ⟨fun pins s σ H Q I h => ?_⟩
  refine wpAny_Call_Name_kw (ld_blt I hg hm PyProof.Rows.boot_sorted ?_)
  refine PyProof.Rows.callWith_kw (thn (ha.run pos pins s σ H _ I h) ?_) he hpl hall hno
  rintro us s1 ⟨vs, H1, I1, r1, pl, ns, key, ev, hq, hz, hT, w⟩
  subst ev
  obtain ⟨u, rfl, ru⟩ := vals1 r1
  cases ru
  show wpAny _ _ (evalAll ((do let v ← eval (.Lambda params body scope lpos) X.env; standAt pos; pure v) :: (backToKw pos (keywordEach [] X.env)).map (·.2))) _ _ s1
  refine wpAny_evalAll_cons (wpAny_bind ?_)
  refine lam_make2 I1 TB hcode hmT hu hT hdef (fun y hy ey => ?_) fun f c' pm ctv H2 s2 I2 eN T2 hf hfn hfr hco => ?_
  · rcases L.free y hy ey with z | z
    · exact I1.ok.has _ (.inl z)
    · exact I1.ok.has _ (.inr z)
  refine wpAny_bind (wpAny_standAt (wpAny_pure (wpAny_evalAll_nil ?_)))
  rw [hks]
  show wpAny _ _ (call (.builtin "sorted") [.ref pl] [(Str.ofString "key", .ref f)]) _ _ s2
  have kt : Kt T H1 H2 := ⟨eN, fun _ => T2⟩
  obtain ⟨wt, wq⟩ := w H2 kt
  obtain ⟨its, rv, pl2, hz2⟩ := I2.list (kt.lst0 hq)
  have hv := rv.ints
  have hlen : its.length ≤ 1000 := by
    rw [hv.length]
    exact hz
  exact sort_lam (k := k) (key := key) I2 L hN hi hr hf hfn hfr hco (fun u => hbind _ _ _ _ _ u) (fun s H => hbody s H f c') (fun {R} hR => collect_list pl2.isList hR (Nat.le_trans hlen (by decide))) hv hlen wt wq
end
end Cf

set_option Elab.async false
set_option linter.all false
set_option maxRecDepth 100000
namespace Cf
open PySem PySem.Spec PyProof.Rows L2
open LamX (CodeO TabS Tabs ExtN TabB)
section
variable {P : Program} {w : World} {K : PySem.W.Frag} {mg : Str → Option Value} {base : Heap}
/-- a def that lets no exception out, its code object known -/
theorem okC {k : Nat} {x qual : Str} {st : Stmt} {f c : Addr} {fd : FuncData} {N ps : List Str} {sp : Sp} (F : Fun K x qual st f fd) (hcd : fd.code = .ref c) (S : FnScope N ps (defScope st))
    (len : ∀ vs H Q E, sp vs H Q E → vs.length = ps.length)
    (body : ∀ (A : Around) (outer : List Env) (s : Shared) (H : Hp) (vs : List V) (Q : VK) (E : XK),
      (A.deeper (envOfC qual (defScope st) s.heap.objs.size f (.ref c))).guards = some [] → Room k (A.deeper (envOfC qual (defScope st) s.heap.objs.size f (.ref c))) → sp vs H Q E →
      ∃ t, PSs (cxOf CX0 P w K mg base N qual (defScope st) f (.ref c) A outer s H E).nox (defBody st) t ∧ t { nx := fun _ H' => Q .non H', rt := Q } (start N vs) H) :
    FnG P w K mg base CX0 (k + 1) f fd ps sp := by
  have F2 := F
  obtain ⟨oc, od, kV, doc, pm, an, cd, ct, sl, rfl, look, code⟩ := F2.ex
  have hcd : cd = .ref c := hcd
  subst hcd
  constructor
  · exact len
  intro A outer s H args us vs Q E room gd env bind rel wish
  have hlen := len vs H Q E wish
  have keeps : ∀ b o, base.get? b = some o → s.heap.get? b = some o := fun b o e => (env.bs b o e).1
  have inK : K.In s.heap := env.mod.kin.keeps keeps
  have noLim : s.heap.NoLimit := env.mod.nolimit.keeps keeps
  refine codeAny_call_function room.depth (inK f _ look) rfl S.co S.gen rfl (PySem.W.codeRec_of inK code) (bind _ _ _ _ ?_)
  refine wpAny_newFunctionEnv_cells S.kind ?_ ?_
  · rintro ⟨n, v⟩ hy
    cases S.par n (List.of_mem_zip hy).1 with
    | inl q => exact Or.inl q
    | inr q => exact Or.inr ⟨q, PySem.W.cellsFrom_some _ _ _ (Or.inl q)⟩
  · intro en hen s1 inCall
    subst hen
    refine ⟨noLim.keeps inCall.toInCall.keep, codeAny_func ?_⟩
    obtain ⟨t, judged, reading⟩ := body A outer s H vs Q E gd (room.deeper _) wish
    have I0 := inv_start (CX := CX0) (E := E) S room.hd env hlen rel inCall
    have ends : ∀ {σ' : L2.St} {H' : Hp} {v : V} {u : Value} {s' : Shared}, L2.Inv (cxOf CX0 P w K mg base N qual (defScope st) f (.ref c) A outer s H E) [] σ' H' s' → RelV v u → Q v H' → CE outer P w H s Q u s' := by
      intro σ' H' v u s' J rv q
      exact ⟨v, H', J.os, J.bare, J.base, J.hok, rv, q⟩
    refine wpAny_mono (judged.nox.run [] s1 (start N vs) H _ I0 reading) ?_ (fun _ _ h => h)
    intro fl s' hs
    match fl, hs with
    | .ret u, hs =>
      obtain ⟨v, σ', H', J, rv, q⟩ := hs
      exact ends J rv q
    | .next, hs =>
      obtain ⟨σ', H', J, q⟩ := hs
      exact ends (v := V.non) (u := Value.none) J rfl q
    | .brk, hs =>
      obtain ⟨_, _, _, q⟩ := hs
      exact q.elim
    | .cont, hs =>
      obtain ⟨_, _, _, q⟩ := hs
      exact q.elim
end
section
variable {P : Program} {w : World} {K : PySem.W.Frag} {mg mb : Str → Option Value} {CX : CXT} {k : Nat} {fa a : Addr} {fd : FuncData} {x : Str} {sp : Sp}
/-- the law's own call; cs: code objects, and the tables of the lambdas in them, which are empty at first -/
theorem law_callT {cs : List (Addr × Addr)} {s0 : Shared} {vs : List Value} {ns : List Int}
    (inK : K.In s0.heap) (glb : s0.heap.Ns mainGlobals mg) (blt : s0.heap.Ns builtinsNs mb) (bb : ∀ x : Str, x ≠ "__name__" → mb x = bootBuiltins x) (lim : s0.heap.NoLimit) (hg : s0.gens = #[])
    (hT : ∀ t ∈ cs, s0.heap.get? t.2 = some { cls := .none, data := .fields #[] }) (nT : ∀ t ∈ cs, K.lookup t.2 = none) (hC : ∀ t ∈ cs, PySem.W.CodeHd s0.heap t.1 t.2)
    (hbm : ∃ (bm : Addr) (ob : Obj), mg "__builtins__" = some (.ref bm) ∧ bm ≠ builtinsNs ∧ s0.heap.get? bm = some ob ∧ ob.cls = .type "module" ∧ ob.dict = some builtinsNs ∧ ob.data = .plain)
    (ha : s0.heap.get? a = some { cls := .type "list", data := .seq vs.toArray }) (hi : IntsAre vs ns) (hl : ns.length ≤ sizeLine) (hr : Room k callerA)
    (F : ∀ base : Heap, K.In base → base.Ns mainGlobals mg → (∀ t ∈ cs, TabB base mg t.1 t.2) → FnG P w K mg base CX k fa fd [x] sp)
    (bind : ∀ (s : Shared) (u : Value), BindsTo s fd ⟨[u], []⟩ [(x, u)])
    (wish : ∀ H : Hp, (∀ t ∈ cs, H t.2 = some (.tbl #[])) → SqL K H a (ns.map V.int) → sp [.ref a] H (fun v _ => v = .bl true) fun _ _ _ => False)
    (noX : ∀ H e s', CX [] H s0 (fun _ _ _ => False) e s' → False) :
    codeAny (model P w) callerA (.call (.ref fa) ⟨[.ref a], []⟩) (fun r s' => r = .ok (.ret (.bool true)) ∧ OldK s0.heap s'.heap ∧ s'.os = s0.os ∧ AllBare s'.gens) s0 := by
  have rel := vals_ints hi
  let ts : List Addr := cs.map (·.2)
  have tsT : ∀ b ∈ ts, s0.heap.get? b = some { cls := .none, data := .fields #[] } := by
    intro b hb
    obtain ⟨t, ht, rfl⟩ := List.mem_map.mp hb
    exact hT t ht
  have tsK : ∀ b ∈ ts, K.lookup b = none := by
    intro b hb
    obtain ⟨t, ht, rfl⟩ := List.mem_map.mp hb
    exact nT t ht
  have tsM : ∀ t ∈ cs, t.2 ∈ ts := fun t ht => List.mem_map.mpr ⟨t, ht, rfl⟩
  have aTs : a ∉ ts := fun z => by
    have q := tsT a z
    rw [ha] at q
    have q2 := congrArg Obj.data (Option.some.inj q)
    cases q2
  have main : ∀ H : Hp, (∀ t ∈ cs, H t.2 = some (.tbl #[])) → (∀ b, H b = none ∨ b ∈ ts ∨ ∃ o xs, H b = some (.frz o (.lst xs))) → SqL K H a (ns.map V.int) → HOk P w H s0.heap →
      (∀ b, H b ≠ none → b = a ∨ b ∈ ts) → (H a ≠ none → K.lookup a = none) →
      codeAny (model P w) callerA (.call (.ref fa) ⟨[.ref a], []⟩) (fun r s' => r = .ok (.ret (.bool true)) ∧ OldK s0.heap s'.heap ∧ s'.os = s0.os ∧ AllBare s'.gens) s0 := by
    intro H hHT only sq hok one unK
    have out : ∀ {b : Addr} {o : Obj}, s0.heap.get? b = some o → (∀ us n, o.data ≠ .seq us n) → o.data ≠ .fields #[] → H b = none := by
      intro b o e n1 n2
      cases q : H b with
      | none => rfl
      | some u =>
        exfalso
        rcases one b (by rw [q]; simp) with z | z
        · rw [z, ha] at e
          cases e
          exact n1 _ _ rfl
        · rw [tsT b z] at e
          cases e
          exact n2 rfl
    have nsB : ∀ {b : Addr} {m : Str → Option Value}, s0.heap.Ns b m → (hidT s0.heap H).Ns b m := by
      rintro b m ⟨o, es, ep, e, d, r⟩
      refine ⟨o, es, ep, hidT_get e (out e (fun us n z => ?_) (fun z => ?_)), d, r⟩
      · rw [d] at z
        cases z
      · rw [d] at z
        cases z
    have kB : K.In (hidT s0.heap H) := by
      intro b o e
      refine hidT_get (inK b o e) ?_
      cases q : H b with
      | none => rfl
      | some u =>
        exfalso
        rcases one b (by rw [q]; simp) with z | z
        · rw [z] at q e
          rw [unK (by rw [q]; simp)] at e
          cases e
        · rw [tsK b z] at e
          cases e
    have limB : (hidT s0.heap H).NoLimit := by
      obtain ⟨mc, h1, h2⟩ := lim
      exact ⟨mc, nsB h1, h2⟩
    have tabs : ∀ t ∈ cs, TabB (hidT s0.heap H) mg t.1 t.2 := by
      intro t ht
      have tT := hT t ht
      refine ⟨?_, ?_, ?_⟩
      · obtain ⟨o, us, fl, tf, fg, tg, inF, tx, tt, e1, q1, q2, q3, q4⟩ := hC t ht
        refine ⟨o, us, fl, tf, fg, tg, inF, tx, tt, hidT_get e1 (out e1 (fun vs n z => ?_) (fun z => ?_)), q1, q2, q3, q4⟩
        · rw [q2] at z
          cases z
        · rw [q2] at z
          cases z
          simp at q3
      · obtain ⟨bm, ob, b1, b2, b3, b4, b5, b6⟩ := hbm
        refine ⟨bm, ob, b1, b2, fun z => ?_, fun z => ?_, hidT_get b3 (out b3 (fun vs n z => ?_) (fun z => ?_)), b4, b5, b6⟩
        · obtain ⟨o, es, ep, e, d, _⟩ := glb
          rw [z, e] at b3
          cases b3
          rw [d] at b6
          cases b6
        · rw [z, tT] at b3
          cases b3
          cases b6
        · rw [b6] at z
          cases z
        · rw [b6] at z
          cases z
      · intro z
        obtain ⟨o, es, ep, e, d, _⟩ := glb
        rw [z, tT] at e
        cases e
        cases d
    have env : Env0 P w K mg (hidT s0.heap H) callerA [] s0 H := by
      refine ⟨rfl, ⟨kB, nsB glb, ⟨mb, nsB blt, bb⟩, limB⟩, fun b o e => of_hidT e, Nat.le_of_eq (hidT_size _ _), trivial, ?_, hok, .of_eq hg⟩
      intro b hb
      cases hb
    have run := (F _ kB (nsB glb) tabs).run callerA [] s0 H ⟨[.ref a], []⟩ [.ref a] [.ref a] _ _ hr rfl env (bind s0 (.ref a)) (.cons rfl .nil) (wish H hHT sq)
    refine codeAny_mono run ?_
    intro res s' h
    match res, h with
    | .error e, h => exact (noX H e s' h).elim
    | .ok .next, h => exact h.elim
    | .ok .brk, h => exact h.elim
    | .ok .cont, h => exact h.elim
    | .ok (.ret u), h =>
      obtain ⟨v, H', os, bare, un, hok', rv, q⟩ := h
      have q' : v = .bl true := q
      subst q'
      have eu : u = Value.bool true := rv
      subst eu
      have old : ∀ b o, b ∉ ts → s0.heap.get? b = some o → s'.heap.get? b = some o := by
        intro b o nb e
        cases z : H b with
        | none => exact un.keep b o e z (fun hb => nomatch hb) (fun hb => nomatch hb)
        | some u =>
          rcases only b with y | y | ⟨ob, xs, y⟩
          · rw [z] at y
            cases y
          · exact absurd y nb
          · obtain ⟨e1, _⟩ := hok b _ y
            obtain ⟨e2, _⟩ := hok' b _ (un.frzs b ob _ y)
            rw [e] at e1
            cases e1
            exact e2
      have grown : ∀ b ∈ ts, ∃ (c : Addr) (more : Array Value), (c, b) ∈ cs ∧ s'.heap.get? b = some { cls := .none, data := .fields more } := by
        intro b hb
        obtain ⟨t, ht, rfl⟩ := List.mem_map.mp hb
        obtain ⟨more, z⟩ := un.tbls t.2 #[] (hHT t ht)
        exact ⟨t.1, _, ht, hok' t.2 _ z⟩
      refine ⟨rfl, ⟨?_, ?_⟩, os, bare⟩
      · intro b o e
        by_cases hb : b ∈ ts
        · obtain ⟨c, more, hc, hm⟩ := grown b hb
          have e2 := tsT b hb
          rw [e] at e2
          cases e2
          exact .inr (.inl ⟨((hC _ hc).tab (hT _ hc)).isCodeTable, rfl, #[], more, rfl, by rw [Array.empty_append]; exact hm⟩)
        · exact .inl (old b o hb e)
      · intro b o e
        by_cases hb : b ∈ ts
        · obtain ⟨c, more, hc, hm⟩ := grown b hb
          exact ⟨_, hm⟩
        · exact ⟨o, old b o hb e⟩
  have put : ∀ (u : Option HO) (b : Addr), (if b = a then u else if b ∈ ts then some (HO.tbl #[]) else none) = if b = a then u else if b ∈ ts then some (HO.tbl #[]) else none := fun _ _ => rfl
  have go : ∀ u : Option HO, (u = none ∨ ∃ o xs, u = some (.frz o (.lst xs))) → SqL K (fun b => if b = a then u else if b ∈ ts then some (HO.tbl #[]) else none) a (ns.map V.int) →
      (∀ o, u = some o → ObjOk P w (fun b => if b = a then u else if b ∈ ts then some (HO.tbl #[]) else none) s0.heap a o) → (u ≠ none → K.lookup a = none) →
      codeAny (model P w) callerA (.call (.ref fa) ⟨[.ref a], []⟩) (fun r s' => r = .ok (.ret (.bool true)) ∧ OldK s0.heap s'.heap ∧ s'.os = s0.os ∧ AllBare s'.gens) s0 := by
    intro u hu sq ok unK
    have atA : (fun b => if b = a then u else if b ∈ ts then some (HO.tbl #[]) else none) a = u := if_pos rfl
    have atT : ∀ b ∈ ts, (fun b => if b = a then u else if b ∈ ts then some (HO.tbl #[]) else none) b = some (.tbl #[]) := fun b hb =>
      (if_neg (fun z => aTs (by rw [← z]; exact hb))).trans (if_pos hb)
    have atN : ∀ b, b ≠ a → b ∉ ts → (fun b => if b = a then u else if b ∈ ts then some (HO.tbl #[]) else none) b = none := fun b h1 h2 => (if_neg h1).trans (if_neg h2)
    refine main _ (fun t ht => atT _ (tsM t ht)) (fun b => ?_) sq (fun b o z => ?_) (fun b z => ?_) (fun z => unK (by rw [← atA]; exact z))
    · by_cases h1 : b = a
      · rw [h1]
        rcases hu with hu | ⟨o, xs, hu⟩
        · exact .inl (atA.trans hu)
        · exact .inr (.inr ⟨o, xs, atA.trans hu⟩)
      · by_cases h2 : b ∈ ts
        · exact .inr (.inl h2)
        · exact .inl (atN b h1 h2)
    · by_cases h1 : b = a
      · rw [h1] at z ⊢
        exact ok o (atA.symm.trans z)
      · by_cases h2 : b ∈ ts
        · have z2 := (atT b h2).symm.trans z
          cases z2
          exact tsT b h2
        · have z2 := (atN b h1 h2).symm.trans z
          cases z2
    · by_cases h1 : b = a
      · exact .inl h1
      · by_cases h2 : b ∈ ts
        · exact .inr h2
        · exact absurd (atN b h1 h2) z
  cases hk : K.lookup a with
  | some o =>
    have e := inK a o hk
    rw [ha] at e
    cases e
    refine go none (.inl rfl) (.inr ⟨_, vs.toArray, _, hk, rfl, rfl, rfl, ?_, by simpa using rel⟩) (fun o z => nomatch z) (fun z => absurd rfl z)
    rw [List.size_toArray, hi.length]
    exact hl
  | none =>
    refine go (some (.frz { cls := .type "list", data := .seq vs.toArray } (.lst (ns.map V.int)))) (.inr ⟨_, _, rfl⟩) (.inl (.inr ⟨{ cls := .type "list", data := .seq vs.toArray }, if_pos rfl⟩)) (fun o z => ?_) (fun _ => hk)
    cases z
    exact ⟨ha, by rw [List.length_map]; exact hl, vs, _, rel, ha⟩
end
/-- the end of a law whose defs make lambdas -/
theorem walkT {l : PySem.W.OpenLaw} {n k : Nat} {q : Program} {loose : List Str} {XP : (Str → Option Value) → Heap → Prop} {YP : World → Heap → Prop} {d : DefRec} {K : Params → PySem.W.Frag} {x : Str}
    (hn : l.most = some n) (hn2 : n ≤ sizeLine) (hdf : d.params.defaults = []) (hr : Room k callerA) (hY : ∀ (w : World) (h : Heap), YP w h → (K w.params).In h)
    (F : ∀ (w : World) (mg : Str → Option Value) (fa : Addr) (h : Heap), YP w h → (K w.params).In h → h.Ns mainGlobals mg → mg d.name = some (.ref fa) →
      ∃ (fd : FuncData) (cs : List (Addr × Addr)) (sp : Sp), (∀ t ∈ cs, h.get? t.2 = some { cls := .none, data := .fields #[] }) ∧ (∀ t ∈ cs, (K w.params).lookup t.2 = none) ∧ (∀ t ∈ cs, PySem.W.CodeHd h t.1 t.2) ∧ (∀ (s : Shared) (u : Value), BindsTo s fd ⟨[u], []⟩ [(x, u)]) ∧
        (∀ (H : Hp) (a : Addr) (ns : List Int), ns.length ≤ n → (∀ t ∈ cs, H t.2 = some (.tbl #[])) → SqL (K w.params) H a (ns.map V.int) → sp [.ref a] H (fun v _ => v = .bl true) fun _ _ _ => False) ∧
        ∀ base : Heap, (K w.params).In base → base.Ns mainGlobals mg → (∀ t ∈ cs, TabB base mg t.1 t.2) → FnG l.prog w (K w.params) mg base CX0 k fa fd [x] sp) :
    PySem.W.WalkO q loose XP YP l.row.toRowW d [] (fun f vs => PySem.call f vs) := by
  refine Att.attach_call hn hdf ?_
  intro w s0 s1 mg mb fa o pm cd doc a vs ns G Y ho hd hcd hmg hobj hints hlen hg
  have inK := hY w _ Y
  obtain ⟨fd, cs, sp, hT, nT, hC, hb, hsp, hF⟩ := F w mg fa _ Y inK G.T.g hmg
  exact law_callT inK G.T.g G.T.b G.T.builtins G.T.nolimit hg hT nT hC G.T.bmain hobj hints (Nat.le_trans hlen hn2) hr hF hb (fun H hH hS => hsp H a ns hlen hH hS) (fun H e s' h => h)
end Cf

set_option Elab.async false
set_option linter.all false
set_option maxRecDepth 100000
namespace Cf
open PySem PySem.Spec PyProof.Rows L2
section
variable {X : Cx}
/-- the first pair that differs says which of two is not less -/
def geL : List Int → List Int → Bool
  | _, [] => true
  | [], _ :: _ => false
  | x :: xs, y :: ys => if x = y then geL xs ys else decide (y ≤ x)
theorem geL_at : ∀ (ns ms : List Int) (i : Nat), Ob.lexAt (fun j => decide (ns.getD j 0 = ms.getD j 0)) (fun j => decide (ms.getD j 0 ≤ ns.getD j 0)) (decide (ns.length ≥ ms.length)) i (min ns.length ms.length - i) = if i ≤ min ns.length ms.length then geL (ns.drop i) (ms.drop i) else decide (ns.length ≥ ms.length) := by
  intro ns ms i
  by_cases h : i ≤ min ns.length ms.length
  · rw [if_pos h]
    obtain ⟨k, hk⟩ : ∃ k, k = min ns.length ms.length - i := ⟨_, rfl⟩
    rw [← hk]
    induction k generalizing i with
    | zero =>
      rw [Ob.lexAt_zero]
      rcases Nat.le_total ns.length ms.length with z | z
      · have e : i = ns.length := by omega
        rw [e, List.drop_length]
        by_cases w : ms.length = ns.length
        · rw [← w, List.drop_length, decide_eq_true (by omega)]
          rfl
        · rw [decide_eq_false (by omega)]
          cases q : ms.drop ns.length with
          | nil =>
            have := congrArg List.length q
            rw [List.length_drop, List.length_nil] at this
            omega
          | cons a b => rfl
      · have e : i = ms.length := by omega
        rw [e, List.drop_length, decide_eq_true (by omega)]
        cases ns.drop ms.length <;> rfl
    | succ k ih =>
      rw [Ob.lexAt_succ, ih (i + 1) (by omega) (by omega)]
      have l1 : i < ns.length := by omega
      have l2 : i < ms.length := by omega
      rw [List.drop_eq_getElem_cons l1, List.drop_eq_getElem_cons l2]
      have e1 : ns.getD i 0 = ns[i] := by simp [List.getD, List.getElem?_eq_getElem l1]
      have e2 : ms.getD i 0 = ms[i] := by simp [List.getD, List.getElem?_eq_getElem l2]
      show (if decide (ns.getD i 0 = ms.getD i 0) = true then _ else _) = if ns[i] = ms[i] then _ else _
      rw [e1, e2]
      by_cases w : ns[i] = ms[i]
      · rw [if_pos w, if_pos (decide_eq_true w)]
      · rw [if_neg w, if_neg (by rw [decide_eq_false w]; exact Bool.false_ne_true)]
  · rw [if_neg h, show min ns.length ms.length - i = 0 by omega, Ob.lexAt_zero]
theorem op_geT {K : PySem.W.Frag} (e : X.K = K) {k : Nat} (hr : Room k X.A) : OpR X (compareOp .GtE) (fun x y H Q => ∃ (a b : Addr) (ns ms : List Int), x = .ref a ∧ y = .ref b ∧ SqT K H a (ns.map V.int) ∧ SqT K H b (ms.map V.int) ∧ Q (.bl (geL ns ms)) H) := by
  subst e
  intro pins s σ H x y v u Q I rx ry h
  obtain ⟨a, b, ns, ms, rfl, rfl, ha, hb, q⟩ := h
  cases rx
  cases ry
  obtain ⟨its, r1, p1, _⟩ := I.tuple ha
  obtain ⟨its2, r2, p2, _⟩ := I.tuple hb
  have i1 : IntsAre its ns := Vals.ints r1
  have i2 : IntsAre its2 ms := Vals.ints r2
  have e1 : its.toArray.size = ns.length := by rw [List.size_toArray]; exact i1.length
  have e2 : its2.toArray.size = ms.length := by rw [List.size_toArray]; exact i2.length
  have at1 : ∀ j (h1 : j < its.toArray.size), ∃ t, its.toArray[j] = .int (ns.getD j 0) t := fun j h1 => PyProof.Rows.IntsAre.int_at i1 _ _ (by simp at h1; simp [h1])
  have at2 : ∀ j (h1 : j < its2.toArray.size), ∃ t, its2.toArray[j] = .int (ms.getD j 0) t := fun j h1 => PyProof.Rows.IntsAre.int_at i2 _ _ (by simp at h1; simp [h1])
  have hu : X.A.units < cLine := by have := hr.un; omega
  have R := Ob.RcOp.tuples_ge (A := X.A) (s := s) (e := fun j => decide (ns.getD j 0 = ms.getD j 0)) (r := fun j => decide (ms.getD j 0 ≤ ns.getD j 0)) p1 p2 hu (fun j h1 h2 => by
    obtain ⟨t, et⟩ := at1 j h1
    obtain ⟨t', et'⟩ := at2 j h2
    rw [et, et']
    have z : (ns.getD j 0 == ms.getD j 0) = decide (ns.getD j 0 = ms.getD j 0) := by
      by_cases q : ns.getD j 0 = ms.getD j 0
      · rw [decide_eq_true q]; exact beq_iff_eq.mpr q
      · rw [decide_eq_false q]; exact beq_eq_false_iff_ne.mpr q
    rw [← z]
    exact SeqAt.EqAt.int_int _ _ _ _) (fun j h1 h2 _ => by
    obtain ⟨t, et⟩ := at1 j h1
    obtain ⟨t', et'⟩ := at2 j h2
    rw [et, et']
    exact Ob.RcOp.ge_int _ _ _ _)
  rw [e1, e2] at R
  have g := geL_at ns ms 0
  rw [Nat.sub_zero, if_pos (Nat.zero_le _), List.drop_zero, List.drop_zero] at g
  rw [g] at R
  exact R X.prog X.w _ _ ⟨.bl _, H, I, rfl, q⟩
theorem eqv_tupD (a b : List Int) : PyData.eqv (tupD a) (tupD b) = decide (a = b) := by
  simp only [tupD, PyData.eqv]
  exact eqvAll_ints a b
theorem depth_rows : ∀ l : List (List Int), PyData.depthAll (l.map tupD) ≤ 1
  | [] => by simp [PyData.depthAll]
  | a :: b => by
    rw [List.map_cons, PyData.depthAll]
    have := depth_ints a
    have e : (tupD a).depth = 1 := by
      unfold tupD
      simp only [PyData.depth]
      omega
    rw [e]
    exact Nat.max_le.mpr ⟨Nat.le_refl _, depth_rows b⟩
theorem can_rows : ∀ l : List (List Int), PyData.canLayAll0 (l.map tupD) = true
  | [] => by simp [PyData.canLayAll0]
  | a :: b => by
    rw [List.map_cons, PyData.canLayAll0, can_rows b, Bool.and_true]
    unfold tupD
    simp only [PyData.canLay0]
    exact canAll_ints a
theorem shaped_rows (l : List (List Int)) : SeqAt.shaped (.list (l.map tupD)) = true := by
  unfold SeqAt.shaped
  rw [Bool.and_eq_true]
  refine ⟨by simp only [PyData.canLay0]; exact can_rows l, decide_eq_true ?_⟩
  have := depth_rows l
  simp only [PyData.depth]
  omega
theorem first_of : ∀ (ns : List (List Int)) (y : List Int), y ∈ ns → ∃ j, j < ns.length ∧ ns.getD j [] = y ∧ ∀ i, i < j → ns.getD i [] ≠ y
  | n :: r, y, h => by
    by_cases e : n = y
    · exact ⟨0, by simp, by simpa using e, fun i hi => absurd hi (Nat.not_lt_zero _)⟩
    · have h2 : y ∈ r := by
        rcases List.mem_cons.mp h with z | z
        · exact absurd z.symm e
        · exact z
      obtain ⟨j, h1, h3, h4⟩ := first_of r y h2
      refine ⟨j + 1, by simpa using h1, by simpa using h3, fun i hi => ?_⟩
      match i with
      | 0 => simpa using e
      | i + 1 => simpa using h4 i (by omega)
/-- max of a list of tuples of ints: one of them -/
theorem cr_maxR {K : PySem.W.Frag} (e : X.K = K) (hc : X.calm = true) {k : Nat} (hr : Room k X.A) : CallR X (.builtin "max") (fun vs H Q => ∃ (p : Addr) (xs : List V) (rs : List (List Int)), vs = [.ref p] ∧ SqL K H p xs ∧ Rw K H xs rs ∧ 0 < rs.length ∧ ∀ x ∈ xs, Q x H) := by
  subst e
  intro pins s σ H vs us Q I r h
  obtain ⟨p, xs, rs, rfl, hs, hw, hne, q⟩ := h
  obtain ⟨its, rv, hl, _⟩ := I.list hs
  rw [Vals.ref1 r]
  obtain ⟨as, h4⟩ := Dp.readsAll I _ _ its hw.dp rv
  match rs, hne with
  | r0 :: rt, _ =>
    refine PySem.W.max_list_data (vs := its.toArray) (x := tupD r0) (xs := rt.map tupD) (I.ok.hd hc) hl.isList (by simpa using h4) ⟨fun x hx y hy => ?_, fun x hx => ?_⟩ ?_ fun i v h' tk bs hi _ hk => ?_
    · obtain ⟨a, _, rfl⟩ := List.mem_map.mp (show x ∈ (r0 :: rt).map tupD from hx)
      obtain ⟨b, _, rfl⟩ := List.mem_map.mp (show y ∈ (r0 :: rt).map tupD from hy)
      unfold tupD
      simp only [PySem.W.alike]
      exact PySem.W.alike_ints a b
    · obtain ⟨a, _, rfl⟩ := List.mem_map.mp (show x ∈ (r0 :: rt).map tupD from hx)
      intro z
      cases z
    · have := depth_rows (r0 :: rt)
      rw [List.map_cons] at this
      have := hr.un
      omega
    · have hi2 : its[i]? = some v := by simpa using hi
      obtain ⟨x, hx, rx⟩ : ∃ x, x ∈ xs ∧ RelV x v := by
        have hil : i < its.length := (List.getElem?_eq_some_iff.mp hi2).1
        have hxl : i < xs.length := by
          rw [rv.length]
          exact hil
        obtain ⟨u, e1, e2⟩ := rv.get (List.getElem?_eq_getElem hxl)
        rw [hi2] at e1
        cases e1
        exact ⟨_, List.getElem_mem hxl, e2⟩
      exact ⟨x, H, I.kept hk, rx, q x hx⟩
/-- l.index(t) of a list of tuples of ints, t one of them: a place -/
theorem mt_indexR {K : PySem.W.Frag} (e : X.K = K) {k : Nat} (hr : Room k X.A) : MtR X "list.index" (fun x vs H Q => ∃ (l : Addr) (y : V) (xs : List V) (rs : List (List Int)), x = .ref l ∧ vs = [y] ∧ SqL K H l xs ∧ Rw K H xs rs ∧ y ∈ xs ∧
    ∀ j : Nat, j < xs.length → Q (.int (j : Int)) H) := by
  subst e
  intro pins s σ H x vs v us Q I rx rxs h
  obtain ⟨l, y, xs, rs, rfl, rfl, hs, hw, hy, q⟩ := h
  obtain ⟨i, hi, e⟩ := List.mem_iff_getElem.mp hy
  have hwl := hw.len
  obtain ⟨p, ep, b, c⟩ := hw.get (i := i) (x := y) (by rw [List.getElem?_eq_getElem hi, e])
  have sh : ∀ a : List Int, SeqAt.shaped (tupD a) = true := shaped_ti
  obtain ⟨j, hj, h1, h2⟩ := first_of rs (rs.getD i []) (by
    rw [List.getD_eq_getElem?_getD, List.getElem?_eq_getElem b]
    exact List.getElem_mem b)
  have at_ : ∀ m, m < rs.length → (rs.map tupD)[m]? = some (tupD (rs.getD m [])) := fun m hm => by
    rw [List.getElem?_map, List.getD_eq_getElem?_getD, List.getElem?_eq_getElem hm]
    rfl
  refine mt_indexD (by have := hr.un; omega) pins s σ H _ _ v us Q I rx rxs ⟨l, y, tupD (rs.getD i []), rs.map tupD, j, _, rfl, rfl, .lst hs hw.dp, ep ▸ dp_ti c, shaped_rows rs, sh _, at_ j hj, ?_, fun m z' hm hz' => ?_, q j (by omega)⟩
  · rw [eqv_tupD, h1]
    exact decide_eq_true rfl
  · rw [at_ m (by omega)] at hz'
    cases hz'
    rw [eqv_tupD]
    exact decide_eq_false (h2 m hm)
/-- xs[i] of any list, 0 ≤ i -/
theorem ix_la {K : PySem.W.Frag} (e : X.K = K) : IxR X (fun x y H Q => ∃ (p : Addr) (xs : List V) (i : Nat) (v : V), x = .ref p ∧ y = .int (i : Int) ∧ SqL K H p xs ∧ xs[i]? = some v ∧ Q v H) := by
  subst e
  refine ix_imp ix_list fun x y H Q ⟨p, xs, i, v, a, b, c, d, q⟩ => ⟨p, xs, _, v, a, b, c, ?_, q⟩
  have hi : i < xs.length := (List.getElem?_eq_some_iff.mp d).1
  have h1 : ixN xs.length (i : Int) = some i := by
    unfold ixN
    simp
    omega
  unfold atI
  rw [h1]
  exact d
/-- a or b, where a gives None or a tuple that is not empty -/
theorem pe_orN {K : PySem.W.Frag} (e : X.K = K) {a b : Expr} {ta tb : TE} {pos : Pos} (ha : PE X a ta) (hb : PE X b tb) :
    PE X (.BoolOp .Or [a, b] pos) (fun σ H Q => ta σ H fun v H1 => (v = .non ∧ tb σ H1 Q) ∨ (∃ (p : Addr) (xs : List V), v = .ref p ∧ SqT K H1 p xs ∧ 0 < xs.length ∧ Q v H1)) := by
  subst e
  refine ⟨fun pins s σ H Q I h => ?_⟩
  refine BoolOp_or (thn (ha.run pins s σ H _ I h) fun v s1 ⟨x, H1, I1, r1, q1⟩ => ?_)
  rcases q1 with ⟨rfl, q1⟩ | ⟨p, xs, rfl, hp, hne, q1⟩
  · cases r1
    exact truthy_none (BoolOp_one (hb.run pins s1 σ H1 Q I1 q1))
  · cases r1
    obtain ⟨its, rv, pl, hz⟩ := I1.tuple hp
    have hl := rv.length
    have hsl := sizeLine_eq
    refine truthy_tuple pl (by rw [List.size_toArray]; omega) ?_
    have hn : its.toArray.isEmpty = false := by
      cases its with
      | nil =>
        rw [List.length_nil] at hl
        omega
      | cons a b => simp
    rw [hn]
    exact ⟨.ref p, H1, I1.tok _, rfl, q1⟩
end
end Cf

set_option Elab.async false
set_option linter.all false
set_option maxRecDepth 100000
set_option maxHeartbeats 2000000
namespace Cf
open PySem PySem.Spec PyProof.Rows L2
open LamX (CodeO TabS Tabs ExtN TabB lamEnv lamCx lam_make2)
open PySem.W (keyToks keyToksAll EachIs SortsAt dataKind AllAlike Sortable alike alikeAll)
section
variable {X : Cx} {pins : List (Addr × Obj)} {σ : L2.St} {H : Hp} {s : Shared} {key : Int → Int × Int}
theorem sort_lamR {k i : Nat} {l f c' : Addr} {pm ctv : Value} {params : Arguments} {body : Expr} {scope : Scope} {x : Str} {tb : TE} {ns : List Int} {Q : VK} {E : Value → Shared → Prop}
    (I : L2.Inv X pins σ H s) (L : Lam1 X.env.scope scope x) (hN : X.N.Nodup) (hi : X.N[i]? = some x) (hr : Room (k + 3) X.A)
    (hf : s.heap.get? f = some (PySem.W.kla_obj "<lambda>" (X.env.qual ++ "<lambda>") params body scope (cloFrom X.env.cells scope.names []) pm c' ctv)) (hfn : H f = none) (hfr : f ∉ frs X.stack)
    (hco : H c' = some (CodeO c' (X.env.qual ++ "<lambda>")))
    (hbind : ∀ u : Value, bindArgs (PySem.W.kla_fn "<lambda>" (X.env.qual ++ "<lambda>") params body scope (cloFrom X.env.cells scope.names []) pm (.ref c') ctv) ⟨[u], []⟩ = pure [(x, u)])
    (hbody : ∀ (s : Shared) (H : Hp), PE (lamC X X.A.in1.in1 X.stack s H scope f c') body tb)
    (hcol : ∀ {R : List Value → Shared → Prop}, (∀ (h' : Heap) (tk : Nat) (vs : List Value), (∀ b o, s.heap.get? b = some o → h'.get? b = some o) → IntsAre vs ns → R vs { s with heap := h', toks := tk }) → wpAny (model X.prog X.w) X.A.in1 (collect (.ref l)) R (fun _ _ => False) s)
    (hz : ns.length ≤ 1000)
    (turn : ∀ n ∈ ns, ∀ H', Kp [] H H' → tb (σ.set i (some (.int n))) H' fun y H2 => Kp [] H' H2 ∧ ∃ T, y = .ref T ∧ H2 T = some (.tup [.int (key n).1, .int (key n).2]))
    (h : ∀ ms : List Int, ms.Perm ns → ms.Pairwise (KLe key) → New H (.lst (ms.map V.int)) Q) :
    wpAny (model X.prog X.w) X.A (call (.builtin "sorted") [.ref l] [(Str.ofString "key", .ref f)]) (EP X pins σ Q) E s := by
  have big : (1000 : Nat) ≤ sizeLine := by decide
  refine call_function_entry_kw kind_sorted plain_sorted entry_sorted (ksk_s1 _ _) ?_
  unfold Builtin.«sorted»
  refine wpAny_bind (m := checkCount "sorted" 1 1 _) (wpAny_pure ?_)
  refine wpAny_bind (wpAny_mono (hcol (R := fun us s' => IntsAre us ns ∧ L2.Inv X pins σ H s' ∧ s'.heap.get? f = some (PySem.W.kla_obj "<lambda>" (X.env.qual ++ "<lambda>") params body scope (cloFrom X.env.cells scope.names []) pm c' ctv)) fun h' tk us hk hu => ⟨hu, I.kept hk, hk _ _ hf⟩) ?_ (fun _ _ z => z.elim))
  clear hcol
  clear I hf

  rintro us s ⟨hv, I, hf⟩
  have hzn := hz
  have hz : us.length ≤ 1000 := by
    rw [hv.length]
    exact hzn
  refine wpAny_bind (wpAny_newList ?_ (by omega))
  have hoL : (s.heap.push (seqObj "list" us.toArray 0)).get? s.heap.objs.size = some (seqObj "list" us.toArray 0) := Heap.get?_push_size _ rfl
  have keep0 : ∀ b o, s.heap.get? b = some o → (s.heap.push (seqObj "list" us.toArray 0)).get? b = some o := fun b o q => Heap.get?_push_of_some _ q
  show wpAny _ _ _ _ _ { s with heap := s.heap.push (seqObj "list" us.toArray 0) }
  have size2 : (s.heap.push (seqObj "list" us.toArray 0)).objs.size = s.heap.objs.size + 1 := Heap.size_push _ _
  generalize hh0 : s.heap.push (seqObj "list" us.toArray 0) = h0 at hoL keep0 size2
  generalize ha : s.heap.objs.size = a at hoL
  have fa : FpOk X pins H a := I.fpOk (by omega) (I.hok.fresh (by omega))
  have I0 : L2.Inv X pins σ H { s with heap := h0 } := I.kept (t' := s.toks) keep0
  refine wpAny_bind (wpAny_holding (wpAny_call_entry_kw slot_list_sort ⟨_, hoL, rfl⟩ entry_list_sort ?_ (ksk_l1 _ _)))
  show wpAny (model X.prog X.w) X.A.in1.in1 (Builtin.«list.sort» ⟨[.ref a], [(Str.ofString "key", .ref f)]⟩) _ _ _
  rw [ksk_t1]
  unfold ksk_tree
  obtain ⟨e1, ho1⟩ : ∃ e1, (h0.update a (Obj.mapSeq fun _ => (#[] : Array Value))).get? a = some (seqObj "list" #[] e1) := ⟨_, get?_update_seq hoL fun _ => #[]⟩
  have s1 := Heap.SameBut.update h0 a (Obj.mapSeq fun _ => (#[] : Array Value))
  refine wpAny_bind (listItems_at hoL rfl ?_)
  refine wpAny_bind (listUpdate_at hoL rfl ?_ (by rw [List.size_toArray]; omega) (Nat.zero_le _))
  refine wpAny_bind (seqEpoch_at ho1 rfl ?_)
  refine wpAny_bind (wpAny_newTuple ?_ (by show us.length ≤ _; omega))
  refine wpAny_bind (wpAny_newList ?_ (Nat.zero_le _))
  refine wpAny_holding ?_
  have size3 : ((h0.update a (Obj.mapSeq fun _ => (#[] : Array Value))).push (seqObj "tuple" us.toArray 0)).objs.size = s.heap.objs.size + 2 := by
    rw [Heap.size_push, Heap.size_update, size2]
  show wpAny _ _ (ksk_rest a (.ref f) false us.toArray e1 (.ref ((h0.update a (Obj.mapSeq fun _ => (#[] : Array Value))).push (seqObj "tuple" us.toArray 0)).objs.size)) _ _ { s with heap := ((h0.update a (Obj.mapSeq fun _ => (#[] : Array Value))).push (seqObj "tuple" us.toArray 0)).push (seqObj "list" #[] 0) }
  have hkS : (((h0.update a (Obj.mapSeq fun _ => (#[] : Array Value))).push (seqObj "tuple" us.toArray 0)).push (seqObj "list" #[] 0)).get? (s.heap.objs.size + 2) = some (seqObj "list" #[] 0) := by
    rw [← size3]
    exact Heap.get?_push_size _ rfl
  rw [size3]
  have keep1 : ∀ b o, b ≠ a → h0.get? b = some o → (((h0.update a (Obj.mapSeq fun _ => (#[] : Array Value))).push (seqObj "tuple" us.toArray 0)).push (seqObj "list" #[] 0)).get? b = some o := by
    intro b o nb q
    exact Heap.get?_push_of_some _ (Heap.get?_push_of_some _ ((s1.2 b nb).trans q))
  have ho3 : (((h0.update a (Obj.mapSeq fun _ => (#[] : Array Value))).push (seqObj "tuple" us.toArray 0)).push (seqObj "list" #[] 0)).get? a = some (seqObj "list" #[] e1) := Heap.get?_push_of_some _ (Heap.get?_push_of_some _ ho1)
  generalize hh1 : ((h0.update a (Obj.mapSeq fun _ => (#[] : Array Value))).push (seqObj "tuple" us.toArray 0)).push (seqObj "list" #[] 0) = h1 at hkS keep1 ho3
  generalize hkk : s.heap.objs.size + 2 = kS at hkS
  have fk : FpOk X pins H kS := I.fpOk (by omega) (I.hok.fresh (by omega))
  have hka : kS ≠ a := by omega
  have I1 := L2.Inv.turnedL (s := { s with heap := h0 }) (h' := h1) (t' := s.toks) (ch := [a]) I0 (fun b o hb q => keep1 b o (fun z => hb (by simp [z])) q) (fun b hb => by rw [List.mem_singleton.mp hb]; exact fa)
  have hfa : f ≠ a := Nat.ne_of_lt (by rw [← ha]; exact Heap.lt_size hf)
  have hf1 := keep1 f _ hfa (keep0 f _ hf)
  unfold ksk_rest
  refine wpAny_bind (wpAny_rule ?_)
  first
    | rw [List.forIn_toArray]
    | (rw [← Array.forIn_toList]; simp only [List.toList_toArray])
  refine wpAny_bind (ksk_fold (fun j s' => ∃ (H' : Hp) (kA : Array Value) (e : Nat), L2.Inv X pins σ H' s' ∧ Kp [] H H' ∧
      s'.heap.get? f = some (PySem.W.kla_obj "<lambda>" (X.env.qual ++ "<lambda>") params body scope (cloFrom X.env.cells scope.names []) pm c' ctv) ∧ s'.heap.get? kS = some (seqObj "list" kA e) ∧ s'.heap.get? a = some (seqObj "list" #[] e1) ∧
      H' f = none ∧ H' kS = none ∧ H' a = none ∧ KeyR key H' kA.toList (ns.take j)) us 0 _ ⟨H, #[], 0, I1, Kp.refl, hf1, hkS, ho3, hfn, fk.1, fa.1, .nil⟩ ?step ?done)
  case step =>
    rintro j u s' hu ⟨H', kA, e, J, kp, jf, jk, ja, nf, nk, na, jR⟩
    simp only [Nat.zero_add] at jR ⊢
    obtain ⟨n, t, rfl, hn⟩ : ∃ n t, u = Value.int n t ∧ ns[j]? = some n := by
      have go : ∀ (us : List Value) (ns : List Int) (j : Nat), IntsAre us ns → us[j]? = some u → ∃ n t, u = Value.int n t ∧ ns[j]? = some n := by
        intro us
        induction us with
        | nil => intro ns j _ h; simp at h
        | cons w us ih =>
          intro ns j hh h
          cases hh with
          | cons n0 t0 hh =>
            cases j with
            | zero => exact ⟨n0, t0, (Option.some.inj h).symm, rfl⟩
            | succ j =>
              obtain ⟨n, t, a1, a2⟩ := ih _ j hh (by simpa using h)
              exact ⟨n, t, a1, by simpa using a2⟩
      exact go us ns j hv hu
    have hmem : n ∈ ns := List.mem_of_getElem? hn
    have kal : kA.size ≤ us.length := by
      have h1 := jR.len
      rw [Array.length_toList, List.length_take] at h1
      have h2 := hv.length
      omega
    obtain ⟨⟨oc, cvs, tq, q1, q2, q3⟩, _, _⟩ := J.hok c' _ (kp.at0 hco)
    refine wpAny_bind (wpAny_attempt (wpAny_mono (lam1_call (k := k) J L hN hi hr jf ⟨oc, cvs, tq, q1, q2, q3⟩ (hbind _) (hbody s' H') (v := .int n) ⟨t, rfl⟩ (turn n hmem H' kp)) (fun y s2 hq => ?_) fun _ _ z => z))
    obtain ⟨z, H2, J2, rv, ⟨k2, T, ez, hT⟩, un⟩ := hq
    subst ez
    cases rv
    try dsimp only
    have fkJ := out_frs J (fp_at fk nk)
    have faJ := out_frs J (fp_at fa na)
    have jf2 := un.keep f _ jf nf hfr (by simp)
    have jk2 := un.keep kS _ jk nk fkJ (by simp)
    have ja2 := un.keep a _ ja na faJ (by simp)
    have nf2 := un.free f _ jf nf (by simp)
    have nk2 := un.free kS _ jk nk (by simp)
    have na2 := un.free a _ ja na (by simp)
    have sB := Heap.SameBut.update s2.heap kS (Obj.mapSeq (·.push (Value.ref T)))
    obtain ⟨c2, hc2⟩ : ∃ c2, (s2.heap.update kS (Obj.mapSeq (·.push (Value.ref T)))).get? kS = some (seqObj "list" (kA.push (Value.ref T)) c2) := ⟨_, get?_update_seq jk2 (·.push (Value.ref T))⟩
    refine wpAny_bind (listUpdate_at jk2 rfl ?_ (by omega) (Nat.le_trans (Nat.le_of_eq (Array.size_push ..)) (by omega)))
    have hfk : f ≠ kS := Nat.ne_of_lt (Nat.lt_of_lt_of_le (Heap.lt_size hf) (by rw [← hkk]; exact Nat.le_add_right _ _))
    refine wpAny_pure ⟨rfl, H2, kA.push (Value.ref T), c2, ?_, kp.trans k2, (sB.2 f hfk).trans jf2, hc2, (sB.2 a hka.symm).trans ja2, nf2, nk2, na2, ?_⟩
    · exact J2.turnedL (t' := s2.toks) (ch := [kS]) (fun b o hb q => (sB.2 b (fun z => hb (by simp [z]))).trans q) (fun b hb => by rw [List.mem_singleton.mp hb]; exact fp_at fk nk2)
    · have e3 : ns.take (j + 1) = ns.take j ++ [n] := by
        rw [List.take_add_one, hn]
        rfl
      rw [e3, Array.toList_push]
      exact (jR.kp0 k2).snoc hT
  case done =>
    rintro s' ⟨H', kA, e, J, kp, jf, jk, ja, nf, nk, na, jR⟩
    have hl := hv.length
    rw [List.take_of_length_le (by omega)] at jR
    refine wpAny_bind (listItems_at jk rfl ?_)
    have hu2 : X.A.in1.in1.units + 64 < cLine := ((hr.in1).in1).units
    refine key_end (key := key) J hu2 (fp_at fa na) (fp_at fk nk) hka jk ja jR hv hz ?_
    intro s3 out c ms J3 hout m1 m2 m3 _
    refine ⟨_, rfl, wpAny_pure ⟨_, rfl, ?_⟩⟩
    have olen : out.size ≤ 1000 := by
      have h1 := m1.length
      have h2 := m2.length_eq
      rw [Array.length_toList] at h1
      omega
    have nH : H a = none := fa.1
    refine ⟨.ref a, upd H' a (.lst (ms.map V.int)), ?_, rfl, h ms m2 m3 a _ nH (kp.trans (Kp.new na)) upd_same⟩
    refine L2.Inv.take (h' := s3.heap) (t' := s3.toks) J3 (fun b ob _ q => q) (fp_at fa na) ?_
    · exact ⟨by rw [List.length_map]; have h1 := m1.length; rw [Array.length_toList] at h1; omega, out.toList, c, vals_of_ints m1, by rw [Array.toArray_toList]; exact hout⟩
end
/-- the range 0 .. n - 1 as an argument -/
def RgO (r : Addr) (n : Nat) : HO := .ext fun h => ∃ t u v, IsRange h r 0 (n : Int) 1 t u v
section
variable {X : Cx}
def tRgO (ta : TE) : TE := fun σ H Q => ta σ H fun x H1 => ∃ n : Nat, x = .int (n : Int) ∧ n ≤ 1000 ∧ ∀ r H2, H1 r = none → Kp [] H1 H2 → H2 r = some (RgO r n) → Q (.ref r) H2
theorem pe_rgO {a : Expr} {ta : TE} {p pos : Pos} (hg : Gl X "range") (hm : X.mg "range" = none) (ha : PE X a ta) (na : starEach [a] X.env = (false, eval a X.env) :: starEach [] X.env := by rfl) : PE X (.Call (.Name "range" p) [a] [] pos) (tRgO ta) := by
  refine ⟨fun pins s σ H Q I h => ?_⟩
  refine Call_ (ld_blt I hg hm boot_range (PyProof.Rows.callWith_type1 (one_arg ha I h (fun v s2 x H2 I2 r q => ?_) na) na))
  obtain ⟨n, rfl, hn, q⟩ := q
  obtain ⟨t, rfl⟩ := r
  refine call_range_1 ⟨.ref s2.heap.objs.size, upd H2 s2.heap.objs.size (RgO s2.heap.objs.size n), I2.laid (t' := s2.toks + 1 + 1) (fun b u e => Heap.get?_push_of_some _ e) (Nat.le_refl _) (show ObjOk X.prog X.w _ _ _ (RgO s2.heap.objs.size n) from ⟨⟨_, _, _, IsRange.new _ _ _ _ _ _ _⟩, ⟨_, IsRange.new _ _ _ _ _ _ _⟩, fun h1 h2 ⟨t, u, v, z⟩ k => ⟨t, u, v, k _ z⟩⟩), rfl, q _ _ (I2.hok.fresh (Nat.le_refl _)) (Kp.new (I2.hok.fresh (Nat.le_refl _))) upd_same⟩
/-- sorted(range(n), key=lambda x: ..) -/
def tSortKR (T : List (Addr × Str)) (K : PySem.W.Frag) (i : Nat) (ta : TA) (tb : TE) : TE := fun σ H Q => ta σ H fun vs H1 => ∃ (p : Addr) (n : Nat) (key : Int → Int × Int), vs = [.ref p] ∧ H1 p = some (RgO p n) ∧ n ≤ 1000 ∧ Tabs T H1 ∧
  ∀ H2, Kt T H1 H2 → (∀ n' ∈ upto n, ∀ H', Kp [] H2 H' → tb (σ.set i (some (.int n'))) H' fun y H3 => Kp [] H' H3 ∧ ∃ U, y = .ref U ∧ H3 U = some (.tup [.int (key n').1, .int (key n').2])) ∧
    ∀ ms : List Int, ms.Perm (upto n) → ms.Pairwise (KLe key) → New H2 (.lst (ms.map V.int)) Q
theorem pe_sortKR {T : List (Addr × Str)} {K : PySem.W.Frag} {c P : Addr} {k i : Nat} {x : Str} {e : Expr} {ta : TA} {tb : TE} {params : Arguments} {body : Expr} {scope : Scope} {p lpos kpos pos : Pos} (eK : X.K = K) (hc : X.calm = true)
    (TB : TabB X.base X.mg c P) (hcode : X.env.code = .ref c) (hmT : (P, X.env.qual ++ "<lambda>") ∈ T) (hu : ∀ r ∈ T, r.1 = P → r.2 = X.env.qual ++ "<lambda>") (hr : Room (k + 3) X.A) (L : Lam1 X.env.scope scope x) (hN : X.N.Nodup) (hi : X.N[i]? = some x)
    (hdef : defaultsOf params X.env = ([], []))
    (hbind : ∀ (q : Str) (cl : List (Str × Addr)) (pm cv ctv u : Value), bindArgs (PySem.W.kla_fn "<lambda>" q params body scope cl pm cv ctv) ⟨[u], []⟩ = pure [(x, u)])
    (hbody : ∀ (s : Shared) (H : Hp) (f c' : Addr), PE (lamC X X.A.in1.in1 X.stack s H scope f c') body tb)
    (hg : Gl X "sorted") (hm : X.mg "sorted" = none) (ha : PA X [e] ta)
    (he : backTo pos (starEach [e] X.env) = (false, eval e X.env) :: backTo pos (starEach [] X.env) := by rfl) (hpl : (backTo pos (starEach [e] X.env)).any (·.1) = false := by rfl)
    (hall : (backToKw pos (keywordEach [⟨some "key", .Lambda params body scope lpos, kpos⟩] X.env)).all (·.1.isSome) = true := by rfl) (hno : (backToKw pos (keywordEach [⟨some "key", .Lambda params body scope lpos, kpos⟩] X.env)).any (·.1.isNone) = false := by rfl)
    (hks : (backToKw pos (keywordEach [⟨some "key", .Lambda params body scope lpos, kpos⟩] X.env)).filterMap (·.1) = [Str.ofString "key"] := by rfl) :
    PE X (.Call (.Name "sorted" p) [e] [⟨some "key", .Lambda params body scope lpos, kpos⟩] pos) (tSortKR T K i ta tb) := by
  subst eK
  refine ⟨fun pins s σ H Q I h => ?_⟩
  refine wpAny_Call_Name_kw (ld_blt I hg hm PyProof.Rows.boot_sorted ?_)
  refine PyProof.Rows.callWith_kw (thn (ha.run pos pins s σ H _ I h) ?_) he hpl hall hno
  rintro us s1 ⟨vs, H1, I1, r1, pl, n, key, ev, hq, hz, hT, w⟩
  subst ev
  obtain ⟨u, rfl, ru⟩ := vals1 r1
  cases ru
  show wpAny _ _ (evalAll ((do let v ← eval (.Lambda params body scope lpos) X.env; standAt pos; pure v) :: (backToKw pos (keywordEach [] X.env)).map (·.2))) _ _ s1
  refine wpAny_evalAll_cons (wpAny_bind ?_)
  refine lam_make2 I1 TB hcode hmT hu hT hdef (fun y hy ey => ?_) fun f c' pm ctv H2 s2 I2 eN T2 hf hfn hfr hco => ?_
  · rcases L.free y hy ey with z | z
    · exact I1.ok.has _ (.inl z)
    · exact I1.ok.has _ (.inr z)
  refine wpAny_bind (wpAny_standAt (wpAny_pure (wpAny_evalAll_nil ?_)))
  rw [hks]
  show wpAny _ _ (call (.builtin "sorted") [.ref pl] [(Str.ofString "key", .ref f)]) _ _ s2
  have kt : Kt T H1 H2 := ⟨eN, fun _ => T2⟩
  obtain ⟨wt, wq⟩ := w H2 kt
  obtain ⟨t1, t2, t3, hrg⟩ := (I2.hok pl _ (eN pl _ hq fun ps z => nomatch z)).1
  refine sort_lamR (k := k) (key := key) I2 L hN hi hr hf hfn hfr hco (fun u => hbind _ _ _ _ _ u) (fun s H => hbody s H f c') (fun {R} hR => ?_) (by rw [upto_len]; exact hz) wt wq
  refine collect_range (n := n) (I2.ok.hd hc) hrg (small_one (by omega) (by omega) (by omega) (by omega)) ?_ (by omega) fun h' tk acc hk hi => ?_
  · have := rangeSize_nat 0 (n : Int)
    rw [this]
    omega
  · have rv : Vals ((upto n).map V.int) acc.toList := by
      rw [← rgV_upto]
      exact vals_rg (by simpa using hi)
    exact hR h' tk acc.toList hk rv.ints
end
section
variable {X : Cx}
/-- set(t), t a tuple of ints -/
theorem cr_setT {K : PySem.W.Frag} {w : World} (e : X.K = K) (ew : X.w = w) (hc : X.calm = true) : CallR X (.type "set") (fun vs H Q => ∃ (p : Addr) (ns : List Int), vs = [.ref p] ∧ SqT K H p (ns.map V.int) ∧ ns.length ≤ 50 ∧
    ∀ a H' c, H a = none → Kp [] H H' → H' a = some (SetO w a (fun j => decide (j ∈ ns)) c) → c ≤ ns.length → Q (.ref a) H') := by
  subst e ew
  intro pins s σ H vs us Q I r h
  obtain ⟨p, ns, rfl, hs, hl, q⟩ := h
  obtain ⟨its, rv, ht, hz⟩ := I.tuple hs
  rw [Vals.ref1 r]
  have hi := rv.ints
  refine call_set_tupI ns (I.ok.hd hc) (show s.heap.IsTuple p its.toArray from ht) (by simpa using hi) (by unfold scanBound; omega) fun h' tk c R1 hcn k => ?_
  exact ⟨.ref _, upd H s.heap.objs.size (SetO X.w s.heap.objs.size (fun j => decide (j ∈ ns)) c), I.laid (t' := tk) k (Nat.le_refl _) (setO_new R1), rfl, q _ _ c (I.hok.fresh (Nat.le_refl _)) (Kp.new (I.hok.fresh (Nat.le_refl _))) upd_same hcn⟩
/-- sorted(s), s a set of ints -/
theorem cr_srtSet {w : World} (ew : X.w = w) (hc : X.calm = true) : CallR X (.builtin "sorted") (fun vs H Q => ∃ (a : Addr) (S : Int → Bool) (n : Nat), vs = [.ref a] ∧ H a = some (SetO w a S n) ∧ n < 64 ∧
    ∀ ns : List Int, ns.Pairwise (· < ·) → (∀ k : Int, k ∈ ns ↔ S k = true) → New H (.lst (ns.map V.int)) Q) := by
  subst ew
  exact call_imp (cr_sortedSet hc) fun vs H Q ⟨a, S, n, e, ha, h64, q⟩ => ⟨a, S, n, e, ha, h64, fun ns p h1 h2 _ hp => (q ns h1 h2).go p hp⟩
/-- xs[::-1], xs a list of ints -/
def tRevI (K : PySem.W.Frag) (te : TE) : TE := fun σ H Q => te σ H fun x H1 => ∃ (a : Addr) (ns : List Int), x = .ref a ∧ SqL K H1 a (ns.map V.int) ∧ New H1 (.lst (ns.reverse.map V.int)) Q
theorem pe_revI {K : PySem.W.Frag} {e : Expr} {te : TE} {k : Nat} {p1 p2 p3 pos : Pos} (eK : X.K = K) (he : PE X e te) : PE X (.Subscript e (.Slice none none (some (.UnaryOp .USub (.Constant (.int 1) k p1) p2)) p3) pos) (tRevI K te) := by
  subst eK
  exact pe_imp (pe_revL (pe_up he)) fun σ H Q h => ⟨_, h, fun x H1 ⟨a, ns, ex, hs, q⟩ => ⟨a, _, ex, hs, fun p np => by
    have z := q.go p np
    rw [List.map_reverse] at z
    exact z⟩⟩
end
end Cf

set_option Elab.async false
set_option linter.all false
set_option maxRecDepth 100000
namespace Cf
open PySem PySem.Spec PyProof.Rows L2
theorem at_back {ns : List Int} {i : Int} (h : i < 0 ∧ -i ≤ (ns.length : Int)) : atI (ns.map V.int) i = some (.int (ns.getD (ns.length - (-i).toNat) 0)) := by
  have q : ixN (ns.map V.int).length i = some (ns.length - (-i).toNat) := by
    unfold ixN
    rw [List.length_map, if_neg (by omega), if_pos (by omega)]
    exact congrArg some (by omega)
  unfold atI
  rw [q]
  exact getD_map (by omega)
section
variable {X : Cx}
/-- xs[i] of ints, counted from the end -/
def rIxB (S : Hp → Addr → List V → Prop) : R2 := fun x y H Q => ∃ p, ∃ ns : List Int, ∃ i : Int, x = .ref p ∧ y = .int i ∧ S H p (ns.map V.int) ∧ (i < 0 ∧ -i ≤ (ns.length : Int)) ∧ Q (.int (ns.getD (ns.length - (-i).toNat) 0)) H
theorem ix_lb {K : PySem.W.Frag} (e : X.K = K) : IxR X (rIxB (SqL K)) := by
  subst e
  exact ix_imp ix_list fun _ _ _ _ ⟨p, ns, i, a, b, c, d, q⟩ => ⟨p, _, i, _, a, b, c, at_back d, q⟩
end
end Cf
namespace Cf
open PySem PySem.Spec PyProof.Rows L2
/-- xs + ys of lists -/
theorem op_catLA {X : Cx} : OpR X (binaryOp .Add) (fun x y H Q => ∃ p q xs ys, x = .ref p ∧ y = .ref q ∧ H p = some (.lst xs) ∧ H q = some (.lst ys) ∧ xs.length + ys.length ≤ sizeLine ∧ New H (.lst (xs ++ ys)) Q) :=
  op_imp op_cat fun x y H Q ⟨p, q, xs, ys, a, b, c, d, l, n⟩ => ⟨p, q, xs, ys, a, b, c, d, l, n.go⟩
end Cf

set_option Elab.async false
set_option linter.all false
set_option maxRecDepth 100000
namespace Cf
open PySem PySem.Spec PyProof.Rows L2
section
variable {X : Cx}
theorem any_tupD (ns : List Int) : ∀ rs : List (List Int), ((rs.map tupD).any fun z => PyData.eqv z (tupD ns)) = decide (ns ∈ rs)
  | [] => by simp
  | r :: rs => by
    rw [List.map_cons, List.any_cons, any_tupD ns rs, eqv_tupD]
    by_cases h1 : r = ns
    · subst h1
      simp
    · have h2 : ns ≠ r := fun z => h1 z.symm
      simp [h1, h2]
/-- t in rows, t not in rows -/
theorem op_inR {K : PySem.W.Frag} (e : X.K = K) {k : Nat} (hr : Room k X.A) : OpR X (compareOp .In) (fun x y H Q => ∃ (p q : Addr) (ns : List Int) (xs : List V) (rs : List (List Int)), x = .ref p ∧ y = .ref q ∧ SqT K H p (ns.map V.int) ∧ SqL K H q xs ∧ Rw K H xs rs ∧ Q (.bl (decide (ns ∈ rs))) H) := by
  subst e
  exact op_imp (op_inD (by have := hr.un; omega)) fun x y H Q ⟨p, q, ns, xs, rs, a, b, c, d, w, z⟩ => by
    subst a b
    refine ⟨tupD ns, rs.map tupD, dp_ti c, .lst d w.dp, shaped_ti ns, shaped_rows rs, ?_⟩
    rw [any_tupD]
    exact z
theorem op_notInR {K : PySem.W.Frag} (e : X.K = K) {k : Nat} (hr : Room k X.A) : OpR X (compareOp .NotIn) (fun x y H Q => ∃ (p q : Addr) (ns : List Int) (xs : List V) (rs : List (List Int)), x = .ref p ∧ y = .ref q ∧ SqT K H p (ns.map V.int) ∧ SqL K H q xs ∧ Rw K H xs rs ∧ Q (.bl (!decide (ns ∈ rs))) H) := by
  subst e
  exact op_imp (op_notInD (by have := hr.un; omega)) fun x y H Q ⟨p, q, ns, xs, rs, a, b, c, d, w, z⟩ => by
    subst a b
    refine ⟨tupD ns, rs.map tupD, dp_ti c, .lst d w.dp, shaped_ti ns, shaped_rows rs, ?_⟩
    rw [any_tupD]
    exact z
theorem eqv_rowsE (rs : List (List Int)) : PyData.eqv (.list (rs.map tupD)) (.list []) = decide (rs = []) := by
  cases rs with
  | nil => rfl
  | cons r rs => rfl
/-- rows == [], rows != [] -/
theorem op_eqRE {K : PySem.W.Frag} (e : X.K = K) {k : Nat} (hr : Room k X.A) : OpR X (compareOp .Eq) (fun x y H Q => ∃ (p q : Addr) (xs : List V) (rs : List (List Int)), x = .ref p ∧ y = .ref q ∧ SqL K H p xs ∧ Rw K H xs rs ∧ SqL K H q [] ∧ Q (.bl (decide (rs = []))) H) := by
  subst e
  exact op_imp (op_eqD hr.units) fun x y H Q ⟨p, q, xs, rs, a, b, c, d, w, z⟩ => by
    subst a b
    refine ⟨.list (rs.map tupD), .list [], .lst c d.dp, .lst w .nil, shaped_rows rs, shaped_rows [], ?_⟩
    rw [eqv_rowsE]
    exact z
theorem op_neRE {K : PySem.W.Frag} (e : X.K = K) {k : Nat} (hr : Room k X.A) : OpR X (compareOp .NotEq) (fun x y H Q => ∃ (p q : Addr) (xs : List V) (rs : List (List Int)), x = .ref p ∧ y = .ref q ∧ SqL K H p xs ∧ Rw K H xs rs ∧ SqL K H q [] ∧ Q (.bl (!decide (rs = []))) H) := by
  subst e
  exact op_imp (op_neD hr.units) fun x y H Q ⟨p, q, xs, rs, a, b, c, d, w, z⟩ => by
    subst a b
    refine ⟨.list (rs.map tupD), .list [], .lst c d.dp, .lst w .nil, shaped_rows rs, shaped_rows [], ?_⟩
    rw [eqv_rowsE]
    exact z
/-- xs[k:] of any list, 0 ≤ k -/
theorem sl_laFrom {K : PySem.W.Frag} (e : X.K = K) : SlR X (fun x lo hi H Q => ∃ p, ∃ xs : List V, ∃ k : Int, x = .ref p ∧ lo = some k ∧ hi = none ∧ SqL K H p xs ∧ 0 ≤ k ∧ New H (.lst (xs.drop k.toNat)) Q) := by
  subst e
  refine sl_imp sl_list fun x lo hi H Q ⟨p, xs, k, a, b, c, d, hk, n⟩ => ?_
  subst a b c
  refine ⟨p, _, rfl, d, ?_⟩
  have e : cutV xs (some k) none = xs.drop k.toNat := by
    have q := cut_drop xs k.toNat
    rw [show ((k.toNat : Nat) : Int) = k by omega] at q
    exact q
  rw [e]
  exact n.go
end
end Cf
namespace Cf
open PySem PySem.Spec PyProof.Rows L2
/-- what is walked inside a comprehension, the written part by its name -/
theorem pi_tupK {X : Cx} {K : PySem.W.Frag} {tg l : Expr} {tl : TE} (e : X.K = K) (hl : PE X l tl) : PI X tg l (iTup K tl) := by
  subst e
  exact pi_tup hl
end Cf

set_option Elab.async false
set_option linter.all false
set_option maxRecDepth 100000
namespace Cf
open PySem PySem.Spec PyProof.Rows L2
section
variable {X : Cx}
/-- the first pair that differs says which of two is less -/
def ltL : List Int → List Int → Bool
  | _, [] => false
  | [], _ :: _ => true
  | x :: xs, y :: ys => if x = y then ltL xs ys else decide (x < y)
theorem ltL_at : ∀ (ns ms : List Int) (i : Nat), Ob.lexAt (fun j => decide (ns.getD j 0 = ms.getD j 0)) (fun j => decide (ns.getD j 0 < ms.getD j 0)) (decide (ns.length < ms.length)) i (min ns.length ms.length - i) = if i ≤ min ns.length ms.length then ltL (ns.drop i) (ms.drop i) else decide (ns.length < ms.length) := by
  intro ns ms i
  by_cases h : i ≤ min ns.length ms.length
  · rw [if_pos h]
    obtain ⟨k, hk⟩ : ∃ k, k = min ns.length ms.length - i := ⟨_, rfl⟩
    rw [← hk]
    induction k generalizing i with
    | zero =>
      rw [Ob.lexAt_zero]
      rcases Nat.le_total ns.length ms.length with z | z
      · have e : i = ns.length := by omega
        rw [e, List.drop_length]
        by_cases w : ms.length = ns.length
        · rw [← w, List.drop_length, decide_eq_false (by omega)]
          rfl
        · rw [decide_eq_true (by omega)]
          cases q : ms.drop ns.length with
          | nil =>
            have := congrArg List.length q
            rw [List.length_drop, List.length_nil] at this
            omega
          | cons a b => rfl
      · have e : i = ms.length := by omega
        rw [e, List.drop_length, decide_eq_false (by omega)]
        cases ns.drop ms.length <;> rfl
    | succ k ih =>
      rw [Ob.lexAt_succ, ih (i + 1) (by omega) (by omega)]
      have l1 : i < ns.length := by omega
      have l2 : i < ms.length := by omega
      rw [List.drop_eq_getElem_cons l1, List.drop_eq_getElem_cons l2]
      have e1 : ns.getD i 0 = ns[i] := by simp [List.getD, List.getElem?_eq_getElem l1]
      have e2 : ms.getD i 0 = ms[i] := by simp [List.getD, List.getElem?_eq_getElem l2]
      show (if decide (ns.getD i 0 = ms.getD i 0) = true then _ else _) = if ns[i] = ms[i] then _ else _
      rw [e1, e2]
      by_cases w : ns[i] = ms[i]
      · rw [if_pos w, if_pos (decide_eq_true w)]
      · rw [if_neg w, if_neg (by rw [decide_eq_false w]; exact Bool.false_ne_true)]
  · rw [if_neg h, show min ns.length ms.length - i = 0 by omega, Ob.lexAt_zero]
theorem op_ltT {K : PySem.W.Frag} (e : X.K = K) {k : Nat} (hr : Room k X.A) : OpR X (compareOp .Lt) (fun x y H Q => ∃ (a b : Addr) (ns ms : List Int), x = .ref a ∧ y = .ref b ∧ SqT K H a (ns.map V.int) ∧ SqT K H b (ms.map V.int) ∧ Q (.bl (ltL ns ms)) H) := by
  subst e
  intro pins s σ H x y v u Q I rx ry h
  obtain ⟨a, b, ns, ms, rfl, rfl, ha, hb, q⟩ := h
  cases rx
  cases ry
  obtain ⟨its, r1, p1, _⟩ := I.tuple ha
  obtain ⟨its2, r2, p2, _⟩ := I.tuple hb
  have i1 : IntsAre its ns := Vals.ints r1
  have i2 : IntsAre its2 ms := Vals.ints r2
  have e1 : its.toArray.size = ns.length := by rw [List.size_toArray]; exact i1.length
  have e2 : its2.toArray.size = ms.length := by rw [List.size_toArray]; exact i2.length
  have at1 : ∀ j (h1 : j < its.toArray.size), ∃ t, its.toArray[j] = .int (ns.getD j 0) t := fun j h1 => PyProof.Rows.IntsAre.int_at i1 _ _ (by simp at h1; simp [h1])
  have at2 : ∀ j (h1 : j < its2.toArray.size), ∃ t, its2.toArray[j] = .int (ms.getD j 0) t := fun j h1 => PyProof.Rows.IntsAre.int_at i2 _ _ (by simp at h1; simp [h1])
  have hu : X.A.units < cLine := by have := hr.un; omega
  have R := Ob.RcOp.tuples_lt (A := X.A) (s := s) (e := fun j => decide (ns.getD j 0 = ms.getD j 0)) (r := fun j => decide (ns.getD j 0 < ms.getD j 0)) p1 p2 hu (fun j h1 h2 => by
    obtain ⟨t, et⟩ := at1 j h1
    obtain ⟨t', et'⟩ := at2 j h2
    rw [et, et']
    have z : (ns.getD j 0 == ms.getD j 0) = decide (ns.getD j 0 = ms.getD j 0) := by
      by_cases q : ns.getD j 0 = ms.getD j 0
      · rw [decide_eq_true q]; exact beq_iff_eq.mpr q
      · rw [decide_eq_false q]; exact beq_eq_false_iff_ne.mpr q
    rw [← z]
    exact SeqAt.EqAt.int_int _ _ _ _) (fun j h1 h2 _ => by
    obtain ⟨t, et⟩ := at1 j h1
    obtain ⟨t', et'⟩ := at2 j h2
    rw [et, et']
    exact Ob.RcOp.lt_int _ _ _ _)
  rw [e1, e2] at R
  have g := ltL_at ns ms 0
  rw [Nat.sub_zero, if_pos (Nat.zero_le _), List.drop_zero, List.drop_zero] at g
  rw [g] at R
  exact R X.prog X.w _ _ ⟨.bl _, H, I, rfl, q⟩
end
end Cf

set_option Elab.async false
set_option linter.all false
set_option maxRecDepth 100000
namespace Cf
open PySem PySem.Spec PyProof.Rows L2
/-! sorted of pairs of ints; (x,) * k from 0 on; xs[-1] of any list -/
/-- a list of pairs of ints -/
inductive Pr (H : Hp) : List V → List (Int × Int) → Prop
  | nil : Pr H [] []
  | cons {t : Addr} {i j : Int} {xs : List V} {ps : List (Int × Int)} : H t = some (.tup [.int i, .int j]) → Pr H xs ps → Pr H (.ref t :: xs) ((i, j) :: ps)
section
variable {H H' : Hp} {xs : List V} {ps : List (Int × Int)}
theorem Pr.go (e : ∀ t zs, H t = some (.tup zs) → H' t = some (.tup zs)) : ∀ {xs : List V} {ps : List (Int × Int)}, Pr H xs ps → Pr H' xs ps
  | _, _, .nil => .nil
  | _, _, .cons h t => .cons (e _ _ h) (t.go e)
theorem Pr.kp0 (h : Pr H xs ps) (k : Kp [] H H') : Pr H' xs ps := h.go fun _ _ z => k.at0 z
theorem Pr.md {D : Addr} {ys : List V} (h : Pr H xs ps) (hD : H D = some (.lst ys)) (m : Md D H H') : Pr H' xs ps := h.go fun t zs z => by
  have n : t ≠ D := by
    rintro rfl
    rw [z] at hD
    cases hD
  rw [m t n]
  exact z
theorem Pr.len : ∀ {xs : List V} {ps : List (Int × Int)}, Pr H xs ps → xs.length = ps.length
  | _, _, .nil => rfl
  | _, _, .cons _ t => by rw [List.length_cons, List.length_cons, t.len]
theorem Pr.snoc {t : Addr} {i j : Int} (h : H t = some (.tup [.int i, .int j])) : ∀ {xs : List V} {ps : List (Int × Int)}, Pr H xs ps → Pr H (xs ++ [.ref t]) (ps ++ [(i, j)])
  | _, _, .nil => .cons h .nil
  | _, _, .cons a r => .cons a (r.snoc h)
theorem Pr.get : ∀ {xs : List V} {ps : List (Int × Int)} {i : Nat} {x : V}, Pr H xs ps → xs[i]? = some x → ∃ t, x = .ref t ∧ i < ps.length ∧ H t = some (.tup [.int (ps.getD i (0, 0)).1, .int (ps.getD i (0, 0)).2])
  | _, _, 0, _, .cons h _, e => by
    cases e
    exact ⟨_, rfl, by simp, h⟩
  | _, _, i + 1, _, .cons _ t, e => by
    obtain ⟨u, a, b, c⟩ := t.get (i := i) (by simpa using e)
    exact ⟨u, a, by simpa using b, by simpa using c⟩
/-- what a pair says -/
def kOf (H : Hp) : V → Int × Int
  | .ref t => match H t with
    | some (.tup [.int i, .int j]) => (i, j)
    | _ => (0, 0)
  | _ => (0, 0)
theorem kOf_at {t : Addr} {i j : Int} (h : H t = some (.tup [.int i, .int j])) : kOf H (.ref t) = (i, j) := by
  simp only [kOf, h]
theorem Pr.all : ∀ {xs : List V} {ps : List (Int × Int)}, Pr H xs ps → ∀ x ∈ xs, ∃ t, x = V.ref t ∧ H t = some (.tup [.int (kOf H x).1, .int (kOf H x).2])
  | _, _, .cons h t, x, hx => by
    rcases List.mem_cons.mp hx with z | z
    · subst z
      refine ⟨_, rfl, ?_⟩
      rw [kOf_at h]
      exact h
    · exact t.all x z
theorem Pr.map : ∀ {xs : List V} {ps : List (Int × Int)}, Pr H xs ps → xs.map (kOf H) = ps
  | _, _, .nil => rfl
  | _, _, .cons h t => by rw [List.map_cons, t.map, kOf_at h]
theorem pr_of : ∀ (xs : List V), (∀ x ∈ xs, ∃ t, x = V.ref t ∧ H t = some (.tup [.int (kOf H x).1, .int (kOf H x).2])) → Pr H xs (xs.map (kOf H))
  | [], _ => .nil
  | x :: r, h => by
    obtain ⟨t, e, ht⟩ := h x List.mem_cons_self
    rw [List.map_cons]
    have hr := pr_of r fun y hy => h y (List.mem_cons_of_mem _ hy)
    subst e
    exact .cons (i := (kOf H (.ref t)).1) (j := (kOf H (.ref t)).2) ht hr
def PLe (p q : Int × Int) : Prop := p.1 < q.1 ∨ (p.1 = q.1 ∧ p.2 ≤ q.2)
end
section
variable {X : Cx}
theorem cr_srtP {K : PySem.W.Frag} (e : X.K = K) : CallR X (.builtin "sorted") (fun vs H Q => ∃ (p : Addr) (xs : List V) (ps : List (Int × Int)), vs = [.ref p] ∧ SqL K H p xs ∧ Pr H xs ps ∧
    ∀ (ys : List V) (qs : List (Int × Int)) (q : Addr) (H1 : Hp), Pr H1 ys qs → qs.Perm ps → qs.Pairwise PLe → H q = none → Kp [] H H1 → H1 q = some (.lst ys) → Q (.ref q) H1) := by
  subst e
  refine call_imp cr_sortedPO fun vs H Q ⟨p, xs, ps, a, b, c, w⟩ => ⟨p, xs, kOf H, a, b, c.all, fun ys q hs hb nq => ?_⟩
  have hall : ∀ x ∈ ys, ∃ t, x = V.ref t ∧ H t = some (.tup [.int (kOf H x).1, .int (kOf H x).2]) := fun x hx => c.all x (hb.perm.mem_iff.mp hx)
  have k : Kp [] H (upd H q (.lst ys)) := Kp.new nq
  refine w ys (ys.map (kOf H)) q _ ((pr_of ys hall).kp0 k) ?_ ?_ nq k upd_same
  · rw [← c.map]
    exact hb.perm.map _
  · refine List.pairwise_map.mpr (hs.imp fun {x y} h => ?_)
    have h : SrtO.lexB (kOf H y) (kOf H x) = false := h
    have h2 : ¬ ((kOf H y).1 < (kOf H x).1 ∨ ((kOf H y).1 = (kOf H x).1 ∧ (kOf H y).2 < (kOf H x).2)) := fun z => by
      rw [SrtO.lexB_iff.mpr z] at h
      cases h
    unfold PLe
    omega
end
open AutoSeq1 in
theorem tup_mul0 (l : Addr) (items : Array Value) (n : Nat) (dd : Option Addr) (sl : Array (Option Value)) (u : Tok) (hi : items.isEmpty = false) :
    Meets (Builtin.«tuple.__mul__» ⟨[.ref l, .int 0 u], []⟩) (fun _ R s => s.heap.get? l = some { cls := .type "tuple", dict := dd, data := .seq items n, slots := sl } ∧
      R (.ok (.ret (Value.ref s.heap.objs.size))) { s with heap := s.heap.push { cls := Value.type "tuple", data := Data.seq #[] }, toks := s.toks }) :=
  .of_wp fun prog w A R s h => by
    obtain ⟨hp, gn, d, tk, os⟩ := s
    obtain ⟨hl, h⟩ := h
    have f1 := AutoSeq1.idx_int
    wp_walk using wpAny_loadPart' hl
    repeat (first
      | (refine wpAny_ite_false (by decide) ?_; wp_walk using wpAny_loadPart' hl)
      | (refine wpAny_ite_false (decide_eq_false (by rw [hi]; decide)) ?_; wp_walk using wpAny_loadPart' hl)
      | (refine wpAny_ite_true (by simp) ?_; wp_walk using wpAny_loadPart' hl))
    exact ⟨_, rfl, h⟩
section
variable {X : Cx}
/-- (x, ..) * 0 -/
theorem op_repT0 : OpR X (binaryOp .Mult) (fun x y H Q => ∃ p xs, x = .ref p ∧ y = .int 0 ∧ SqT X.K H p xs ∧ xs ≠ [] ∧ ∀ q, H q = none → Q (.ref q) (upd H q (.tup []))) := by
  intro pins s σ H x y v u Q I rx ry h
  obtain ⟨l, xs, rfl, rfl, hT, hne, q⟩ := h
  cases rx
  obtain ⟨t, rfl⟩ := ry
  obtain ⟨its, r, ⟨⟨cls, dd, data, sl⟩, ho, hc, n, hd⟩, hs⟩ := I.tuple hT
  simp only at hc hd
  subst hc hd
  have hle : its.length = xs.length := r.length.symm
  have hn : its ≠ [] := fun e => hne (by
    rw [e] at hle
    exact List.eq_nil_of_length_eq_zero hle.symm)
  have hi : its.toArray.isEmpty = false := by
    cases its with
    | nil => exact absurd rfl hn
    | cons a b => rfl
  refine wpAny_binaryOp_repeat_ref (T := "tuple") (U := "int") (by decide) ⟨_, ho, rfl⟩ (fun s' => typeIs_int s' 0 t) noFill_tuple_mul F.fills_int_mul F.slot_int_rmul repeat_tuple F.slot_int_index.lookup ?_
  refine call_meets F.slot_int_rmul (typeIs_int s 0 t) F.entry_int_rmul (F.args_int_rmul_2 _ _) (int_rmul_tuple 0 t l its.toArray n dd sl) ⟨ho, rfl, ⟨_, ho, rfl⟩, ?_⟩
  refine call_meets F.slot_tuple_mul ⟨_, ho, rfl⟩ F.entry_tuple_mul (F.args_tuple_mul_2 _ _) (tup_mul0 l its.toArray n dd sl t hi) ⟨ho, ?_⟩
  refine ⟨.ref s.heap.objs.size, _, I.laid (t' := s.toks) (o := .tup []) (fun b ob q => Heap.get?_push_of_some _ q) (Nat.le_refl _) ?_, rfl, q _ (I.hok.fresh (Nat.le_refl _))⟩
  exact ⟨Nat.zero_le _, _, .nil, IsTup.new _ _⟩
/-- (x,) * k of ints, 0 ≤ k -/
theorem op_repTZ {K : PySem.W.Frag} (e : X.K = K) : OpR X (binaryOp .Mult) (fun x y H Q => ∃ p, ∃ ns : List Int, ∃ k : Int, x = .ref p ∧ y = .int k ∧ SqT K H p (ns.map V.int) ∧ ns ≠ [] ∧ 0 ≤ k ∧ k ≤ 1000 ∧ ns.length ≤ 1000 ∧
    ∀ q H1, Kp [] H H1 → SqT K H1 q (((List.replicate k.toNat ns).flatten).map V.int) → Q (.ref q) H1) := by
  subst e
  intro pins s σ H x y v u Q I rx ry h
  obtain ⟨p, ns, k, a, b, c, ne, h1, h2, h3, w⟩ := h
  by_cases e : k = 0
  · subst e
    refine op_repT0 pins s σ H x y v u Q I rx ry ⟨p, _, a, b, c, by simpa using ne, fun q nq => w q _ (Kp.new nq) (sqT upd_same)⟩
  · exact op_repT pins s σ H x y v u Q I rx ry ⟨p, ns, k, a, b, c, ne, by omega, h2, h3, w⟩
/-- xs[-1] of any list -/
theorem ix_laE {K : PySem.W.Frag} (e : X.K = K) : IxR X (fun x y H Q => ∃ (p : Addr) (xs : List V) (i : Int) (v : V), x = .ref p ∧ y = .int i ∧ SqL K H p xs ∧ (i = -1 ∧ 0 < xs.length) ∧ xs[xs.length - 1]? = some v ∧ Q v H) := by
  subst e
  refine ix_imp ix_list fun x y H Q ⟨p, xs, i, v, a, b, c, d, g, q⟩ => ⟨p, xs, _, v, a, b, c, ?_, q⟩
  have h1 : ixN xs.length i = some (xs.length - 1) := by
    rw [d.1]
    unfold ixN
    simp
    omega
  unfold atI
  rw [h1]
  exact g
end
end Cf

set_option Elab.async false
set_option linter.all false
set_option maxRecDepth 100000
namespace Cf
open PySem PySem.Spec PyProof.Rows L2
/-! tuples that have no names of their own: displays, (x,) * k; lists of bools; xs[:k] of any list; tuple(range(n)) -/
section
variable {X : Cx}
def tTIF (t : TA) : TE := fun σ H Q => t σ H fun xs H1 => ∃ ns : List Int, xs = ns.map V.int ∧ ns.length ≤ sizeLine ∧ NewF H1 (ns.map V.int) Q
theorem pe_tiF {k : Nat} {es : List Expr} {ta : TA} {pos : Pos} (h : PA X es ta) : PE X (.Tuple es k pos) (tTIF ta) := by
  refine ⟨fun pins s σ H Q I hq => ?_⟩
  refine wpAny_Tuple_spliced (thn (h.run pos pins s σ H _ I hq) fun us s1 ⟨xs, H1, I1, r, ns, ex, z, q⟩ => ⟨by rw [← r.length, ex, List.length_map]; exact z, ?_⟩)
  subst ex
  have hf : H1 s1.heap.objs.size = none := I1.hok.fresh (Nat.le_refl _)
  refine ⟨.ref s1.heap.objs.size, upd H1 s1.heap.objs.size (.frz { cls := .type "tuple", data := .seq us.toArray } (.tup (ns.map V.int))), I1.laid (t' := s1.toks) (fun b u e => Heap.get?_push_of_some _ e) (Nat.le_refl _) ?_, rfl, q _ _ _ hf (Kp.new hf) rfl upd_same⟩
  exact ⟨Heap.get?_push_size _ rfl, by rw [List.length_map]; exact z, us, r, ⟨_, Heap.get?_push_size _ rfl, rfl, _, rfl⟩⟩
/-- (x, ..) * k of ints, 1 ≤ k: without names of its own -/
theorem op_repTF {K : PySem.W.Frag} (e : X.K = K) : OpR X (binaryOp .Mult) (fun x y H Q => ∃ p, ∃ ns : List Int, ∃ k : Int, x = .ref p ∧ y = .int k ∧ SqT K H p (ns.map V.int) ∧ PlT H p ∧ ns ≠ [] ∧ 1 ≤ k ∧ k ≤ 1000 ∧ ns.length ≤ 1000 ∧
    ∀ q H1, Kp [] H H1 → PlT H1 q → SqT K H1 q (((List.replicate k.toNat ns).flatten).map V.int) → Q (.ref q) H1) := by
  subst e
  intro pins s σ H x y v u Q I rx ry h
  obtain ⟨l, ns, k, rfl, rfl, hT, hPl, hne, h1, h2, hz, q⟩ := h
  by_cases e1 : k = 1
  · subst e1
    refine op_repT1 pins s σ H _ _ v u Q I rx ry ⟨l, _, rfl, rfl, hT, q l H Kp.refl hPl ?_⟩
    show SqT X.K H l (((List.replicate 1 ns).flatten).map V.int)
    rw [show (List.replicate 1 ns).flatten = ns by simp]
    exact hT
  cases rx
  obtain ⟨t, rfl⟩ := ry
  obtain ⟨its, r, ⟨⟨cls, dd, data, sl⟩, ho, hc, n, hd⟩, hs⟩ := I.tuple hT
  simp only at hc hd
  subst hc hd
  have hle : its.length = ns.length := by rw [← r.length, List.length_map]
  have hn : its ≠ [] := fun e => hne (by
    rw [e] at hle
    exact List.eq_nil_of_length_eq_zero hle.symm)
  have hi : its.toArray.isEmpty = false := by
    cases its with
    | nil => exact absurd rfl hn
    | cons a b => rfl
  have hsz0 : its.toArray.size = ns.length := by rw [List.size_toArray, hle]
  have hm : ((its.toArray.size : Nat) : Int) * k ≤ 1000000 := by
    rw [hsz0]
    have a1 : ((ns.length : Nat) : Int) * k ≤ 1000 * k := Int.mul_le_mul_of_nonneg_right (by omega) (by omega)
    omega
  have flen : (List.replicate k.toNat its).flatten.length ≤ sizeLine := by
    rw [PyProof.Rows.lm_len_rep_flat, hle, sizeLine_eq]
    have a1 : k.toNat * ns.length ≤ 1000 * 1000 := Nat.mul_le_mul (by omega) hz
    omega
  have c0 : (decide (k < -(2 ^ 63)) || decide (k ≥ 2 ^ 63)) = false := by
    rw [decide_eq_false (by omega), decide_eq_false (by omega)] <;> rfl
  have c1 : (its.toArray.isEmpty || k == 1) = false := by
    rw [hi, Bool.false_or]
    exact beq_eq_false_iff_ne.mpr (by omega)
  have c2 : (decide (k ≤ 0) || its.toArray.isEmpty) = false := by
    rw [hi, Bool.or_false]
    exact decide_eq_false (by omega)
  have c4 : Builtin.Tuple.tupleTooMany (((its.toArray.size : Nat) : Int) * k) = false := by
    unfold Builtin.Tuple.tupleTooMany
    rw [sizeLine_eq]
    exact decide_eq_false (by omega)
  refine wpAny_binaryOp_repeat_ref (T := "tuple") (U := "int") (by decide) ⟨_, ho, rfl⟩ (fun s' => typeIs_int s' k t) noFill_tuple_mul F.fills_int_mul F.slot_int_rmul repeat_tuple F.slot_int_index.lookup
    (call_meets F.slot_int_rmul (typeIs_int s k t) F.entry_int_rmul (F.args_int_rmul_2 _ _) (int_rmul_tuple k t l its.toArray n dd sl)
      ⟨ho, rfl, ⟨_, ho, rfl⟩, call_meets F.slot_tuple_mul ⟨_, ho, rfl⟩ F.entry_tuple_mul (F.args_tuple_mul_2 _ _) (tuple_mulW l its.toArray n dd sl k t c0 c1 c2 (by omega) c4 (by rw [size_rep, List.size_toArray]; exact flen)) ⟨ho, ?_⟩⟩)
  rw [size_rep]
  have hf := I.hok.fresh (Nat.le_refl s.heap.objs.size)
  have hlr : (((List.replicate k.toNat ns).flatten).map V.int).length ≤ sizeLine := by
    rw [← rep_map, PyProof.Rows.lm_len_rep_flat, List.length_map, sizeLine_eq]
    have a1 : k.toNat * ns.length ≤ 1000 * 1000 := Nat.mul_le_mul (by omega) hz
    omega
  refine ⟨.ref s.heap.objs.size, _, I.laid (t' := s.toks) (o := .frz { cls := Value.type "tuple", data := Data.seq (List.replicate k.toNat its).flatten.toArray } (.tup (((List.replicate k.toNat ns).flatten).map V.int))) (fun b ob q => Heap.get?_push_of_some _ q) (Nat.le_refl _) ?_, rfl, q _ _ (Kp.new hf) (plF (xs := ((List.replicate k.toNat ns).flatten).map V.int) rfl upd_same) (sqF upd_same)⟩
  refine ⟨Heap.get?_push_size _ rfl, hlr, _, ?_, IsTup.new _ _⟩
  rw [← rep_map]
  exact r.rep k.toNat
/-- xs[:k] of any list -/
theorem sl_laTo {K : PySem.W.Frag} (e : X.K = K) : SlR X (fun x lo hi H Q => ∃ p, ∃ xs : List V, ∃ k : Int, x = .ref p ∧ lo = none ∧ hi = some k ∧ SqL K H p xs ∧ 0 ≤ k ∧ New H (.lst (xs.take k.toNat)) Q) := by
  subst e
  refine sl_imp sl_list fun x lo hi H Q ⟨p, xs, k, a, b, c, d, h0, w⟩ => ⟨p, xs, a, d, fun q nq => ?_⟩
  subst b c
  have e : cutV xs none (some k) = xs.take k.toNat := by
    rw [show k = ((k.toNat : Nat) : Int) by omega]
    rw [cut_take]
    congr 1
  rw [e]
  exact w.go q nq
/-- tuple(range(n)) -/
def tTupUp (ta : TE) : TE := fun σ H Q => ta σ H fun x H1 => ∃ n : Nat, x = .int (n : Int) ∧ n ≤ 1000 ∧ New H1 (.tup ((upto n).map V.int)) Q
theorem pe_tupUp {a : Expr} {ta : TE} {p p2 pos pos2 : Pos} (hc : X.calm = true) (hg : Gl X "tuple") (hm : X.mg "tuple" = none) (hg2 : Gl X "range") (hm2 : X.mg "range" = none) (ha : PE X a ta)
    (na : starEach [Expr.Call (.Name "range" p2) [a] [] pos2] X.env = (false, eval (Expr.Call (.Name "range" p2) [a] [] pos2) X.env) :: starEach [] X.env := by rfl)
    (nb : starEach [a] X.env = (false, eval a X.env) :: starEach [] X.env := by rfl) :
    PE X (.Call (.Name "tuple" p) [.Call (.Name "range" p2) [a] [] pos2] [] pos) (tTupUp ta) :=
  pe_imp (pe_tupRg hc hg hm (prg_1 hg2 hm2 (pe_up ha) nb) na) fun σ H Q h => ⟨_, h, fun v H1 ⟨n, ev, hn, w⟩ => ⟨(n : Int), ev, RgOk.of_le (by omega) (by omega) (by omega) (by omega), fun q nq => by
    rw [rgV_upto]
    exact w.go q nq⟩⟩
theorem eqvAll_bools : ∀ ns ms : List Bool, PyData.eqvAll (ns.map PyData.bool) (ms.map PyData.bool) = decide (ns = ms)
  | [], [] => by simp [PyData.eqvAll]
  | [], _ :: _ => by simp [PyData.eqvAll]
  | _ :: _, [] => by simp [PyData.eqvAll]
  | a :: r, b :: t => by
    rw [List.map_cons, List.map_cons]
    simp only [PyData.eqvAll]
    rw [eqvAll_bools r t]
    cases a <;> cases b <;> simp [PyData.eqv]
theorem dp_bools {K : PySem.W.Frag} {H : Hp} : ∀ ns : List Bool, DpAll K H (ns.map V.bl) (ns.map PyData.bool)
  | [] => .nil
  | b :: r => .cons (.bl b) (dp_bools r)
theorem canAll_bools : ∀ ns : List Bool, PyData.canLayAll0 (ns.map PyData.bool) = true
  | [] => by simp [PyData.canLayAll0]
  | _ :: r => by simp [PyData.canLayAll0, PyData.canLay0, canAll_bools r]
theorem depth_bools : ∀ ns : List Bool, PyData.depthAll (ns.map PyData.bool) ≤ 0
  | [] => by simp [PyData.depthAll]
  | _ :: r => by
    have := depth_bools r
    simp only [List.map_cons, PyData.depthAll, PyData.depth]
    omega
theorem shaped_bools (ns : List Bool) : SeqAt.shaped (.list (ns.map PyData.bool)) = true := by
  unfold SeqAt.shaped
  have := depth_bools ns
  simp only [PyData.canLay0, canAll_bools, Bool.true_and, Bool.and_true, decide_eq_true_eq]
  simp only [PyData.depth]
  omega
/-- lists of bools -/
theorem op_neLB {K : PySem.W.Frag} (e : X.K = K) {k : Nat} (hr : Room k X.A) : OpR X (compareOp .NotEq) (fun x y H Q => ∃ p q, ∃ ns ms : List Bool, x = .ref p ∧ y = .ref q ∧ SqL K H p (ns.map V.bl) ∧ SqL K H q (ms.map V.bl) ∧ Q (.bl (!decide (ns = ms))) H) := by
  subst e
  exact op_imp (op_neD hr.units) fun x y H Q ⟨p, q, ns, ms, a, b, c, d, w⟩ => by
    subst a b
    refine ⟨_, _, .lst c (dp_bools ns), .lst d (dp_bools ms), shaped_bools ns, shaped_bools ms, ?_⟩
    simp only [PyData.eqv]
    rw [eqvAll_bools]
    exact w
end
end Cf

set_option Elab.async false
set_option linter.all false
set_option maxRecDepth 100000
namespace Cf
open PySem PySem.Spec PyProof.Rows L2
/-! set(xs), xs a list of ints -/
abbrev set0 (w : World) : Obj := { cls := .type "set", dict := none, data := .set #[] 0 (.fresh 0 0 (!w.params.followText "set-order")) }
section
variable {P : Program} {w : World} {A : Around} {E : Value → Shared → Prop} {s : Shared}
theorem vals_at {its : Array Value} {ns : List Int} (hi : IntsAre its.toList ns) (he : its.size = ns.length) : ∀ (i : Nat) (v : Value), its[i]? = some v → ∃ k t, ns[i]? = some k ∧ v = .int k t := by
  intro i v hv
  have h1 : i < ns.length := by
    rw [← he]
    exact (Array.getElem?_eq_some_iff.mp hv).1
  have h2 := IntsAre.int_at hi i v (by rw [Array.getElem?_toList]; exact hv)
  obtain ⟨t, e⟩ := h2
  have h3 : ns[i]? = some (ns.getD i 0) := by
    rw [List.getD_eq_getElem?_getD, List.getElem?_eq_getElem h1]
    rfl
  exact ⟨_, t, h3, e⟩
/-- the loop of set.__init__ over a list -/
theorem init_list {l : Addr} {its : Array Value} (ns : List Int) {R : Value → Shared → Prop} (hh : A.handled = none) (hl : s.heap.IsList l its) (hi : IntsAre its.toList ns) (hb : ns.length + 1 < scanBound)
    (hR : ∀ (h' : Heap) (tk c : Nat), SetR w h' s.heap.objs.size (fun j => decide (j ∈ ns)) c → c ≤ ns.length → (∀ b o, s.heap.get? b = some o → h'.get? b = some o) → R .none { s with heap := h', toks := tk }) :
    codeAny (model P w) A.in1 (.builtin "set.update.loop" ⟨[.ref s.heap.objs.size, .ref (s.heap.push (set0 w)).objs.size], []⟩) (wants R E)
      { s with heap := (s.heap.push (set0 w)).push { cls := .type "list_iterator", data := .fields #[.ref l, .int 0 0] } } := by
  have he : its.size = ns.length := by
    have q := hi.length
    rwa [Array.length_toList] at q
  have lS : l < s.heap.objs.size := by
    obtain ⟨o, ho, _⟩ := hl
    exact Heap.lt_size ho
  have hS : (s.heap.push (set0 w)).get? s.heap.objs.size = some (set0 w) := Heap.get?_push_size _ rfl
  have z1 : (s.heap.push (set0 w)).objs.size = s.heap.objs.size + 1 := Heap.size_push ..
  refine set_update_ints (Walks.list (by simp [hh]) _ l (by rw [z1]; exact Nat.ne_of_lt (Nat.lt_succ_of_lt lS)) its).toS _ ?_ ns he hb (vals_at hi he) its.size 0 _ (Nat.sub_zero _) (Nat.zero_le _) ⟨⟨_, Heap.get?_push_size _ rfl, rfl, rfl⟩, (hl.push _).push _⟩ ⟨0, Nat.le_refl 0, setR_new_at (Heap.get?_push_of_some _ hS)⟩ ?_
  · rw [z1]
    intro z
    rcases List.mem_cons.mp z with z | z
    · exact Nat.ne_of_lt (Nat.lt_succ_self _) z
    · exact Nat.ne_of_gt lS (List.mem_singleton.mp z)
  · intro s' c mv hc hs
    obtain ⟨h', gn, dr, tk, os⟩ := s'
    have a1 : gn = s.gens := mv.gens
    have a2 : dr = s.drawn := mv.drawn
    have a3 : os = s.os := mv.os
    subst a1 a2 a3
    refine hR h' tk c hs (by omega) fun b o e => ?_
    have hb0 : b < s.heap.objs.size := Heap.lt_size e
    refine mv.heap b o ?_ (Heap.get?_push_of_some _ (Heap.get?_push_of_some _ e))
    rw [z1]
    intro z
    rcases List.mem_cons.mp z with z | z
    · exact Nat.ne_of_lt hb0 z
    · exact Nat.ne_of_lt (Nat.lt_succ_of_lt hb0) (List.mem_singleton.mp z)
set_option maxHeartbeats 3200000 in
theorem set_of_list {l : Addr} {its : Array Value} (ns : List Int) {Q : Value → Shared → Prop} (hh : A.handled = none) (hl : s.heap.IsList l its) (hi : IntsAre its.toList ns) (hb : ns.length + 1 < scanBound)
    (hQ : ∀ (h' : Heap) (tk c : Nat), SetR w h' s.heap.objs.size (fun j => decide (j ∈ ns)) c → c ≤ ns.length → (∀ b o, s.heap.get? b = some o → h'.get? b = some o) → Q (.ref s.heap.objs.size) { s with heap := h', toks := tk }) :
    wpAny (model P w) A (call (.type "set") [.ref l]) Q E s := by
  obtain ⟨c0, tl, g0⟩ := F.called_set.mro
  have g1 := F.called_set.made
  have g2 := F.called_set.sub
  have g3 := F.called_set.notType
  have g4 := F.called_set.canCreate
  have g5 := F.typeCall_set_1 (.ref l)
  refine wpAny_call (codeAny_of_tree (show wpAny _ _ (callAny (.type "set") _) _ _ _ from wpAny_pure ⟨Code.quiet_builtin _ (by decide +kernel), codeAny_builtin F.entry_type_call ?_⟩))
  rw [Around.under_plain (weight_type_call_type "set" [.ref l] []) rfl]
  repeat (any_goals (first | assumption | wp_step))
  refine codeAny_mono (code_set_led1 (.ref l) (E := E) (Q₁ := fun o1 s1 => o1 = .ref s.heap.objs.size ∧ s1 = { s with heap := s.heap.push (set0 w) }) ⟨rfl, rfl⟩) fun r1 s1 q1 => ?_
  match r1, q1 with
  | .error e1, q1 => exact q1
  | .ok (.ret o1), q1 =>
    obtain ⟨rfl, rfl⟩ := q1
    have hS : (s.heap.push (set0 w)).get? s.heap.objs.size = some (set0 w) := Heap.get?_push_size _ rfl
    have hT : Shared.TypeIs { s with heap := s.heap.push (set0 w) } (.ref s.heap.objs.size) "set" := ⟨_, hS, rfl⟩
    have g6 := F.called_set.init.lookup
    have g7 := F.called_set.init.bind (.ref s.heap.objs.size)
    repeat (any_goals (first | assumption | wp_step))
    refine codeAny_mono (codeAny_call_builtin (R := wants (fun r2 s2 => r2 = .none ∧ ∃ h' tk c, s2 = { s with heap := h', toks := tk } ∧ SetR w h' s.heap.objs.size (fun j => decide (j ∈ ns)) c ∧ c ≤ ns.length ∧ ∀ b o, s.heap.get? b = some o → h'.get? b = some o) E) F.called_set.init.plain F.entry_set_init (check_set_init_1 hT ?_)) fun r2 s2 q2 => ?_
    · obtain ⟨ol, hol, hcl, nl, hdl⟩ := id hl
      obtain ⟨ocls, odict, odata, oslots⟩ := ol
      simp only at hcl hdl
      subst hcl hdl
      have hp : (s.heap.push (set0 w)).get? l = some { cls := .type "list", dict := odict, data := .seq its nl, slots := oslots } := Heap.get?_push_of_some _ hol
      have g8 := F.sub_list_set
      have g9 := F.sub_list_frozenset
      have g10 : (Value.type "list" == Value.type "dict") = false := by decide
      have hl1 : (s.heap.push (set0 w)).IsList l its := ⟨_, hp, rfl, nl, rfl⟩
      unfold Builtin.«set.__init__» noKeywords Builtin.Frozenset.updateFrom
      generalize hPI : pyIter = PI
      wp_walk
      subst hPI
      refine wpAny_pyIter_list hl1 (wpAny_bind (wpAny_runValue ?_))
      refine codeAny_mono (init_list (A := A.in1) (E := E) (R := fun r2 s2 => r2 = .none ∧ ∃ h' tk c, s2 = { s with heap := h', toks := tk } ∧ SetR w h' s.heap.objs.size (fun j => decide (j ∈ ns)) c ∧ c ≤ ns.length ∧ ∀ b o, s.heap.get? b = some o → h'.get? b = some o) ns (by simp [hh]) hl hi hb fun h' tk c x y z => ⟨rfl, h', tk, c, rfl, x, y, z⟩) fun r3 s3 q3 => ?_
      match r3, q3 with
      | .error _, q3 => exact q3
      | .ok (.ret _), q3 => exact wpAny_pure (wpAny_pure ⟨rfl, q3.2⟩)
      | .ok .next, q3 => exact q3.elim
      | .ok .brk, q3 => exact q3.elim
      | .ok .cont, q3 => exact q3.elim
    · match r2, q2 with
      | .error _, q2 => exact q2
      | .ok (.ret _), q2 =>
        obtain ⟨rfl, h', tk, c, rfl, x, y, z⟩ := q2
        repeat (any_goals (first | assumption | wp_step))
        exact hQ h' tk c x y z
      | .ok .next, q2 => exact q2.elim
      | .ok .brk, q2 => exact q2.elim
      | .ok .cont, q2 => exact q2.elim
  | .ok .next, q1 => exact q1.elim
  | .ok .brk, q1 => exact q1.elim
  | .ok .cont, q1 => exact q1.elim
end
section
variable {X : Cx}
/-- set(xs), xs a list of ints -/
theorem cr_setL {K : PySem.W.Frag} {w : World} (e : X.K = K) (ew : X.w = w) (hc : X.calm = true) : CallR X (.type "set") (fun vs H Q => ∃ (p : Addr) (ns : List Int), vs = [.ref p] ∧ SqL K H p (ns.map V.int) ∧ ns.length ≤ 50 ∧
    ∀ a H' c, H a = none → Kp [] H H' → H' a = some (SetO w a (fun j => decide (j ∈ ns)) c) → c ≤ ns.length → Q (.ref a) H') := by
  subst e ew
  intro pins s σ H vs us Q I r h
  obtain ⟨p, ns, rfl, hs, hl, q⟩ := h
  obtain ⟨its, rv, ht, hz⟩ := I.list hs
  rw [Vals.ref1 r]
  have hi := rv.ints
  refine set_of_list ns (I.ok.hd hc) ht.isList (by simpa using hi) (by unfold scanBound; omega) fun h' tk c R1 hcn k => ?_
  exact ⟨.ref _, upd H s.heap.objs.size (SetO X.w s.heap.objs.size (fun j => decide (j ∈ ns)) c), I.laid (t' := tk) k (Nat.le_refl _) (setO_new R1), rfl, q _ _ c (I.hok.fresh (Nat.le_refl _)) (Kp.new (I.hok.fresh (Nat.le_refl _))) upd_same hcn⟩
end
end Cf

set_option Elab.async false
set_option linter.all false
set_option maxRecDepth 100000
namespace Cf
open PySem PySem.Spec PyProof.Rows L2
/-- a test, with what is known behind it said once -/
theorem pt_up {X : Cx} {c : Expr} {t : TT} (h : PT X c t) : PT X c (upT t) := by
  constructor
  rintro pins s σ H Q I ⟨Q0, q, w⟩
  refine thn (h.run pins s σ H Q0 I q) ?_
  rintro b s' ⟨H', I', z⟩
  exact ⟨H', I', w b H' z⟩
end Cf

set_option Elab.async false
set_option linter.all false
set_option maxRecDepth 100000
namespace Cf
open PySem PySem.Spec PyProof.Rows L2
/-! dicts whose keys are tuples of ints -/
theorem hu1 {A : Around} {k : Nat} (hr : Room k A) : A.units + 1 < cLine := by
  have := hr.units
  omega
def kI (ns : List Int) : List Key := ns.map Sum.inl
theorem kI_map (ns : List Int) : (kI ns).map kV = ns.map V.int := by
  unfold kI
  rw [List.map_map]
  rfl
theorem kI_inj {ns ms : List Int} (h : kI ns = kI ms) : ns = ms := by
  have := congrArg (List.map kV) h
  rw [kI_map, kI_map] at this
  have h2 := congrArg (List.map fun v : V => match v with | .int i => i | _ => 0) this
  simpa [List.map_map, Function.comp_def] using h2
theorem dget_t {H : Hp} {a b : Addr} {kvs : List (List Key × V)} {ns : List Int} (e : H a = some (.dT kvs)) (eb : H b = some (.tup (ns.map V.int))) : DGet H a (.ref b) (valV kvs (kI ns)) :=
  DGet.t e (by rw [kI_map]; exact eb)
theorem dput_t {H : Hp} {a b : Addr} {kvs : List (List Key × V)} {ns : List Int} {v : V} (e : H a = some (.dT kvs)) (eb : H b = some (.tup (ns.map V.int))) (hl : kvs.length < sizeLine) : DPut H a (.ref b) v (upd H a (.dT (putK kvs (kI ns) v))) :=
  DPut.t e (by rw [kI_map]; exact eb) hl
theorem valV_mem {kvs : List (List Key × V)} {k : List Key} {v : V} (h : valV kvs k = some v) : (k, v) ∈ kvs := by
  unfold valV at h
  cases e : kvs.find? fun kv => decide (kv.1 = k) with
  | none =>
    rw [e] at h
    cases h
  | some kv =>
    rw [e] at h
    have h1 := List.mem_of_find?_eq_some e
    have h2 : kv.1 = k := by
      have := List.find?_some e
      exact of_decide_eq_true this
    cases h
    rw [← h2]
    exact h1
theorem put_mem {kvs : List (List Key × V)} {k : List Key} {v : V} {x : List Key × V} (h : x ∈ putK kvs k v) : x ∈ kvs ∨ x = (k, v) := by
  unfold putK at h
  split at h
  · obtain ⟨y, hy, e⟩ := List.mem_map.mp h
    by_cases c : y.1 = k
    · rw [if_pos c] at e
      exact .inr (by rw [← e, c])
    · rw [if_neg c] at e
      exact .inl (by rw [← e]; exact hy)
  · rcases List.mem_append.mp h with z | z
    · exact .inl z
    · exact .inr (List.mem_singleton.mp z)
theorem put_nodup {kvs : List (List Key × V)} {k : List Key} {v : V} (h : (kvs.map (·.1)).Nodup) : ((putK kvs k v).map (·.1)).Nodup := by
  unfold putK
  split
  · rw [List.map_map]
    have e : ((·.1) ∘ fun kv : List Key × V => if kv.1 = k then (kv.1, v) else kv) = (·.1) := by
      funext kv
      simp only [Function.comp]
      split <;> rfl
    rw [e]
    exact h
  · rename_i c
    rw [List.map_append]
    refine List.nodup_append.mpr ⟨h, by simp, fun a ha b hb => ?_⟩
    simp at hb
    subst hb
    intro z
    subst z
    obtain ⟨y, hy, e⟩ := List.mem_map.mp ha
    exact c (List.any_eq_true.mpr ⟨y, hy, decide_eq_true e⟩)
theorem nodup_len : ∀ (N : Nat) (l : List Nat), l.Nodup → (∀ x ∈ l, x < N) → l.length ≤ N
  | 0, l, _, h => by
    cases l with
    | nil => exact Nat.le_refl _
    | cons x r => exact absurd (h x List.mem_cons_self) (Nat.not_lt_zero _)
  | N + 1, l, hn, h => by
    by_cases c : N ∈ l
    · have ih := nodup_len N (l.erase N) (hn.erase N) fun x hx => by
        have h1 := h x (List.mem_of_mem_erase hx)
        have h2 : x ≠ N := fun z => by
          rw [z] at hx
          exact (List.Nodup.not_mem_erase hn) hx
        omega
      rw [List.length_erase_of_mem c] at ih
      omega
    · have ih := nodup_len N l hn fun x hx => by
        have h1 := h x hx
        have h2 : x ≠ N := fun z => c (by rw [← z]; exact hx)
        omega
      omega
end Cf

set_option Elab.async false
set_option linter.all false
set_option maxRecDepth 100000
namespace Cf
open PySem PySem.Spec PyProof.Rows L2
/-! rows that are tuples of the program's own -/
inductive Rt (H : Hp) : List V → List (List Int) → Prop
  | nil : Rt H [] []
  | cons {p : Addr} {ns : List Int} {xs : List V} {rs : List (List Int)} : H p = some (.tup (ns.map V.int)) → Rt H xs rs → Rt H (.ref p :: xs) (ns :: rs)
section
variable {H H' : Hp} {xs ys : List V} {rs ts : List (List Int)}
theorem Rt.go (e : ∀ p zs, H p = some (.tup zs) → H' p = some (.tup zs)) : ∀ {xs : List V} {rs : List (List Int)}, Rt H xs rs → Rt H' xs rs
  | _, _, .nil => .nil
  | _, _, .cons h t => .cons (e _ _ h) (t.go e)
theorem Rt.kp0 (h : Rt H xs rs) (k : Kp [] H H') : Rt H' xs rs := h.go fun _ _ z => k.at0 z
theorem Rt.kt {T : List (Addr × Str)} (h : Rt H xs rs) (k : Kt T H H') : Rt H' xs rs := h.go fun _ _ z => k.atT z
theorem Rt.md {D : Addr} {o : HO} (h : Rt H xs rs) (hD : H D = some o) (no : ∀ zs, o ≠ .tup zs) (m : Md D H H') : Rt H' xs rs := h.go fun t zs z => by
  have n : t ≠ D := by
    rintro rfl
    rw [z] at hD
    cases hD
    exact no _ rfl
  rw [m t n]
  exact z
theorem Rt.mdl {D : Addr} {zs : List V} (h : Rt H xs rs) (hD : H D = some (.lst zs)) (m : Md D H H') : Rt H' xs rs := h.md hD (fun _ z => nomatch z) m
theorem Rt.hand {a : Addr} {zs : List V} (h : Rt H xs rs) (ha : H a = some (.lst zs)) (m : Kp [a] H H') : Rt H' xs rs := h.go fun t ys z => m.at1 (fun w => by rw [w, ha] at z; cases z) z
theorem Rt.len : ∀ {xs : List V} {rs : List (List Int)}, Rt H xs rs → xs.length = rs.length
  | _, _, .nil => rfl
  | _, _, .cons _ t => by rw [List.length_cons, List.length_cons, t.len]
theorem Rt.app : ∀ {xs : List V} {rs : List (List Int)}, Rt H xs rs → Rt H ys ts → Rt H (xs ++ ys) (rs ++ ts)
  | _, _, .nil, b => b
  | _, _, .cons h t, b => .cons h (t.app b)
theorem Rt.one {p : Addr} {ns : List Int} (h : H p = some (.tup (ns.map V.int))) : Rt H [.ref p] [ns] := .cons h .nil
theorem Rt.get : ∀ {xs : List V} {rs : List (List Int)} {i : Nat} {x : V}, Rt H xs rs → xs[i]? = some x → ∃ p, x = .ref p ∧ i < rs.length ∧ H p = some (.tup ((rs.getD i []).map V.int))
  | _, _, 0, _, .cons h _, e => by
    cases e
    exact ⟨_, rfl, by simp, h⟩
  | _, _, i + 1, _, .cons _ t, e => by
    obtain ⟨p, a, b, c⟩ := t.get (i := i) (by simpa using e)
    exact ⟨p, a, by simpa using b, by simpa using c⟩
theorem Rt.rw {K : PySem.W.Frag} : ∀ {xs : List V} {rs : List (List Int)}, Rt H xs rs → Rw K H xs rs
  | _, _, .nil => .nil
  | _, _, .cons h t => .cons (sqT h) t.rw
end
section
variable {X : Cx}
/-- t + u of tuples of ints that are the program's own -/
theorem op_catTT {K : PySem.W.Frag} (e : X.K = K) : OpR X (binaryOp .Add) (fun x y H Q => ∃ p q, ∃ ns ms : List Int, x = .ref p ∧ y = .ref q ∧ H p = some (.tup (ns.map V.int)) ∧ H q = some (.tup (ms.map V.int)) ∧ ns.length + ms.length ≤ sizeLine ∧
    ∀ r H1, Kp [] H H1 → H1 r = some (.tup ((ns ++ ms).map V.int)) → Q (.ref r) H1) := by
  subst e
  refine op_imp op_catA fun x y H Q ⟨p, q, ns, ms, a, b, c, d, l, w⟩ => ?_
  refine ⟨p, q, _, _, a, b, sqT c, sqT d, by rw [List.length_map, List.length_map]; exact l, fun z => ?_, fun _ z => ?_, fun _ _ r nr => ?_⟩
  · have : ns = [] := by simpa using z
    subst this
    exact w q H Kp.refl d
  · have : ms = [] := by simpa using z
    subst this
    refine w p H Kp.refl ?_
    rw [List.append_nil]
    exact c
  · refine w r _ (Kp.new nr) ?_
    rw [upd_same, List.map_append]
end
end Cf

set_option Elab.async false
set_option linter.all false
set_option maxRecDepth 100000
set_option maxHeartbeats 2000000
namespace Cf
open PySem PySem.Spec PyProof.Rows L2
section
variable {X : Cx}
/-! X(), X a class of the program over ValueError (or over another of its classes), without an __init__ -/
theorem pmk_own0 {C : Addr} {bmB : List Value} {B newId initId : String} {x : Str} {p pos : Pos} (F : ExcBaseFacts B newId initId bmB) (q : PySem.W.excIn X.K C bmB newId = true) (gC : X.mg x = some (.ref C)) (kC : PySem.W.keepIn X.K (.ref C) = true) (r : Raises X (.ref C)) (hg : Gl X x)
    (hdb : (x == ("__debug__" : Str)) = false := by decide) : PMk X (.Call (.Name x p) [] [] pos) (fun _ H Q => Q (.ref C) none H) := by
  intro pins s σ H Q I h
  refine wpAny_Call_Name_kw (ld_glob I hg gC ?_ hdb)
  refine PySem.W.callWith_K0 I.kIn kC ?_
  show wpAny _ _ (call (.ref C) []) _ _ _
  obtain ⟨bm, N, nm, qn, bs, hdct, sn, sub, ab, col, dd, k0, k1, k2, k3, k5, mN, hC, hN, hni, T⟩ := exc_obj I.kIn q
  refine wpAny_call_exc_subT F T hC hN hni (fun h' e hm => ?_) (Nat.zero_le _)
  exact mk_of I hm r h (I.hok.gone hm.new)
end
end Cf

set_option Elab.async false
set_option linter.all false
set_option maxRecDepth 100000
set_option maxHeartbeats 2000000
namespace Cf
open PySem PySem.Spec PyProof.Rows L2
open LamX (CodeO TabS Tabs ExtN TabB lamEnv lamCx lam_make2)
section
variable {X : Cx} {pins : List (Addr × Obj)} {σ : L2.St} {H : Hp} {s : Shared}
/-- the lambda, called wherever the def's surroundings stand -/
theorem lam1_callA {k i : Nat} {A : Around} {f c' : Addr} {pm ctv : Value} {params : Arguments} {body : Expr} {scope : Scope} {x : Str} {tb : TE} {v : V} {u : Value} {Q : VK} {E : Value → Shared → Prop}
    (I : L2.Inv X pins σ H s) (L : Lam1 X.env.scope scope x) (hN : X.N.Nodup) (hi : X.N[i]? = some x) (hr2 : Room (k + 1) A) (e0 : Env0 X.prog X.w X.K X.mg X.base A X.stack s H)
    (hf : s.heap.get? f = some (PySem.W.kla_obj "<lambda>" (X.env.qual ++ "<lambda>") params body scope (cloFrom X.env.cells scope.names []) pm c' ctv))
    (hc : ∃ (oc : Obj) (vs : Array Value) (t : Tok), s.heap.get? c' = some oc ∧ oc.data = .fields vs ∧ vs[1]? = some (.str (X.env.qual ++ "<lambda>") t))
    (hbind : bindArgs (PySem.W.kla_fn "<lambda>" (X.env.qual ++ "<lambda>") params body scope (cloFrom X.env.cells scope.names []) pm (.ref c') ctv) ⟨[u], []⟩ = pure [(x, u)])
    (hbody : PE (lamC X A X.stack s H scope f c') body tb) (ru : RelV v u) (ht : tb (σ.set i (some v)) H Q) :
    wpAny (model X.prog X.w) A (call (.ref f) [u]) (fun y s' => ∃ z H', L2.Inv X pins σ H' s' ∧ RelV z y ∧ Q z H' ∧ Un (frs X.stack) [] H H' s.heap s'.heap) E s := by
  obtain ⟨oc, vs, t, hoc, hdc, hvc⟩ := hc
  have run : codeAny (model X.prog X.w) A (.call (.ref f) ⟨[u], []⟩) (CR CX0 X.stack X.prog X.w H s Q E0) s := by
    refine PySem.W.kla_callFunE hr2.depth hf rfl L.co L.gen rfl ⟨c', oc, vs, t, rfl, hoc, hdc, hvc⟩ ?_
    rw [hbind]
    refine wpAny_pure (wpAny_newFunctionEnv (fun y hy => (L.own y hy).1) (fun y hy => ?_) (fun h1 hns hsb => ⟨I.nolimit.fresh _ hsb, ?_⟩) L.kind)
    · rw [List.mem_singleton.mp hy]
      exact L.par
    · show codeAny _ _ (.expr body (lamEnv X scope s.heap.objs.size f c')) _ _
      have kp : ∀ b o, s.heap.get? b = some o → h1.get? b = some o := by
        intro b o e
        exact hsb.extBut b o (Nat.ne_of_lt (Heap.lt_size e)) (Heap.get?_push_of_some _ e)
      have J := lam1_start (f := f) (c' := c') (tk := s.toks + [(x, u)].length) I L hN hi e0 hr2.hd ru hns kp
      refine PySem.W.kla_codeExpr (wpAny_mono (hbody.run [] _ _ H Q J ht) (fun y s' hq => ?_) fun e s' hq => hq.elim)
      obtain ⟨z, H', J', rv, q⟩ := hq
      exact ⟨z, H', J'.os, J'.bare, J'.base, J'.hok, rv, q⟩
  refine wpAny_call (codeAny_mono run fun r s' hq => ?_)
  cases r with
  | error e => exact (show False from hq).elim
  | ok fl =>
    cases fl with
    | ret y =>
      have hq : CE X.stack X.prog X.w H s Q y s' := hq
      have un : ∃ z H', Un (frs X.stack) [] H H' s.heap s'.heap ∧ RelV z y ∧ Q z H' ∧ s'.os = s.os ∧ AllBare s'.gens ∧ HOk X.prog X.w H' s'.heap := by
        obtain ⟨z, H', a1, a2, a3, a4, a5, a6⟩ := hq
        exact ⟨z, H', a3, a5, a6, a1, a2, a4⟩
      obtain ⟨z, H', un, rv, q, os, ba, hk⟩ := un
      have J : EP X pins σ (fun z' H'' => z' = z ∧ H'' = H') y s' := I.after ⟨z, H', os, ba, un, hk, rv, rfl, rfl⟩
      obtain ⟨z', H'', J, rv', ez, eH⟩ := J
      subst ez eH
      exact ⟨_, _, J, rv, q, un⟩
    | next => exact False.elim hq
    | brk => exact False.elim hq
    | cont => exact False.elim hq
end
/-- a list is walked, its items as the hand layer knows them -/
theorem walksV {P : Program} {w : World} {A : Around} (hh : A.handled = none) (I l : Addr) (hne : l ≠ I) (xs : List V) :
    WalksS P w A I [I, l] [I] (fun a b => b = a) xs.length (fun i v => ∃ x, xs[i]? = some x ∧ RelV x v) (fun i s => s.heap.IsListIter I l i ∧ ∃ its : List Value, Vals xs its ∧ s.heap.IsList l its.toArray) where
  sub := fun b hb => by rw [List.mem_singleton.mp hb]; exact List.mem_cons_self
  grefl := fun _ => rfl
  gtrans := fun _ _ _ h1 h2 => h2.trans h1
  frame := fun i s h' tk st _ hk => by
    obtain ⟨a, its, r, b⟩ := st
    exact ⟨a.at fun o e => hk I (by simp) o e, its, r, b.at fun o e => hk l (by simp) o e⟩
  item := fun i s Q E hi st hQ => by
    obtain ⟨a, its, r, b⟩ := st
    refine ((Walks.list (prog := P) (w := w) hh I l hne its.toArray).toS).item i s Q E (by rw [List.size_toArray, ← r.length]; exact hi) ⟨a, b⟩ fun v s' hP st' mv => hQ v s' ?_ ⟨st'.1, its, r, st'.2⟩ mv
    obtain ⟨u, e1, e2⟩ := r.get (List.getElem?_eq_getElem hi)
    have e3 : its[i]? = some v := by simpa using hP
    rw [e3] at e1
    cases e1
    exact ⟨_, List.getElem?_eq_getElem hi, e2⟩
  done := fun s Q E st hQ => by
    obtain ⟨a, its, r, b⟩ := st
    exact ((Walks.list (prog := P) (w := w) hh I l hne its.toArray).toS).done s Q E ⟨by rw [List.size_toArray, ← r.length]; exact a, b⟩ fun s' mv => hQ s' mv
  self := fun i s Q E st hQ => by
    obtain ⟨a, its, r, b⟩ := st
    exact ((Walks.list (prog := P) (w := w) hh I l hne its.toArray).toS).self i s Q E ⟨a, b⟩ hQ

/-- the place of the first least -/
def BestMin (kf : Nat → Int) (n j : Nat) : Prop := ∀ i, i < n → (kf j ≤ kf i) ∧ (i < j → kf j < kf i)
theorem best_min (kf : Nat → Int) : ∀ n, BestMin kf (n + 1) (argBest (fun i j => decide (kf i < kf j)) n) ∧ argBest (fun i j => decide (kf i < kf j)) n ≤ n
  | 0 => by
    refine ⟨fun i hi => ?_, Nat.le_refl _⟩
    have : i = 0 := by omega
    subst this
    simp only [argBest]
    exact ⟨Int.le_refl _, fun h => absurd h (Nat.lt_irrefl _)⟩
  | n + 1 => by
    obtain ⟨h1, h2⟩ := best_min kf n
    simp only [argBest]
    generalize argBest (fun i j => decide (kf i < kf j)) n = b at h1 h2
    by_cases hc : kf (n + 1) < kf b
    · rw [if_pos (decide_eq_true hc)]
      refine ⟨fun i hi => ?_, Nat.le_refl _⟩
      by_cases e : i = n + 1
      · subst e
        exact ⟨Int.le_refl _, fun h => absurd h (Nat.lt_irrefl _)⟩
      · have q := (h1 i (by omega)).1
        exact ⟨by omega, fun _ => by omega⟩
    · rw [if_neg (fun z => hc (of_decide_eq_true z))]
      refine ⟨fun i hi => ?_, by omega⟩
      by_cases e : i = n + 1
      · subst e
        exact ⟨by omega, fun h => by omega⟩
      · exact h1 i (by omega)
section
variable {X : Cx} {pins : List (Addr × Obj)} {σ : L2.St} {H : Hp} {s : Shared}
theorem min_lam {k i : Nat} {l f c' : Addr} {pm ctv : Value} {params : Arguments} {body : Expr} {scope : Scope} {x : Str} {tb : TE} {xs : List V} {kf : Nat → Int} {Q : VK} {E : Value → Shared → Prop}
    (I : L2.Inv X pins σ H s) (L : Lam1 X.env.scope scope x) (hN : X.N.Nodup) (hi : X.N[i]? = some x) (hr : Room (k + 2) X.A)
    (hf : s.heap.get? f = some (PySem.W.kla_obj "<lambda>" (X.env.qual ++ "<lambda>") params body scope (cloFrom X.env.cells scope.names []) pm c' ctv)) (hfn : H f = none) (hfr : f ∉ frs X.stack)
    (hco : H c' = some (CodeO c' (X.env.qual ++ "<lambda>")))
    (hbind : ∀ u : Value, bindArgs (PySem.W.kla_fn "<lambda>" (X.env.qual ++ "<lambda>") params body scope (cloFrom X.env.cells scope.names []) pm (.ref c') ctv) ⟨[u], []⟩ = pure [(x, u)])
    (hbody : ∀ (s : Shared) (H : Hp), PE (lamC X X.A.in1 X.stack s H scope f c') body tb)
    (hq : SqL X.K H l xs) (hne : 0 < xs.length)
    (turn : ∀ j v, xs[j]? = some v → ∀ H', Kp [] H H' → tb (σ.set i (some v)) H' fun y H2 => Kp [] H' H2 ∧ y = .int (kf j))
    (h : ∀ j v H', xs[j]? = some v → BestMin kf xs.length j → Kp [] H H' → Q v H') :
    wpAny (model X.prog X.w) X.A (call (.builtin "min") [.ref l] [(Str.ofString "key", .ref f)]) (EP X pins σ Q) E s := by
  obtain ⟨its, rv, pl, hz⟩ := I.list hq
  have hll : l < s.heap.objs.size := by
    obtain ⟨o, ho, _⟩ := pl.isList
    exact Heap.lt_size ho
  have hfl : f < s.heap.objs.size := Heap.lt_size hf
  refine call_min_walkK (wpAny_pyIter_list pl.isList ?_)
  have size1 : (s.heap.push { cls := .type "list_iterator", data := .fields #[.ref l, .int 0 0] }).objs.size = s.heap.objs.size + 1 := Heap.size_push ..
  have fI : FpOk X pins H s.heap.objs.size := I.fpOk (Nat.le_refl _) (I.hok.fresh (Nat.le_refl _))
  have fS : FpOk X pins H (s.heap.objs.size + 1) := I.fpOk (by omega) (I.hok.fresh (by omega))
  have hh : X.A.in1.handled = none := hr.in1.hd
  refine ⟨s.heap.objs.size, _, _, _, _, _, _, fun s' => ∃ H', L2.Inv X pins σ H' s' ∧ Kp [] H H' ∧
      s'.heap.get? f = some (PySem.W.kla_obj "<lambda>" (X.env.qual ++ "<lambda>") params body scope (cloFrom X.env.cells scope.names []) pm c' ctv) ∧ H' f = none ∧ H' s.heap.objs.size = none ∧ H' (s.heap.objs.size + 1) = none,
    fun j y _ => ∃ t, y = .int (kf j) t, fun i j => decide (kf i < kf j), rfl, walksV hh s.heap.objs.size l (Nat.ne_of_lt hll) xs, ⟨⟨_, Heap.get?_push_size _ rfl, rfl, rfl⟩, its, rv, pl.isList.push _⟩, fun b hb => ?_, hne, ?_, ?_, ?_⟩
  · rw [size1]
    simp only [List.mem_cons, List.not_mem_nil, or_false] at hb
    rcases hb with z | z
    · rw [z]; exact Nat.lt_succ_self _
    · rw [z]; exact Nat.lt_succ_of_lt hll
  · show KeyRun _ _ _ _ _ (s.heap.push _).objs.size _ _ _ _ _ _ _ _
    rw [size1]
    refine ⟨?_, fun j y s1 s2 z _ => z, ?_, ?_⟩
    · rintro s1 s2 ⟨H', J, kp, jf, nf, nI, nS⟩ mv
      have e2 : s2 = { s1 with heap := s2.heap, toks := s2.toks } := by
        obtain ⟨_, g, d, o, _⟩ := mv
        cases s1
        cases s2
        simp only at g d o
        subst g d o
        rfl
      rw [e2]
      refine ⟨H', J.turnedL (ch := [s.heap.objs.size + 1, s.heap.objs.size]) (fun b o hb q => mv.heap b o hb q) (fun b hb => ?_), kp, mv.heap f _ (fun z => ?_) jf, nf, nI, nS⟩
      · simp only [List.mem_cons, List.not_mem_nil, or_false] at hb
        rcases hb with z | z
        · rw [z]; exact fp_at fS nS
        · rw [z]; exact fp_at fI nI
      · simp only [List.mem_cons, List.not_mem_nil, or_false] at z
        rcases z with z | z
        · exact absurd z (Nat.ne_of_lt (Nat.lt_succ_of_lt hfl))
        · exact absurd z (Nat.ne_of_lt hfl)
    · rintro j v s1 o Q1 E1 hj ⟨x1, hx1, rx1⟩ ⟨H', J, kp, jf, nf, nI, nS⟩ ⟨hit, its1, rv1, hl1⟩ hS w1
      obtain ⟨⟨oc, cvs, tq, q1, q2, q3⟩, _, _⟩ := J.hok c' _ (kp.at0 hco)
      refine wpAny_mono (lam1_callA (k := k) J L hN hi hr.in1 J.env0.in1 jf ⟨oc, cvs, tq, q1, q2, q3⟩ (hbind _) (hbody s1 H') rx1 (turn j x1 hx1 H' kp)) (fun y s2 hy => ?_) fun _ _ z => z
      obtain ⟨z, H2, J2, rz, ⟨k2, ez⟩, un⟩ := hy
      subst ez
      obtain ⟨t, rfl⟩ := rz
      have fIJ := out_frs J (fp_at fI nI)
      have fSJ := out_frs J (fp_at fS nS)
      have kp2 := kp.trans k2
      obtain ⟨its2, rv2, pl2, _⟩ := J2.list (kp2.lst0 hq)
      have nI2 : H2 s.heap.objs.size = none := by
        obtain ⟨oi, hoi, _⟩ := id hit
        exact un.free _ _ hoi nI (by simp)
      refine w1 _ s2 ⟨H2, J2, kp2, un.keep f _ jf nf hfr (by simp), un.free f _ jf nf (by simp), nI2, un.free _ _ hS nS (by simp)⟩ ⟨hit.at fun o e => un.keep _ o e nI fIJ (by simp), its2, rv2, pl2.isList⟩ (un.keep _ _ hS nS fSJ (by simp)) ⟨t, rfl⟩ fun j' k' z => z
    · rintro i j ki kj s1 Q1 E1 _ ⟨ti, rfl⟩ ⟨tj, rfl⟩ hQ
      exact CmpOf.ints_lt (prog := X.prog) (w := X.w) (A := X.A.in1) (P := fun i v => ∃ t, v = .int (kf i) t) kf (fun i v h => h) i j _ _ _ _ _ ⟨ti, rfl⟩ ⟨tj, rfl⟩ hQ
  · refine ⟨H, I.kept (t' := s.toks) (fun b o q => Heap.get?_push_of_some _ q), Kp.refl, Heap.get?_push_of_some _ hf, hfn, fI.1, fS.1⟩
  · rintro v s' ⟨x1, hx1, rx1⟩ ⟨H', J, kp, _⟩
    have b := (best_min kf (xs.length - 1)).1
    rw [show xs.length - 1 + 1 = xs.length by omega] at b
    exact ⟨x1, H', J, rx1, h _ x1 H' hx1 b kp⟩
end
/-- min(xs, key=lambda x: ..) -/
def tMinK (T : List (Addr × Str)) (K : PySem.W.Frag) (i : Nat) (ta : TA) (tb : TE) : TE := fun σ H Q => ta σ H fun vs H1 => ∃ (p : Addr) (xs : List V), vs = [.ref p] ∧ SqL K H1 p xs ∧ 0 < xs.length ∧ Tabs T H1 ∧
  ∀ H2, Kt T H1 H2 → ∃ kf : Nat → Int, (∀ j v, xs[j]? = some v → ∀ H', Kp [] H2 H' → tb (σ.set i (some v)) H' fun y H3 => Kp [] H' H3 ∧ y = .int (kf j)) ∧
    ∀ j v H3, xs[j]? = some v → BestMin kf xs.length j → Kp [] H2 H3 → Q v H3
section
variable {X : Cx}
theorem pe_minK {T : List (Addr × Str)} {K : PySem.W.Frag} {c P : Addr} {k i : Nat} {x : Str} {e : Expr} {ta : TA} {tb : TE} {params : Arguments} {body : Expr} {scope : Scope} {p lpos kpos pos : Pos} (eK : X.K = K)
    (TB : TabB X.base X.mg c P) (hcode : X.env.code = .ref c) (hmT : (P, X.env.qual ++ "<lambda>") ∈ T) (hu : ∀ r ∈ T, r.1 = P → r.2 = X.env.qual ++ "<lambda>") (hr : Room (k + 2) X.A) (L : Lam1 X.env.scope scope x) (hN : X.N.Nodup) (hi : X.N[i]? = some x)
    (hdef : defaultsOf params X.env = ([], []))
    (hbind : ∀ (q : Str) (cl : List (Str × Addr)) (pm cv ctv u : Value), bindArgs (PySem.W.kla_fn "<lambda>" q params body scope cl pm cv ctv) ⟨[u], []⟩ = pure [(x, u)])
    (hbody : ∀ (s : Shared) (H : Hp) (f c' : Addr), PE (lamC X X.A.in1 X.stack s H scope f c') body tb)
    (hg : Gl X "min") (hm : X.mg "min" = none) (ha : PA X [e] ta)
    (he : backTo pos (starEach [e] X.env) = (false, eval e X.env) :: backTo pos (starEach [] X.env) := by rfl) (hpl : (backTo pos (starEach [e] X.env)).any (·.1) = false := by rfl)
    (hall : (backToKw pos (keywordEach [⟨some "key", .Lambda params body scope lpos, kpos⟩] X.env)).all (·.1.isSome) = true := by rfl) (hno : (backToKw pos (keywordEach [⟨some "key", .Lambda params body scope lpos, kpos⟩] X.env)).any (·.1.isNone) = false := by rfl)
    (hks : (backToKw pos (keywordEach [⟨some "key", .Lambda params body scope lpos, kpos⟩] X.env)).filterMap (·.1) = [Str.ofString "key"] := by rfl) :
    PE X (.Call (.Name "min" p) [e] [⟨some "key", .Lambda params body scope lpos, kpos⟩] pos) (tMinK T K i ta tb) := by
  subst eK
  refine ⟨fun pins s σ H Q I h => ?_⟩
  refine wpAny_Call_Name_kw (ld_blt I hg hm boot_min ?_)
  refine PyProof.Rows.callWith_kw (thn (ha.run pos pins s σ H _ I h) ?_) he hpl hall hno
  rintro us s1 ⟨vs, H1, I1, r1, pl, xs, ev, hq, hne, hT, w⟩
  subst ev
  obtain ⟨u, rfl, ru⟩ := vals1 r1
  cases ru
  show wpAny _ _ (evalAll ((do let v ← eval (.Lambda params body scope lpos) X.env; standAt pos; pure v) :: (backToKw pos (keywordEach [] X.env)).map (·.2))) _ _ s1
  refine wpAny_evalAll_cons (wpAny_bind ?_)
  refine lam_make2 I1 TB hcode hmT hu hT hdef (fun y hy ey => ?_) fun f c' pm ctv H2 s2 I2 eN T2 hf hfn hfr hco => ?_
  · rcases L.free y hy ey with z | z
    · exact I1.ok.has _ (.inl z)
    · exact I1.ok.has _ (.inr z)
  refine wpAny_bind (wpAny_standAt (wpAny_pure (wpAny_evalAll_nil ?_)))
  rw [hks]
  show wpAny _ _ (call (.builtin "min") [.ref pl] [(Str.ofString "key", .ref f)]) _ _ s2
  have kt : Kt T H1 H2 := ⟨eN, fun _ => T2⟩
  obtain ⟨kf, wt, wq⟩ := w H2 kt
  exact min_lam (k := k) (kf := kf) I2 L hN hi hr hf hfn hfr hco (fun u => hbind _ _ _ _ _ u) (fun s H => hbody s H f c') (kt.lst0 hq) hne wt wq
end

/-- the place of the first greatest -/
def BestMax (kf : Nat → Int) (n j : Nat) : Prop := ∀ i, i < n → (kf i ≤ kf j) ∧ (i < j → kf i < kf j)
theorem best_max (kf : Nat → Int) : ∀ n, BestMax kf (n + 1) (argBest (fun i j => decide (kf j < kf i)) n) ∧ argBest (fun i j => decide (kf j < kf i)) n ≤ n
  | 0 => by
    refine ⟨fun i hi => ?_, Nat.le_refl _⟩
    have : i = 0 := by omega
    subst this
    simp only [argBest]
    exact ⟨Int.le_refl _, fun h => absurd h (Nat.lt_irrefl _)⟩
  | n + 1 => by
    obtain ⟨h1, h2⟩ := best_max kf n
    simp only [argBest]
    generalize argBest (fun i j => decide (kf j < kf i)) n = b at h1 h2
    by_cases hc : kf b < kf (n + 1)
    · rw [if_pos (decide_eq_true hc)]
      refine ⟨fun i hi => ?_, Nat.le_refl _⟩
      by_cases e : i = n + 1
      · subst e
        exact ⟨Int.le_refl _, fun h => absurd h (Nat.lt_irrefl _)⟩
      · have q := (h1 i (by omega)).1
        exact ⟨by omega, fun _ => by omega⟩
    · rw [if_neg (fun z => hc (of_decide_eq_true z))]
      refine ⟨fun i hi => ?_, by omega⟩
      by_cases e : i = n + 1
      · subst e
        exact ⟨by omega, fun h => by omega⟩
      · exact h1 i (by omega)
section
variable {X : Cx} {pins : List (Addr × Obj)} {σ : L2.St} {H : Hp} {s : Shared}
theorem max_lam {k i : Nat} {l f c' : Addr} {pm ctv : Value} {params : Arguments} {body : Expr} {scope : Scope} {x : Str} {tb : TE} {xs : List V} {kf : Nat → Int} {Q : VK} {E : Value → Shared → Prop}
    (I : L2.Inv X pins σ H s) (L : Lam1 X.env.scope scope x) (hN : X.N.Nodup) (hi : X.N[i]? = some x) (hr : Room (k + 2) X.A)
    (hf : s.heap.get? f = some (PySem.W.kla_obj "<lambda>" (X.env.qual ++ "<lambda>") params body scope (cloFrom X.env.cells scope.names []) pm c' ctv)) (hfn : H f = none) (hfr : f ∉ frs X.stack)
    (hco : H c' = some (CodeO c' (X.env.qual ++ "<lambda>")))
    (hbind : ∀ u : Value, bindArgs (PySem.W.kla_fn "<lambda>" (X.env.qual ++ "<lambda>") params body scope (cloFrom X.env.cells scope.names []) pm (.ref c') ctv) ⟨[u], []⟩ = pure [(x, u)])
    (hbody : ∀ (s : Shared) (H : Hp), PE (lamC X X.A.in1 X.stack s H scope f c') body tb)
    (hq : SqL X.K H l xs) (hne : 0 < xs.length)
    (turn : ∀ j v, xs[j]? = some v → ∀ H', Kp [] H H' → tb (σ.set i (some v)) H' fun y H2 => Kp [] H' H2 ∧ y = .int (kf j))
    (h : ∀ j v H', xs[j]? = some v → BestMax kf xs.length j → Kp [] H H' → Q v H') :
    wpAny (model X.prog X.w) X.A (call (.builtin "max") [.ref l] [(Str.ofString "key", .ref f)]) (EP X pins σ Q) E s := by
  obtain ⟨its, rv, pl, hz⟩ := I.list hq
  have hll : l < s.heap.objs.size := by
    obtain ⟨o, ho, _⟩ := pl.isList
    exact Heap.lt_size ho
  have hfl : f < s.heap.objs.size := Heap.lt_size hf
  refine call_max_walkK (wpAny_pyIter_list pl.isList ?_)
  have size1 : (s.heap.push { cls := .type "list_iterator", data := .fields #[.ref l, .int 0 0] }).objs.size = s.heap.objs.size + 1 := Heap.size_push ..
  have fI : FpOk X pins H s.heap.objs.size := I.fpOk (Nat.le_refl _) (I.hok.fresh (Nat.le_refl _))
  have fS : FpOk X pins H (s.heap.objs.size + 1) := I.fpOk (by omega) (I.hok.fresh (by omega))
  have hh : X.A.in1.handled = none := hr.in1.hd
  refine ⟨s.heap.objs.size, _, _, _, _, _, _, fun s' => ∃ H', L2.Inv X pins σ H' s' ∧ Kp [] H H' ∧
      s'.heap.get? f = some (PySem.W.kla_obj "<lambda>" (X.env.qual ++ "<lambda>") params body scope (cloFrom X.env.cells scope.names []) pm c' ctv) ∧ H' f = none ∧ H' s.heap.objs.size = none ∧ H' (s.heap.objs.size + 1) = none,
    fun j y _ => ∃ t, y = .int (kf j) t, fun i j => decide (kf j < kf i), rfl, walksV hh s.heap.objs.size l (Nat.ne_of_lt hll) xs, ⟨⟨_, Heap.get?_push_size _ rfl, rfl, rfl⟩, its, rv, pl.isList.push _⟩, fun b hb => ?_, hne, ?_, ?_, ?_⟩
  · rw [size1]
    simp only [List.mem_cons, List.not_mem_nil, or_false] at hb
    rcases hb with z | z
    · rw [z]; exact Nat.lt_succ_self _
    · rw [z]; exact Nat.lt_succ_of_lt hll
  · show KeyRun _ _ _ _ _ (s.heap.push _).objs.size _ _ _ _ _ _ _ _
    rw [size1]
    refine ⟨?_, fun j y s1 s2 z _ => z, ?_, ?_⟩
    · rintro s1 s2 ⟨H', J, kp, jf, nf, nI, nS⟩ mv
      have e2 : s2 = { s1 with heap := s2.heap, toks := s2.toks } := by
        obtain ⟨_, g, d, o, _⟩ := mv
        cases s1
        cases s2
        simp only at g d o
        subst g d o
        rfl
      rw [e2]
      refine ⟨H', J.turnedL (ch := [s.heap.objs.size + 1, s.heap.objs.size]) (fun b o hb q => mv.heap b o hb q) (fun b hb => ?_), kp, mv.heap f _ (fun z => ?_) jf, nf, nI, nS⟩
      · simp only [List.mem_cons, List.not_mem_nil, or_false] at hb
        rcases hb with z | z
        · rw [z]; exact fp_at fS nS
        · rw [z]; exact fp_at fI nI
      · simp only [List.mem_cons, List.not_mem_nil, or_false] at z
        rcases z with z | z
        · exact absurd z (Nat.ne_of_lt (Nat.lt_succ_of_lt hfl))
        · exact absurd z (Nat.ne_of_lt hfl)
    · rintro j v s1 o Q1 E1 hj ⟨x1, hx1, rx1⟩ ⟨H', J, kp, jf, nf, nI, nS⟩ ⟨hit, its1, rv1, hl1⟩ hS w1
      obtain ⟨⟨oc, cvs, tq, q1, q2, q3⟩, _, _⟩ := J.hok c' _ (kp.at0 hco)
      refine wpAny_mono (lam1_callA (k := k) J L hN hi hr.in1 J.env0.in1 jf ⟨oc, cvs, tq, q1, q2, q3⟩ (hbind _) (hbody s1 H') rx1 (turn j x1 hx1 H' kp)) (fun y s2 hy => ?_) fun _ _ z => z
      obtain ⟨z, H2, J2, rz, ⟨k2, ez⟩, un⟩ := hy
      subst ez
      obtain ⟨t, rfl⟩ := rz
      have fIJ := out_frs J (fp_at fI nI)
      have fSJ := out_frs J (fp_at fS nS)
      have kp2 := kp.trans k2
      obtain ⟨its2, rv2, pl2, _⟩ := J2.list (kp2.lst0 hq)
      have nI2 : H2 s.heap.objs.size = none := by
        obtain ⟨oi, hoi, _⟩ := id hit
        exact un.free _ _ hoi nI (by simp)
      refine w1 _ s2 ⟨H2, J2, kp2, un.keep f _ jf nf hfr (by simp), un.free f _ jf nf (by simp), nI2, un.free _ _ hS nS (by simp)⟩ ⟨hit.at fun o e => un.keep _ o e nI fIJ (by simp), its2, rv2, pl2.isList⟩ (un.keep _ _ hS nS fSJ (by simp)) ⟨t, rfl⟩ fun j' k' z => z
    · rintro i j ki kj s1 Q1 E1 _ ⟨ti, rfl⟩ ⟨tj, rfl⟩ hQ
      exact CmpOf.ints_gt (prog := X.prog) (w := X.w) (A := X.A.in1) (P := fun i v => ∃ t, v = .int (kf i) t) kf (fun i v h => h) i j _ _ _ _ _ ⟨ti, rfl⟩ ⟨tj, rfl⟩ hQ
  · refine ⟨H, I.kept (t' := s.toks) (fun b o q => Heap.get?_push_of_some _ q), Kp.refl, Heap.get?_push_of_some _ hf, hfn, fI.1, fS.1⟩
  · rintro v s' ⟨x1, hx1, rx1⟩ ⟨H', J, kp, _⟩
    have b := (best_max kf (xs.length - 1)).1
    rw [show xs.length - 1 + 1 = xs.length by omega] at b
    exact ⟨x1, H', J, rx1, h _ x1 H' hx1 b kp⟩
end
/-- max(xs, key=lambda x: ..) -/
def tMaxK (T : List (Addr × Str)) (K : PySem.W.Frag) (i : Nat) (ta : TA) (tb : TE) : TE := fun σ H Q => ta σ H fun vs H1 => ∃ (p : Addr) (xs : List V), vs = [.ref p] ∧ SqL K H1 p xs ∧ 0 < xs.length ∧ Tabs T H1 ∧
  ∀ H2, Kt T H1 H2 → ∃ kf : Nat → Int, (∀ j v, xs[j]? = some v → ∀ H', Kp [] H2 H' → tb (σ.set i (some v)) H' fun y H3 => Kp [] H' H3 ∧ y = .int (kf j)) ∧
    ∀ j v H3, xs[j]? = some v → BestMax kf xs.length j → Kp [] H2 H3 → Q v H3
section
variable {X : Cx}
theorem pe_maxK {T : List (Addr × Str)} {K : PySem.W.Frag} {c P : Addr} {k i : Nat} {x : Str} {e : Expr} {ta : TA} {tb : TE} {params : Arguments} {body : Expr} {scope : Scope} {p lpos kpos pos : Pos} (eK : X.K = K)
    (TB : TabB X.base X.mg c P) (hcode : X.env.code = .ref c) (hmT : (P, X.env.qual ++ "<lambda>") ∈ T) (hu : ∀ r ∈ T, r.1 = P → r.2 = X.env.qual ++ "<lambda>") (hr : Room (k + 2) X.A) (L : Lam1 X.env.scope scope x) (hN : X.N.Nodup) (hi : X.N[i]? = some x)
    (hdef : defaultsOf params X.env = ([], []))
    (hbind : ∀ (q : Str) (cl : List (Str × Addr)) (pm cv ctv u : Value), bindArgs (PySem.W.kla_fn "<lambda>" q params body scope cl pm cv ctv) ⟨[u], []⟩ = pure [(x, u)])
    (hbody : ∀ (s : Shared) (H : Hp) (f c' : Addr), PE (lamC X X.A.in1 X.stack s H scope f c') body tb)
    (hg : Gl X "max") (hm : X.mg "max" = none) (ha : PA X [e] ta)
    (he : backTo pos (starEach [e] X.env) = (false, eval e X.env) :: backTo pos (starEach [] X.env) := by rfl) (hpl : (backTo pos (starEach [e] X.env)).any (·.1) = false := by rfl)
    (hall : (backToKw pos (keywordEach [⟨some "key", .Lambda params body scope lpos, kpos⟩] X.env)).all (·.1.isSome) = true := by rfl) (hno : (backToKw pos (keywordEach [⟨some "key", .Lambda params body scope lpos, kpos⟩] X.env)).any (·.1.isNone) = false := by rfl)
    (hks : (backToKw pos (keywordEach [⟨some "key", .Lambda params body scope lpos, kpos⟩] X.env)).filterMap (·.1) = [Str.ofString "key"] := by rfl) :
    PE X (.Call (.Name "max" p) [e] [⟨some "key", .Lambda params body scope lpos, kpos⟩] pos) (tMaxK T K i ta tb) := by
  subst eK
  refine ⟨fun pins s σ H Q I h => ?_⟩
  refine wpAny_Call_Name_kw (ld_blt I hg hm boot_max ?_)
  refine PyProof.Rows.callWith_kw (thn (ha.run pos pins s σ H _ I h) ?_) he hpl hall hno
  rintro us s1 ⟨vs, H1, I1, r1, pl, xs, ev, hq, hne, hT, w⟩
  subst ev
  obtain ⟨u, rfl, ru⟩ := vals1 r1
  cases ru
  show wpAny _ _ (evalAll ((do let v ← eval (.Lambda params body scope lpos) X.env; standAt pos; pure v) :: (backToKw pos (keywordEach [] X.env)).map (·.2))) _ _ s1
  refine wpAny_evalAll_cons (wpAny_bind ?_)
  refine lam_make2 I1 TB hcode hmT hu hT hdef (fun y hy ey => ?_) fun f c' pm ctv H2 s2 I2 eN T2 hf hfn hfr hco => ?_
  · rcases L.free y hy ey with z | z
    · exact I1.ok.has _ (.inl z)
    · exact I1.ok.has _ (.inr z)
  refine wpAny_bind (wpAny_standAt (wpAny_pure (wpAny_evalAll_nil ?_)))
  rw [hks]
  show wpAny _ _ (call (.builtin "max") [.ref pl] [(Str.ofString "key", .ref f)]) _ _ s2
  have kt : Kt T H1 H2 := ⟨eN, fun _ => T2⟩
  obtain ⟨kf, wt, wq⟩ := w H2 kt
  exact max_lam (k := k) (kf := kf) I2 L hN hi hr hf hfn hfr hco (fun u => hbind _ _ _ _ _ u) (fun s H => hbody s H f c') (kt.lst0 hq) hne wt wq
end
end Cf

set_option Elab.async false
set_option linter.all false
set_option maxRecDepth 100000
set_option maxHeartbeats 2000000
namespace Cf
open PySem PySem.Spec PyProof.Rows L2
/-! dicts of ints by ints -/
def emb (ps : List (Int × Int)) : List (Key × V) := ps.map fun e => (Sum.inl e.1, V.int e.2)
abbrev DI (H : Hp) (d : Addr) (ps : List (Int × Int)) : Prop := H d = some (.dK (emb ps))
theorem emb_keys (ps : List (Int × Int)) : (emb ps).map (·.1) = (ps.map (·.1)).map Sum.inl := by
  simp [emb]
theorem emb_val {k : Int} : ∀ {ps : List (Int × Int)}, k ∈ ps.map (·.1) → ∃ v : Int, valV (emb ps) (Sum.inl k) = some (.int v) ∧ (k, v) ∈ ps
  | [], h => nomatch h
  | e :: r, h => by
    by_cases c : e.1 = k
    · exact ⟨e.2, valV_pos (p := (Sum.inl e.1, V.int e.2)) (r := emb r) (congrArg Sum.inl c), by rw [← c]; exact List.mem_cons_self⟩
    · have h' : k ∈ r.map (·.1) := by
        rcases List.mem_cons.mp h with z | z
        · exact absurd z.symm c
        · exact z
      obtain ⟨v, h1, h2⟩ := emb_val h'
      refine ⟨v, ?_, List.mem_cons_of_mem _ h2⟩
      show valV ((Sum.inl e.1, V.int e.2) :: emb r) (Sum.inl k) = _
      rw [valV_neg (fun z => c (Sum.inl.inj z))]
      exact h1
theorem emb_put (ps : List (Int × Int)) (k v : Int) : ∃ qs : List (Int × Int), putK (emb ps) (Sum.inl k) (.int v) = emb qs ∧ (∀ x ∈ qs, x ∈ ps ∨ x = (k, v)) ∧ k ∈ qs.map (·.1) ∧ qs.length ≤ ps.length + 1 ∧ (k ∈ ps.map (·.1) → qs = ps.map fun e => if e.1 = k then (e.1, v) else e) := by
  unfold putK
  by_cases c : k ∈ ps.map (·.1)
  · rw [if_pos ?_]
    · refine ⟨ps.map fun e => if e.1 = k then (e.1, v) else e, ?_, fun x hx => ?_, ?_, by rw [List.length_map]; omega, fun _ => rfl⟩
      · unfold emb
        rw [List.map_map, List.map_map]
        refine List.map_congr_left fun e _ => ?_
        simp only [Function.comp]
        by_cases z : e.1 = k
        · rw [if_pos z, if_pos (congrArg Sum.inl z)]
        · rw [if_neg z, if_neg (fun w => z (Sum.inl.inj w))]
      · obtain ⟨e, he, rfl⟩ := List.mem_map.mp hx
        by_cases z : e.1 = k
        · rw [if_pos z, z]
          exact .inr rfl
        · rw [if_neg z]
          exact .inl he
      · rw [List.map_map]
        obtain ⟨e, he, rfl⟩ := List.mem_map.mp c
        exact List.mem_map.mpr ⟨e, he, by simp⟩
    · rw [List.any_eq_true]
      obtain ⟨e, he, rfl⟩ := List.mem_map.mp c
      exact ⟨(Sum.inl e.1, V.int e.2), List.mem_map.mpr ⟨e, he, rfl⟩, decide_eq_true rfl⟩
  · rw [if_neg ?_]
    · refine ⟨ps ++ [(k, v)], by simp [emb], fun x hx => ?_, ?_, by simp, fun z => absurd z c⟩
      · rcases List.mem_append.mp hx with z | z
        · exact .inl z
        · exact .inr (List.mem_singleton.mp z)
      · rw [List.map_append]
        exact List.mem_append_right _ (List.mem_singleton.mpr rfl)
    · intro z
      rw [List.any_eq_true] at z
      obtain ⟨x, hx, hz⟩ := z
      obtain ⟨e, he, rfl⟩ := List.mem_map.mp hx
      exact c (List.mem_map.mpr ⟨e, he, Sum.inl.inj (of_decide_eq_true hz)⟩)
theorem emb_merge : ∀ (qs ps : List (Int × Int)), ∃ rs : List (Int × Int), mergeK (emb ps) (emb qs) = emb rs ∧ (∀ x ∈ rs, x ∈ ps ∨ x ∈ qs) ∧ rs.length ≤ ps.length + qs.length ∧ (ps ≠ [] ∨ qs ≠ [] → rs ≠ [])
  | [], ps => ⟨ps, rfl, fun x h => .inl h, by simp, fun h => by rcases h with h | h; exact h; exact absurd rfl h⟩
  | q :: qs, ps => by
    obtain ⟨ps', e1, h1, h1k, h1l, _⟩ := emb_put ps q.1 q.2
    obtain ⟨rs, e2, h2, h2l, h2n⟩ := emb_merge qs ps'
    refine ⟨rs, ?_, fun x hx => ?_, by rw [List.length_cons]; omega, fun _ => h2n (.inl fun z => by rw [z] at h1k; exact nomatch h1k)⟩
    · show mergeK (putK (emb ps) (Sum.inl q.1) (.int q.2)) (emb qs) = _
      rw [e1, e2]
    · rcases h2 x hx with z | z
      · rcases h1 x z with w | w
        · exact .inl w
        · exact .inr (by rw [w]; exact List.mem_cons_self)
      · exact .inr (List.mem_cons_of_mem _ z)
/-- what was not there before is changed -/
theorem Kt.ownO {T : List (Addr × Str)} {H H1 H2 : Hp} {p : Addr} {o : HO} (a : Kt T H H1) (z : Nt H p) (hl : H1 p = some o) (n1 : ∀ ps, o ≠ .tbl ps) (n2 : ∀ F, o ≠ .ext F) (m : Kp [p] H1 H2) : Kt T H H2 := by
  have np : ∀ q o', H1 q = some o' → o' ≠ o → q ≠ p := fun q o' e n w => by
    rw [w, hl] at e
    cases e
    exact n rfl
  refine ⟨fun q o e n => ?_, fun hT r hr => ?_⟩
  · have hq : q ≠ p := fun w => by
      rw [w] at e
      obtain ⟨ps, hp⟩ := z o e
      exact n ps hp
    exact m.at1 hq (a.ext q o e n)
  · obtain ⟨ps, h1, h3, h4⟩ := a.tab hT r hr
    refine ⟨ps, m.at1 (np _ _ h1 fun w => n1 _ w.symm) h1, h3, fun pos cv hc => ?_⟩
    obtain ⟨c, e1, e2⟩ := h4 pos cv hc
    refine ⟨c, e1, m.at1 (np _ _ e2 fun w => ?_) e2⟩
    unfold LamX.CodeO at w
    exact n2 _ w.symm
theorem Kt.ownD {T : List (Addr × Str)} {H H1 H2 : Hp} {p : Addr} {ks : List (Key × V)} (a : Kt T H H1) (z : Nt H p) (hl : H1 p = some (.dK ks)) (m : Kp [p] H1 H2) : Kt T H H2 := a.ownO z hl (fun _ w => nomatch w) (fun _ w => nomatch w) m
theorem Kt.atD {T : List (Addr × Str)} {H H1 : Hp} {p : Addr} {ks : List (Key × V)} (a : Kt T H H1) (h : H p = some (.dK ks)) : H1 p = some (.dK ks) := a.ext p _ h fun _ w => nomatch w
def lookI (ps : List (Int × Int)) (k : Int) : Int := match valV (emb ps) (Sum.inl k) with
  | some (.int v) => v
  | _ => 0
theorem lookI_at {ps : List (Int × Int)} {k : Int} (h : k ∈ ps.map (·.1)) : valV (emb ps) (Sum.inl k) = some (.int (lookI ps k)) := by
  obtain ⟨v, e, _⟩ := emb_val h
  unfold lookI
  rw [e]
theorem dget_i {H : Hp} {d : Addr} {ps : List (Int × Int)} {k : Int} (h : DI H d ps) (hk : k ∈ ps.map (·.1)) : DGet H d (.int k) (some (.int (lookI ps k))) := by
  have := DGet.k (k := Sum.inl k) h
  rw [lookI_at hk] at this
  exact this
section
variable {X : Cx}
/-- dict(ps), ps a list of pairs of ints -/
theorem cr_dictP {K : PySem.W.Frag} (e : X.K = K) (hc : X.calm = true) : CallR X (.type "dict") (fun vs H Q => ∃ (p : Addr) (xs : List V) (ps : List (Int × Int)), vs = [.ref p] ∧ SqL K H p xs ∧ Pr H xs ps ∧
    ∀ rs : List (Int × Int), (∀ x ∈ rs, x ∈ ps) → rs.length ≤ ps.length → (ps ≠ [] → rs ≠ []) → New H (.dK (emb rs)) Q) := by
  subst e
  refine call_imp (call_dictP hc) fun vs H Q ⟨p, xs, ps, ev, hp, hr, w⟩ => ?_
  have go : ∀ {xs : List V} {ps : List (Int × Int)}, Pr H xs ps → ∃ as : List Addr, xs = as.map V.ref ∧ Paired (fun p kv => SqT X.K H p [kV kv.1, kv.2]) as (emb ps) := by
    intro xs ps h
    induction h with
    | nil => exact ⟨[], rfl, .nil⟩
    | cons ht _ ih =>
      obtain ⟨as, e1, e2⟩ := ih
      exact ⟨_ :: as, by rw [e1]; rfl, .cons (sqT ht) e2⟩
  obtain ⟨as, e1, e2⟩ := go hr
  obtain ⟨rs, e3, h3, h3l, h3n⟩ := emb_merge ps []
  refine ⟨p, as, emb ps, ev, by rw [← e1]; exact hp, e2, fun q nq => ?_⟩
  have e3 : mergeK [] (emb ps) = emb rs := e3
  rw [e3]
  exact (w rs (fun x hx => (h3 x hx).resolve_left (fun z => nomatch z)) (by simpa using h3l) (fun z => h3n (.inr z))).go q nq
/-- sorted(d), d a dict of ints by ints -/
theorem cr_srtDI (hc : X.calm = true) : CallR X (.builtin "sorted") (fun vs H Q => ∃ (d : Addr) (ps : List (Int × Int)), vs = [.ref d] ∧ DI H d ps ∧ ps.length < 64 ∧
    ∀ ys : List Int, ys.Perm (ps.map (·.1)) → ys.Pairwise (· ≤ ·) → New H (.lst (ys.map V.int)) Q) :=
  call_imp (call_sortedDI hc) fun vs H Q ⟨d, ps, ev, hd, hl, w⟩ => ⟨d, _, ps.map (·.1), ev, .of hd, emb_keys ps, by rw [List.length_map]; exact hl, fun ys q h1 h2 h3 => (w ys h1 h2).go q h3⟩
end
end Cf

set_option Elab.async false
set_option linter.all false
set_option maxRecDepth 100000
set_option maxHeartbeats 2000000
namespace Cf
open PySem PySem.Spec PyProof.Rows L2
section
variable {X : Cx}
/-- xs[i] of ints, 0 ≤ i, by values (for xs[i] += e) -/
theorem get_li {K : PySem.W.Frag} (e : X.K = K) : PGet X (rIxI (SqL K)) := by
  subst e
  intro pins s σ H x y v u Q I rx ry h
  obtain ⟨p, ns, i, rfl, rfl, hq, hi, q⟩ := h
  cases rx
  obtain ⟨t, rfl⟩ := ry
  obtain ⟨its, r, pl, hz⟩ := I.list hq
  obtain ⟨w, ew, rw'⟩ := r.get (getD_map (ns := ns) (j := i.toNat) (by omega))
  have hn := line63
  have hl := r.length
  rw [List.length_map] at hz hl
  have hfit : i < 2 ^ 63 := by
    have h3 : (ns.length : Int) ≤ (sizeLine : Int) := Int.ofNat_le.mpr hz
    exact Int.lt_of_lt_of_le hi.2 (Int.le_trans h3 (Int.le_of_lt (Int.ofNat_lt.mpr hn)))
  refine wpAny_getItem_list pl.isList hi.1 hfit ?_ ⟨_, H, I, rw', q⟩
  rw [List.getElem?_toArray]
  exact ew
end
end Cf

set_option Elab.async false
set_option linter.all false
set_option maxRecDepth 100000
set_option maxHeartbeats 2000000
namespace Cf
open PySem PySem.Spec PyProof.Rows L2
/-! [e for x in .. for y in ..] by walks -/
def Lc2W (J : It) (g : TG) (tt : TT) (wi1 : TI) (g1 : TG) (tt1 : TT) (te : TE) (vs vs1 : List Nat) (σ : L2.St) (H1 : Hp) (Q : VK) : Prop := ∃ n G Y, Walk J n G Y ∧
  ∀ D H2, H1 D = none → Kp [] H1 H2 → H2 D = some (.lst []) → ∃ Pv : Nat → List V → Hp → Prop, Pv 0 [] H2 ∧ (∀ i acc H, i ≤ n → Pv i acc H → G H) ∧
  (∀ i acc x H H', i < n → Pv i acc H → H D = some (.lst acc) → Y i H x H' → g x (wipe σ vs) H' fun σ2 H3 => wipe σ2 vs = wipe σ vs ∧ tt σ2 H3 fun b H4 =>
    if b = true then (wi1 σ2 H4 fun J1 H5 => H5 D = some (.lst acc) ∧ ∃ n1 G1 Y1, Walk J1 n1 G1 Y1 ∧ ∃ Pv1 : Nat → List V → Hp → Prop, Pv1 0 acc H5 ∧ (∀ j acc H, j ≤ n1 → Pv1 j acc H → G1 H) ∧
      (∀ j acc x H H', j < n1 → Pv1 j acc H → H D = some (.lst acc) → Y1 j H x H' → g1 x (wipe σ2 vs1) H' fun σ3 H6 => wipe σ3 vs1 = wipe σ2 vs1 ∧ tt1 σ3 H6 fun b H7 =>
        if b = true then (te σ3 H7 fun y H8 => H8 D = some (.lst acc) ∧ acc.length < sizeLine ∧ ∀ H9, Md D H8 H9 → H9 D = some (.lst (acc ++ [y])) → Pv1 (j + 1) (acc ++ [y]) H9)
        else H7 D = some (.lst acc) ∧ Pv1 (j + 1) acc H7) ∧
      ∀ acc H, H D = some (.lst acc) → Pv1 n1 acc H → Pv (i + 1) acc H)
    else H4 D = some (.lst acc) ∧ Pv (i + 1) acc H4) ∧
  ∀ acc H, H D = some (.lst acc) → Pv n acc H → Q (.ref D) H
def tLc2W (wi : TI) (g : TG) (tt : TT) (wi1 : TI) (g1 : TG) (tt1 : TT) (te : TE) (vs vs1 : List Nat) : TE := fun σ H Q => wi σ H fun J H1 => Lc2W J g tt wi1 g1 tt1 te vs vs1 σ H1 Q
theorem lc2_w {wi : TI} {g : TG} {tt : TT} {wi1 : TI} {g1 : TG} {tt1 : TT} {te : TE} {vs vs1 : List Nat} {σ : L2.St} {H : Hp} {Q : VK} (h : tLc2W wi g tt wi1 g1 tt1 te vs vs1 σ H Q) : tLc2 (upI wi) (upG g) (upT tt) (upI wi1) (upG g1) (upT tt1) (upE te) vs vs1 σ H Q := by
  refine ⟨_, h, ?_⟩
  rintro J H1 ⟨n, G, Y, w, body⟩ D nD
  obtain ⟨Pv, h0, hG, hs, hd⟩ := body D _ nD (Kp.new nD) upd_same
  refine ⟨fun i m H => m = n - i ∧ i ≤ n ∧ ∃ acc, H D = some (.lst acc) ∧ Pv i acc H, ⟨n, by simp, Nat.zero_le _, [], upd_same, h0⟩, ?_⟩
  rintro i m H ⟨rfl, hi, acc, ea, p⟩
  have q := hG i acc H hi p
  by_cases hlt : i < n
  · refine .inr ⟨w.goes i H hlt q, fun H' => ∃ acc, H' D = some (.lst acc) ∧ Pv (i + 1) acc H', fun H' ⟨acc', e', p'⟩ => ⟨n - (i + 1), by omega, rfl, hlt, acc', e', p'⟩, fun x H' y => ?_⟩
    refine ⟨_, hs i acc x H H' hlt p ea (w.yields i H x H' hlt q y), ?_⟩
    rintro σ2 H3 ⟨ew, ht⟩
    refine ⟨ew, _, ht, ?_⟩
    intro b H4 hb
    cases b with
    | false =>
      rw [if_neg Bool.false_ne_true] at hb ⊢
      exact ⟨acc, hb⟩
    | true =>
      rw [if_pos rfl] at hb ⊢
      refine ⟨_, hb, ?_⟩
      rintro J1 H5 ⟨e5, n1, G1, Y1, w1, Pv1, p0, hG1, hs1, hd1⟩
      refine ⟨fun j m H => m = n1 - j ∧ j ≤ n1 ∧ ∃ acc, H D = some (.lst acc) ∧ Pv1 j acc H, ⟨n1, by simp, Nat.zero_le _, acc, e5, p0⟩, ?_⟩
      rintro j m H ⟨rfl, hj, acc1, ea1, p1⟩
      have q1 := hG1 j acc1 H hj p1
      by_cases hlt1 : j < n1
      · refine .inr ⟨w1.goes j H hlt1 q1, fun H' => ∃ acc, H' D = some (.lst acc) ∧ Pv1 (j + 1) acc H', fun H' ⟨acc', e', p'⟩ => ⟨n1 - (j + 1), by omega, rfl, hlt1, acc', e', p'⟩, fun x H' y => ?_⟩
        refine ⟨_, hs1 j acc1 x H H' hlt1 p1 ea1 (w1.yields j H x H' hlt1 q1 y), ?_⟩
        rintro σ3 H6 ⟨ew1, ht1⟩
        refine ⟨ew1, _, ht1, ?_⟩
        intro b1 H7 hb1
        cases b1 with
        | false =>
          rw [if_neg Bool.false_ne_true] at hb1 ⊢
          exact ⟨acc1, hb1⟩
        | true =>
          rw [if_pos rfl] at hb1 ⊢
          refine ⟨_, hb1, ?_⟩
          rintro v H8 ⟨e8, l8, p8⟩
          exact ⟨acc1, e8, l8, acc1 ++ [v], upd_same, p8 _ Md.upd upd_same⟩
      · have e : j = n1 := by omega
        subst e
        exact .inl ⟨w1.stops H q1, acc1, ea1, hd1 acc1 H ea1 p1⟩
  · have e : i = n := by omega
    subst e
    exact .inl ⟨w.stops H q, hd acc H ea p⟩
/-- what is walked inside a comprehension, the written part by its name -/
theorem pi_listK {X : Cx} {K : PySem.W.Frag} {tg l : Expr} {tl : TE} (e : X.K = K) (hl : PE X l tl) : PI X tg l (iList K tl) := by
  subst e
  exact pi_list hl
section
variable {X : Cx}
theorem pe_lc2W {elt tg iter tg1 iter1 : Expr} {ifs ifs1 : List Expr} {scope : Scope} {own : List (Str × Nat)} {vs1 : List Nat} {pos : Pos} {wi wi1 : TI} {g g1 : TG} {tt tt1 : TT} {te : TE} (hc : X.calm = true) (hN : X.N.Nodup) (hi : PI X tg iter wi) (ok : BlkOk X.N X.env.scope scope own) (hv : ∀ i ∈ vs1, i ∈ own.map (·.2))
    (hg : ∀ (s : Shared) (H : Hp) (C : Addr) (cl : List (Str × Addr)) (fp : List Addr), PG (X.blk s H scope (compEnvC scope cl C X.env) fp) tg g) (ht : ∀ (s : Shared) (H : Hp) (C : Addr) (cl : List (Str × Addr)) (fp : List Addr), PTs (X.blk s H scope (compEnvC scope cl C X.env) fp) ifs tt)
    (hi1 : ∀ (s : Shared) (H : Hp) (C : Addr) (cl : List (Str × Addr)) (fp : List Addr), PI (X.blk s H scope (compEnvC scope cl C X.env) fp) tg1 iter1 wi1)
    (hg1 : ∀ (s : Shared) (H : Hp) (C : Addr) (cl : List (Str × Addr)) (fp : List Addr), PG (X.blk s H scope (compEnvC scope cl C X.env) fp) tg1 g1) (ht1 : ∀ (s : Shared) (H : Hp) (C : Addr) (cl : List (Str × Addr)) (fp : List Addr), PTs (X.blk s H scope (compEnvC scope cl C X.env) fp) ifs1 tt1)
    (he : ∀ (s : Shared) (H : Hp) (C : Addr) (cl : List (Str × Addr)) (fp : List Addr), PE (X.blk s H scope (compEnvC scope cl C X.env) fp) elt te) (hs : ∀ x, foldedSetIterable iter X.env x = pure x := by intro _; rfl) (hs1 : ∀ env x, foldedSetIterable iter1 env x = pure x := by intro _ _; rfl) :
    PE X (.ListComp elt [⟨tg, iter, ifs, 0⟩, ⟨tg1, iter1, ifs1, 0⟩] scope pos) (tLc2W wi g tt wi1 g1 tt1 te (own.map (·.2)) vs1) :=
  pe_imp (pe_lc2 hc hN (pi_up hi) ok hv (fun a b c d e => pg_up (hg a b c d e)) (fun a b c d e => pts_up (ht a b c d e)) (fun a b c d e => pi_up (hi1 a b c d e)) (fun a b c d e => pg_up (hg1 a b c d e)) (fun a b c d e => pts_up (ht1 a b c d e)) (fun a b c d e => pe_up (he a b c d e)) hs hs1) fun _ _ _ q => lc2_w q
theorem ps_setLc2W {i : Nat} {y : Str} {py spos : Pos} {elt tg iter tg1 iter1 : Expr} {ifs ifs1 : List Expr} {scope : Scope} {own : List (Str × Nat)} {vs1 : List Nat} {pos : Pos} {wi wi1 : TI} {g g1 : TG} {tt tt1 : TT} {te : TE} (hc : X.calm = true) (hN : X.N.Nodup) (hy : X.N[i]? = some y) (hyl : X.env.scope.names.lookup y = some .local)
    (hsw : swapsWith (.ListComp elt [⟨tg, iter, ifs, 0⟩, ⟨tg1, iter1, ifs1, 0⟩] scope pos) (some (.Name y py)) spos.line X.env = pure true) (hi : PI X tg iter wi) (ok : BlkOk X.N X.env.scope scope own) (hv : ∀ i ∈ vs1, i ∈ own.map (·.2))
    (hg : ∀ (s : Shared) (H : Hp) (C : Addr) (cl : List (Str × Addr)) (fp : List Addr), PG (X.blk s H scope (compEnvC scope cl C X.env) fp) tg g) (ht : ∀ (s : Shared) (H : Hp) (C : Addr) (cl : List (Str × Addr)) (fp : List Addr), PTs (X.blk s H scope (compEnvC scope cl C X.env) fp) ifs tt)
    (hi1 : ∀ (s : Shared) (H : Hp) (C : Addr) (cl : List (Str × Addr)) (fp : List Addr), PI (X.blk s H scope (compEnvC scope cl C X.env) fp) tg1 iter1 wi1)
    (hg1 : ∀ (s : Shared) (H : Hp) (C : Addr) (cl : List (Str × Addr)) (fp : List Addr), PG (X.blk s H scope (compEnvC scope cl C X.env) fp) tg1 g1) (ht1 : ∀ (s : Shared) (H : Hp) (C : Addr) (cl : List (Str × Addr)) (fp : List Addr), PTs (X.blk s H scope (compEnvC scope cl C X.env) fp) ifs1 tt1)
    (he : ∀ (s : Shared) (H : Hp) (C : Addr) (cl : List (Str × Addr)) (fp : List Addr), PE (X.blk s H scope (compEnvC scope cl C X.env) fp) elt te) (hs : ∀ x, foldedSetIterable iter X.env x = pure x := by intro _; rfl) (hs1 : ∀ env x, foldedSetIterable iter1 env x = pure x := by intro _ _; rfl) :
    PS X (.Assign [.Name y py] (.ListComp elt [⟨tg, iter, ifs, 0⟩, ⟨tg1, iter1, ifs1, 0⟩] scope pos) spos) (tAsg (tLc2W wi g tt wi1 g1 tt1 te (own.map (·.2)) vs1) (gName i)) :=
  ⟨fun pins s σ H D I q => (ps_setLc2 hc hN hy hyl hsw (pi_up hi) ok hv (fun a b c d e => pg_up (hg a b c d e)) (fun a b c d e => pts_up (ht a b c d e)) (fun a b c d e => pi_up (hi1 a b c d e)) (fun a b c d e => pg_up (hg1 a b c d e)) (fun a b c d e => pts_up (ht1 a b c d e)) (fun a b c d e => pe_up (he a b c d e)) hs hs1).run pins s σ H D I (lc2_w q)⟩
end
end Cf

set_option Elab.async false
set_option linter.all false
set_option maxRecDepth 100000
set_option maxHeartbeats 2000000
namespace Cf
open PySem PySem.Spec PyProof.Rows L2
section
variable {X : Cx}
theorem pa_starK {K : PySem.W.Frag} (eK : X.K = K) {e : Expr} {es : List Expr} {te : TE} {t : TA} {p : Pos} (he : PE X e te) (hr : PA X es t) (hs : starEach (.Starred e p :: es) X.env = (true, eval e X.env) :: starEach es X.env := by rfl) : PA X (.Starred e p :: es) (StX.tStar K te t) := by
  subst eK
  exact StX.pa_star he hr hs
/-- l.index(t) of a list of tuples of ints, t a tuple that equals one of them: the first place -/
theorem mt_indexRV {K : PySem.W.Frag} (e : X.K = K) {k : Nat} (hr : Room k X.A) : MtR X "list.index" (fun x vs H Q => ∃ (l p : Addr) (ns : List Int) (xs : List V) (rs : List (List Int)), x = .ref l ∧ vs = [.ref p] ∧ SqL K H l xs ∧ Rw K H xs rs ∧ SqT K H p (ns.map V.int) ∧ ns ∈ rs ∧
    ∀ j : Nat, j < rs.length → rs.getD j [] = ns → (∀ i, i < j → rs.getD i [] ≠ ns) → Q (.int (j : Int)) H) := by
  subst e
  intro pins s σ H x vs v us Q I rx rxs h
  obtain ⟨l, p, ns, xs, rs, rfl, rfl, hs, hw, hp, hn, q⟩ := h
  have sh : ∀ a : List Int, SeqAt.shaped (tupD a) = true := shaped_ti
  obtain ⟨j, hj, h1, h2⟩ := first_of rs ns hn
  have at_ : ∀ m, m < rs.length → (rs.map tupD)[m]? = some (tupD (rs.getD m [])) := fun m hm => by
    rw [List.getElem?_map, List.getD_eq_getElem?_getD, List.getElem?_eq_getElem hm]
    rfl
  refine mt_indexD (by have := hr.un; omega) pins s σ H _ _ v us Q I rx rxs ⟨l, .ref p, tupD ns, rs.map tupD, j, _, rfl, rfl, .lst hs hw.dp, dp_ti hp, shaped_rows rs, sh _, at_ j hj, ?_, fun m z' hm hz' => ?_, q j hj h1 h2⟩
  · rw [eqv_tupD, h1]
    exact decide_eq_true rfl
  · rw [at_ m (by omega)] at hz'
    cases hz'
    rw [eqv_tupD]
    exact decide_eq_false (h2 m hm)
end
end Cf

set_option Elab.async false
set_option linter.all false
set_option maxRecDepth 100000
set_option maxHeartbeats 2000000
namespace Cf
open PySem PySem.Spec PyProof.Rows L2
section
variable {prog : Program} {w : World} {A : Around} {E : Value → Shared → Prop} {s : Shared}
theorem adj_rev (n : Nat) : Builtin.Slice.sliceAdjust none none (-1) (n : Int) = ((n : Int) - 1, -1) := by
  unfold Builtin.Slice.sliceAdjust
  have h1 : ((-1 : Int) < 0) := by decide
  simp only [h1, if_true]
theorem places_rev (n : Nat) : Builtin.Slice.slicePlaces ((n : Int) - 1) (-1) (-1) = n := by
  unfold Builtin.Slice.slicePlaces
  have h1 : ¬ ((-1 : Int) > 0) := by decide
  simp only [h1, if_false]
  split <;> simp <;> omega
theorem sliceApplied_rev {sl : Addr} {vl vu vs : Value} {n : Nat} {Q : Int × Int × Nat → Shared → Prop} (hs : s.heap.IsSliceOf sl vl vu vs) (pl : IsPart vl none) (pu : IsPart vu none) (ps : IsPart vs (some (-1)))
    (h : Q ((n : Int) - 1, -1, n) s) : wpAny (model prog w) A (Builtin.Slice.sliceApplied (.ref sl) (pure (n : Int))) Q E s := by
  obtain ⟨os, hos, hcs, hds⟩ := id hs
  unfold Builtin.Slice.sliceApplied Builtin.Slice.sliceFields
  refine wpAny_bind (wpAny_bind (wpAny_field hos hds (x := vl) rfl (wpAny_bind (wpAny_field hos hds (x := vu) rfl (wpAny_bind (wpAny_field hos hds (x := vs) rfl (wpAny_pure ?_)))))))
  refine wpAny_bind (HT.slicePart_ ps ?_)
  show wpAny _ _ (if ((-1 : Int) == 0) = true then _ else _) _ _ s
  rw [if_neg (by decide)]
  refine wpAny_bind (HT.slicePart_ pl (wpAny_bind (HT.slicePart_ pu (wpAny_bind (wpAny_pure ?_)))))
  show wpAny _ _ (match Builtin.Slice.sliceAdjust none none (-1) (n : Int) with | (lo, hi) => pure (lo, (-1 : Int), Builtin.Slice.slicePlaces lo hi (-1))) _ _ s
  rw [adj_rev n]
  show wpAny _ _ (pure ((n : Int) - 1, (-1 : Int), Builtin.Slice.slicePlaces ((n : Int) - 1) (-1) (-1))) _ _ s
  rw [places_rev]
  exact wpAny_pure h
theorem fm_congr {α β : Type} {f g : α → Option β} : ∀ {l : List α}, (∀ x ∈ l, f x = g x) → l.filterMap f = l.filterMap g
  | [], _ => rfl
  | x :: r, h => by
    rw [List.filterMap_cons, List.filterMap_cons, h x List.mem_cons_self, fm_congr fun y hy => h y (List.mem_cons_of_mem _ hy)]
theorem pick_rev (xs : Array Value) : ((List.range xs.size).filterMap fun (m : Nat) => xs[((xs.size : Int) - 1 + (m : Int) * (-1)).toNat]?).toArray = xs.toList.reverse.toArray := by
  have e : ((List.range xs.size).filterMap fun (m : Nat) => xs[((xs.size : Int) - 1 + (m : Int) * (-1)).toNat]?) = ((List.range xs.size).map fun k => xs.size - 1 - k).filterMap (xs[·]?) := by
    rw [List.filterMap_map]
    refine fm_congr fun m hm => ?_
    have := List.mem_range.mp hm
    show _ = xs[xs.size - 1 - m]?
    rw [show ((xs.size : Int) - 1 + (m : Int) * (-1)).toNat = xs.size - 1 - m by omega]
  rw [e, PySem.W.krv_range, List.filterMap_reverse, PySem.W.krv_all]
theorem getItem_tuple_rev {t sl : Addr} {items : Array Value} {vl vu vs : Value} {Q : Value → Shared → Prop} (ht : IsTup s.heap t items) (hs : s.heap.IsSliceOf sl vl vu vs) (pl : IsPart vl none) (pu : IsPart vu none) (ps : IsPart vs (some (-1)))
    (h : Q (.ref s.heap.objs.size) { s with heap := s.heap.push { cls := .type "tuple", data := .seq items.toList.reverse.toArray } })
    (hsz : items.size ≤ sizeLine) : wpAny (model prog w) A (getItem (.ref t) (.ref sl)) Q E s := by
  have htake : sizeOk (.seq items.toList.reverse.toArray) := by
    show items.toList.reverse.toArray.size ≤ sizeLine
    rw [List.size_toArray, List.length_reverse, Array.length_toList]
    exact hsz
  obtain ⟨os, hos, hcs, hds⟩ := id hs
  have hTs : s.TypeIs (.ref sl) "slice" := ⟨os, hos, hcs⟩
  unfold getItem
  try with_reducible refine wpAny_holding ?_
  first | refine wpAny_bind (wpAny_pure ?_) | skip
  refine wpAny_bind (wpAny_sequenceKey ht.typeIs (by decide) ?_)
  refine wpAny_bind (wpAny_callSpecial?_slot (name := Str.ofString "__getitem__") ht.typeIs PyProof.Rows.slot_tuple_getitem
    (wpAny_call_entry PyProof.Rows.slot_tuple_getitem ht.typeIs entry_tuple_getitem ?_ (args_tuple_getitem _ _)))
  show wpAny _ _ (Builtin.Tuple.tupleItemsOf (.ref t) >>= _) _ _ s
  refine wpAny_bind (tupleItemsOf_ ht ?_)
  refine wpAny_bind (wpAny_typeOf hTs ?_)
  rw [if_pos (by decide)]
  refine wpAny_bind (sliceApplied_rev hs pl pu ps ?_)
  show wpAny _ _ (if (((items.size : Int) - 1) == 0 && (-1 : Int) == 1 && items.size == items.size) = true then _ else _) _ _ s
  rw [if_neg (by simp), pick_rev]
  first
    | exact wpAny_bind (m := Builtin.Tuple.tupleExact _) (wpAny_newObj_type (wpAny_pure ⟨_, rfl, wpAny_pure h⟩) htake)
    | exact wpAny_bind (m := Builtin.Tuple.tupleExact _) (wpAny_newObj_type (wpAny_bind (wpAny_pure (wpAny_pure ⟨_, rfl, wpAny_pure h⟩))) htake)
    | exact wpAny_bind (wpAny_bind (m := Builtin.Tuple.tupleExact _) (wpAny_newObj_type (wpAny_pure (wpAny_pure ⟨_, rfl, wpAny_pure h⟩)) htake))
    | exact wpAny_bind (wpAny_bind (m := Builtin.Tuple.tupleExact _) (wpAny_newObj_type (wpAny_pure ⟨_, rfl, wpAny_pure h⟩) htake))
end
section
variable {X : Cx}
/-- t[::-1], t a tuple of ints -/
def tRevT (K : PySem.W.Frag) (te : TE) : TE := fun σ H Q => te σ H fun x H1 => ∃ (a : Addr) (ns : List Int), x = .ref a ∧ SqT K H1 a (ns.map V.int) ∧ New H1 (.tup (ns.reverse.map V.int)) Q
theorem pe_revT {K : PySem.W.Frag} {e : Expr} {te : TE} {k : Nat} {p1 p2 p3 pos : Pos} (eK : X.K = K) (he : PE X e te) : PE X (.Subscript e (.Slice none none (some (.UnaryOp .USub (.Constant (.int 1) k p1) p2)) p3) pos) (tRevT K te) := by
  subst eK
  refine ⟨fun pins s σ H Q I h => ?_⟩
  refine Subscript_ (thn (he.run pins s σ H _ I h) fun v s1 ⟨x, H1, I1, r1, q1⟩ => ?_)
  obtain ⟨a, ns, ex, hx, q⟩ := q1
  subst ex
  cases r1
  have hst : PO X (some (.UnaryOp .USub (.Constant (.int 1) k p1) p2)) (tPart (tUn (rU fun i => .int (-i)) (tC (.int 1)))) := po_some (pe_un un_neg pe_int)
  refine wpAny_Slice (thn (po_none.run pins s1 σ H1 (fun o H2 => o = none ∧ H2 = H1) I1 ⟨rfl, rfl⟩) fun vl s2 ⟨l, H2, I2, pl, el, e2⟩ => ?_)
  subst el e2
  refine thn (po_none.run pins s2 σ H2 (fun o H3 => o = none ∧ H3 = H2) I2 ⟨rfl, rfl⟩) fun vu s3 ⟨u, H3, I3, pu, eu, e3⟩ => ?_
  subst eu e3
  refine thn (hst.run pins s3 σ H3 (fun o H4 => o = some (-1) ∧ H4 = H3) I3 ⟨1, rfl, -1, rfl, rfl, rfl⟩) fun vs s4 ⟨o, H4, I4, ps, eo, e4⟩ => ?_
  subst eo e4
  have I5 : Inv X pins σ H4 { s4 with heap := s4.heap.push { cls := .type "slice", data := .fields #[vl, vu, vs] } } := I4.kept (t' := s4.toks) fun b ob q => Heap.get?_push_of_some _ q
  obtain ⟨its, r, ht, hz⟩ := I5.tuple hx
  have hlen := r.length
  show wpAny (model X.prog X.w) X.A (subscriptTail e (.Slice none none (some (.UnaryOp .USub (.Constant (.int 1) k p1) p2)) p3) (.ref a) (.ref s4.heap.objs.size)) (EP X pins σ Q) X.xe { s4 with heap := s4.heap.push { cls := .type "slice", data := .fields #[vl, vu, vs] } }
  refine tail_any (ops := [.ref a, .ref s4.heap.objs.size]) ht.typeIs (PyProof.Rows.slot_tuple_getitem.lookup) ?_ (by with_unfolding_all rfl)
  refine getItem_tuple_rev ht (Heap.IsSliceOf.new _ vl vu vs) pl pu ps ?_ (by rw [List.size_toArray, ← hlen]; exact hz)
  have z := q.go _ (I5.hok.fresh (Nat.le_refl _))
  rw [List.map_reverse] at z
  refine ⟨.ref _, _, I5.laid (t' := s4.toks) (o := .tup (ns.map V.int).reverse) (fun b ob q => Heap.get?_push_of_some _ q) (Nat.le_refl _) ?_, rfl, z⟩
  exact ⟨by rw [List.length_reverse]; exact hz, _, r.reverse, IsTup.new _ _⟩
theorem rgc_up {a b c : Int} (hc : 1 ≤ c) (hc2 : c < 1073741824) (ha : -(2 ^ 60) ≤ a) (ha' : a < 2 ^ 60) (hb : -(2 ^ 60) ≤ b) (hb' : b < 2 ^ 60) : RgC a b c (if a < b then (b - a - 1) / c + 1 else 0).toNat := by
  have hq : a < b → 0 ≤ (b - a - 1) / c ∧ (b - a - 1) / c ≤ b - a - 1 := fun h => ⟨Int.ediv_nonneg (by omega) (by omega), Int.ediv_le_self _ (by omega)⟩
  have e : Builtin.Range.rangeSize a b c = if a < b then (b - a - 1) / c + 1 else 0 := by
    unfold Builtin.Range.rangeSize
    rw [if_pos (by omega)]
  refine ⟨by omega, by omega, ?_, ?_⟩
  · unfold Builtin.Range.small
    rw [e]
    generalize (b - a - 1) / c = q at hq
    by_cases h : a < b
    · have hq := hq h
      simp only [if_pos h, Builtin.Range.rangeFitsLong, Bool.and_eq_true, Bool.or_eq_true, decide_eq_true_eq, beq_iff_eq, show c > 0 by omega, if_true]
      omega
    · simp only [if_neg h, Builtin.Range.rangeFitsLong, Bool.and_eq_true, Bool.or_eq_true, decide_eq_true_eq, beq_iff_eq, show c > 0 by omega, if_true]
      omega
  · rw [e]
    by_cases h : a < b
    · have hq := hq h
      rw [if_pos h]
      omega
    · rw [if_neg h]
      rfl
/-- range(i, j, c), 0 < c -/
theorem walk_rc {lo c : Int} {n : Nat} : Walk (Itc lo c n) n (fun _ => True) (fun i H x H' => H' = H ∧ x = .int (lo + (i : Int) * c)) :=
  ⟨fun _ _ hi _ => hi, fun _ _ => Nat.le_refl _, fun _ _ _ _ _ _ y => y⟩
end
end Cf

set_option Elab.async false
set_option linter.all false
set_option maxRecDepth 100000
set_option maxHeartbeats 2000000
namespace Cf
open PySem PySem.Spec PyProof.Rows L2
section
variable {X : Cx}
/-- the ints from lo on, by steps of c -/
def upC (lo c : Int) (n : Nat) : List Int := (List.range n).map fun i : Nat => lo + (i : Int) * c
theorem upC_len (lo c : Int) (n : Nat) : (upC lo c n).length = n := by simp [upC]
theorem upC_get (lo c : Int) (n i : Nat) (h : i < n) : (upC lo c n).getD i 0 = lo + (i : Int) * c := by
  unfold upC
  rw [List.getD_eq_getElem?_getD, List.getElem?_map, List.getElem?_range h]
  rfl
theorem rgV_upC (a b : Int) : rgV a b = (upC a 1 (b - a).toNat).map V.int := by
  unfold rgV upC
  rw [List.map_map]
  refine List.map_congr_left fun i _ => ?_
  show V.int (a + (i : Int)) = V.int (a + (i : Int) * 1)
  rw [Int.mul_one]
/-- list(range(a, b)) -/
def tLstR2 (ta tb : TE) : TE := fun σ H Q => ta σ H fun x H1 => tb σ H1 fun y H2 => ∃ i j : Int, x = .int i ∧ y = .int j ∧ (-(2 ^ 60) ≤ i ∧ i < 2 ^ 60 ∧ -(2 ^ 60) ≤ j ∧ j < 2 ^ 60 ∧ j - i ≤ 16777216) ∧ New H2 (.lst ((upC i 1 (j - i).toNat).map V.int)) Q
theorem pe_listR2 {a b : Expr} {ta tb : TE} {p p2 pos pos2 : Pos} (hc : X.calm = true) (hg : Gl X "list") (hm : X.mg "list" = none) (hg2 : Gl X "range") (hm2 : X.mg "range" = none) (ha : PE X a ta) (hb : PE X b tb)
    (na : starEach [Expr.Call (.Name "range" p2) [a, b] [] pos2] X.env = (false, eval (Expr.Call (.Name "range" p2) [a, b] [] pos2) X.env) :: starEach [] X.env := by rfl)
    (nb : starEach [a, b] X.env = (false, eval a X.env) :: starEach [b] X.env := by rfl) (nc : starEach [b] X.env = (false, eval b X.env) :: starEach [] X.env := by rfl) (hp : (backTo pos2 (starEach [b] X.env)).any (·.1) = false := by rfl) :
    PE X (.Call (.Name "list" p) [.Call (.Name "range" p2) [a, b] [] pos2] [] pos) (tLstR2 ta tb) :=
  pe_imp (pe_listRg hc hg hm (prg_2 hg2 hm2 (pe_up ha) (pe_up hb) nb nc hp) na) fun σ H Q h => ⟨_, h, fun v H1 h1 => ⟨_, h1, fun y H2 ⟨i, j, e1, e2, hb, w⟩ => ⟨i, j, e1, e2, ⟨by omega, by omega, by omega, by omega, by omega⟩, fun q nq => by
    rw [rgV_upC]
    exact w.go q nq⟩⟩⟩
/-- list(range(a, b, c)) -/
def tLstR3 (ta : TA) : TE := fun σ H Q => ta σ H fun vs H1 => ∃ (i j c : Int) (n : Nat), vs = [.int i, .int j, .int c] ∧ RgC i j c n ∧ n ≤ 16777216 ∧ New H1 (.lst ((upC i c n).map V.int)) Q
theorem pe_listR3 {a b c : Expr} {ta : TA} {p p2 pos pos2 : Pos} (hc : X.calm = true) (hg : Gl X "list") (hm : X.mg "list" = none) (hg2 : Gl X "range") (hm2 : X.mg "range" = none) (ha : PA X [a, b, c] ta)
    (na : starEach [Expr.Call (.Name "range" p2) [a, b, c] [] pos2] X.env = (false, eval (Expr.Call (.Name "range" p2) [a, b, c] [] pos2) X.env) :: starEach [] X.env := by rfl)
    (hs : starEach [a, b, c] X.env = (false, eval a X.env) :: starEach [b, c] X.env := by rfl) (hpl : (backTo pos2 (starEach [b, c] X.env)).any (·.1) = false := by rfl) :
    PE X (.Call (.Name "list" p) [.Call (.Name "range" p2) [a, b, c] [] pos2] [] pos) (tLstR3 ta) := by
  refine ⟨fun pins s σ H Q I h => ?_⟩
  have hR : wpAny (model X.prog X.w) X.A (eval (.Call (.Name "range" p2) [a, b, c] [] pos2) X.env) (fun x s1 => ∃ r i j c n t u v H1, x = Value.ref r ∧ IsRange s1.heap r i j c t u v ∧ L2.Inv X pins σ H1 s1 ∧ RgC i j c n ∧ n ≤ 16777216 ∧ New H1 (.lst ((upC i c n).map V.int)) Q) X.xe s := by
    refine Call_ (ld_blt I hg2 hm2 boot_range (PyProof.Rows.callWith_type1 (thn (ha.run pos2 pins s σ H _ I h) fun us s1 ⟨vs, H1, I1, r1, q1⟩ => ?_) hs hpl))
    obtain ⟨i, j, k, n, e, ⟨c0, c1, c2, c3⟩, hn, q⟩ := q1
    subst e
    cases r1 with
    | cons r rr =>
      cases rr with
      | cons r' rr =>
        cases rr with
        | cons r'' rr =>
          cases rr
          obtain ⟨t, rfl⟩ := r
          obtain ⟨t', rfl⟩ := r'
          obtain ⟨t'', rfl⟩ := r''
          refine call_range_3 c0 ?_ (.inl (PyProof.noPylong_small c1))
          exact ⟨_, i, j, k, n, _, _, _, H1, rfl, IsRange.new _ _ _ _ _ _ _, I1.kept fun b o e => Heap.get?_push_of_some _ e, ⟨c0, c1, c2, c3⟩, hn, q⟩
  refine Call_ (ld_blt I hg hm boot_list (PyProof.Rows.callWith_type1 (args_cons (thn hR fun x s1 ⟨r, i, j, k, n, t, u, v, H1, ex, hr, I1, ⟨c0, c1, c2, c3⟩, hn, q⟩ => args_nil ?_) na) na))
  subst ex
  refine call_list_range (n := n) (I1.ok.hd hc) hr c2 c3 (by omega) fun h' tk acc c' hk e' hi => ?_
  have vs : Vals ((upC i k n).map V.int) acc.toList := by
    have hl : acc.toList.length = n := by rw [Array.length_toList]; exact hi.1
    have := vals_of_get acc.toList (fun m => V.int (i + (m : Int) * k)) (fun m w hw => by
      have hw' : acc[m]? = some w := by simpa using hw
      exact hi.2 m w hw')
    rw [hl] at this
    unfold upC
    rw [List.map_map]
    exact this
  refine ⟨.ref s1.heap.objs.size, upd H1 s1.heap.objs.size (.lst ((upC i k n).map V.int)), I1.laid hk (Nat.le_refl _) (show ObjOk X.prog X.w _ _ _ (.lst _) from ⟨?_, acc.toList, c', vs, ?_⟩), rfl, q.go _ (I1.hok.fresh (Nat.le_refl _))⟩
  · rw [List.length_map, upC_len, sizeLine_eq]
    exact hn
  · rw [Array.toArray_toList]
    exact e'
end
end Cf

set_option Elab.async false
set_option linter.all false
set_option maxRecDepth 100000
set_option maxHeartbeats 2000000
namespace Cf
open PySem PySem.Spec PyProof.Rows L2
theorem hu64 {A : Around} {k : Nat} (hr : Room k A) : A.units + 64 < cLine := by
  have := hr.un
  omega
/-! ### dicts of ints by tuples of ints -/
def embT (ps : List (List Int × Int)) : List (List Key × V) := ps.map fun p => (kI p.1, .int p.2)
def putT (ps : List (List Int × Int)) (k : List Int) (v : Int) : List (List Int × Int) := if k ∈ ps.map (·.1) then ps.map (fun p => if p.1 = k then (p.1, v) else p) else ps ++ [(k, v)]
def lookT (ps : List (List Int × Int)) (k : List Int) : Option Int := (ps.find? fun p => decide (p.1 = k)).map (·.2)
theorem kI_iff {a b : List Int} : kI a = kI b ↔ a = b := ⟨kI_inj, fun h => by rw [h]⟩
theorem embT_put (ps : List (List Int × Int)) (k : List Int) (v : Int) : putK (embT ps) (kI k) (.int v) = embT (putT ps k v) := by
  have ea : ((embT ps).any fun kv => decide (kv.1 = kI k)) = decide (k ∈ ps.map (·.1)) := by
    unfold embT
    rw [List.any_map]
    by_cases c : k ∈ ps.map (·.1)
    · rw [decide_eq_true c]
      obtain ⟨p, hp, e⟩ := List.mem_map.mp c
      exact List.any_eq_true.mpr ⟨p, hp, decide_eq_true (by rw [← e])⟩
    · rw [decide_eq_false c]
      refine List.any_eq_false.mpr fun p hp z => c (List.mem_map.mpr ⟨p, hp, kI_inj (of_decide_eq_true z)⟩)
  unfold putK putT
  rw [ea]
  by_cases c : k ∈ ps.map (·.1)
  · rw [decide_eq_true c, if_pos rfl, if_pos c]
    unfold embT
    rw [List.map_map, List.map_map]
    refine List.map_congr_left fun p _ => ?_
    simp only [Function.comp]
    by_cases z : p.1 = k
    · rw [if_pos (by rw [z]), if_pos z]
    · rw [if_neg (fun w => z (kI_inj w)), if_neg z]
  · rw [decide_eq_false c, if_neg (by decide), if_neg c]
    unfold embT
    rw [List.map_append]
    rfl
theorem embT_val (ps : List (List Int × Int)) (k : List Int) : valV (embT ps) (kI k) = (lookT ps k).map V.int := by
  unfold valV lookT embT
  rw [List.find?_map, Option.map_map, Option.map_map]
  have : ((fun kv : List Key × V => decide (kv.1 = kI k)) ∘ fun p : List Int × Int => (kI p.1, V.int p.2)) = fun p => decide (p.1 = k) := by
    funext p
    simp only [Function.comp, kI_iff]
  rw [this]
  rfl
theorem embT_len (ps : List (List Int × Int)) : (embT ps).length = ps.length := List.length_map _
theorem putT_len (ps : List (List Int × Int)) (k : List Int) (v : Int) : (putT ps k v).length ≤ ps.length + 1 := by
  unfold putT
  split
  · rw [List.length_map]; omega
  · rw [List.length_append]; exact Nat.le_refl _
theorem dget_ti {H : Hp} {a b : Addr} {ps : List (List Int × Int)} {ns : List Int} (e : H a = some (.dT (embT ps))) (eb : H b = some (.tup (ns.map V.int))) : DGet H a (.ref b) ((lookT ps ns).map V.int) := by
  have := dget_t e eb
  rw [embT_val] at this
  exact this
theorem dput_ti {H : Hp} {a b : Addr} {ps : List (List Int × Int)} {ns : List Int} {v : Int} (e : H a = some (.dT (embT ps))) (eb : H b = some (.tup (ns.map V.int))) (hl : ps.length < sizeLine) : DPut H a (.ref b) (.int v) (upd H a (.dT (embT (putT ps ns v)))) := by
  have := dput_t (v := .int v) e eb (by rw [embT_len]; exact hl)
  rw [embT_put] at this
  exact this
/-! ### rows: pairs of an int and a tuple of ints -/
inductive Rr (H : Hp) : List V → List (Int × List Int) → Prop
  | nil : Rr H [] []
  | cons {t u : Addr} {m : Int} {ns : List Int} {xs : List V} {rs : List (Int × List Int)} : H t = some (.tup [.int m, .ref u]) → H u = some (.tup (ns.map V.int)) → Rr H xs rs → Rr H (.ref t :: xs) ((m, ns) :: rs)
section
variable {H H' : Hp} {xs ys : List V} {rs ts : List (Int × List Int)}
theorem Rr.go (e : ∀ p zs, H p = some (.tup zs) → H' p = some (.tup zs)) : ∀ {xs : List V} {rs : List (Int × List Int)}, Rr H xs rs → Rr H' xs rs
  | _, _, .nil => .nil
  | _, _, .cons a b r => .cons (e _ _ a) (e _ _ b) (Rr.go e r)
theorem Rr.kp0 (h : Rr H xs rs) (k : Kp [] H H') : Rr H' xs rs := h.go fun _ _ z => k.at0 z
theorem Rr.kt {T : List (Addr × Str)} (h : Rr H xs rs) (k : Kt T H H') : Rr H' xs rs := h.go fun _ _ z => k.atT z
theorem Rr.md {D : Addr} {o : HO} (h : Rr H xs rs) (hD : H D = some o) (no : ∀ zs, o ≠ .tup zs) (m : Md D H H') : Rr H' xs rs := h.go fun t zs z => by
  rw [m t (fun w => by rw [w, hD] at z; cases z; exact no _ rfl)]
  exact z
theorem Rr.mdl {D : Addr} {zs : List V} (h : Rr H xs rs) (hD : H D = some (.lst zs)) (m : Md D H H') : Rr H' xs rs := h.md hD (fun _ z => nomatch z) m
theorem Rr.hand {a : Addr} {zs : List V} (h : Rr H xs rs) (ha : H a = some (.lst zs)) (m : Kp [a] H H') : Rr H' xs rs := h.go fun t ys z => m.at1 (fun w => by rw [w, ha] at z; cases z) z
theorem Rr.len : ∀ {xs : List V} {rs : List (Int × List Int)}, Rr H xs rs → xs.length = rs.length
  | _, _, .nil => rfl
  | _, _, .cons _ _ r => congrArg (· + 1) r.len
theorem Rr.app : ∀ {xs : List V} {rs : List (Int × List Int)}, Rr H xs rs → Rr H ys ts → Rr H (xs ++ ys) (rs ++ ts)
  | _, _, .nil, h => h
  | _, _, .cons a b r, h => .cons a b (r.app h)
theorem Rr.one {p u : Addr} {m : Int} {ns : List Int} (h : H p = some (.tup [.int m, .ref u])) (hu : H u = some (.tup (ns.map V.int))) : Rr H [.ref p] [(m, ns)] := .cons h hu .nil
theorem Rr.get : ∀ {xs : List V} {rs : List (Int × List Int)} {i : Nat} {x : V}, Rr H xs rs → xs[i]? = some x → ∃ p u, x = .ref p ∧ i < rs.length ∧ H p = some (.tup [.int (rs.getD i (0, [])).1, .ref u]) ∧ H u = some (.tup ((rs.getD i (0, [])).2.map V.int))
  | _, _, 0, _, .cons a b r, e => by
    cases e
    exact ⟨_, _, rfl, Nat.succ_pos _, a, b⟩
  | _, _, i + 1, _, .cons a b r, e => by
    obtain ⟨p, u, h1, h2, h3, h4⟩ := Rr.get (i := i) r e
    exact ⟨p, u, h1, Nat.succ_lt_succ h2, h3, h4⟩
end
/-! ### d.items(), d with tuples as keys -/
/-- the pairs, each a new tuple of the key's own tuple and the value -/
def ItiT (d : Addr) (o : Obj) (kvs : List (List Key × V)) : It :=
  ⟨fun i H => H d = some (.frz o (.dT kvs)) ∧ i < kvs.length, fun i H x H' => ∃ T b k v, kvs[i]? = some (k, v) ∧ x = .ref T ∧ H T = none ∧ H b = some (.tup (k.map kV)) ∧ H' = upd H T (.tup [.ref b, v]), fun i H => H d = some (.frz o (.dT kvs)) ∧ kvs.length ≤ i⟩
theorem frzT2 {X : Cx} {pins : List (Addr × Obj)} {σ : L2.St} {H : Hp} {s : Shared} {d : Addr} {o : Obj} {kvs : List (List Key × V)} (I : Inv X pins σ H s) (h : H d = some (.frz o (.dT kvs))) :
    (d == sysModules) = false ∧ s.heap.get? d = some o ∧ o.ExactDict ∧ ∃ (es : Array DictEntry) (ep : Nat), o.data = .dict es ep ∧ es.size = kvs.length ∧ kvs.length ≤ sizeLine ∧
      ∀ (i : Nat) (k : List Key) (v : V), kvs[i]? = some (k, v) → ∃ (en : DictEntry) (q : Addr), es[i]? = some en ∧ en.key = .ref q ∧ H q = some (.tup (k.map kV)) ∧ RelV v en.val := by
  obtain ⟨hd, z, hs, xs, pr, o', es, ep, ho, hx, hdt, he, _⟩ := I.hok d _ h
  rw [hd] at ho
  cases ho
  have l1 : es.size = xs.length := size_of_entries he
  have l2 : kvs.length = xs.length := Paired.length pr
  refine ⟨hs, hd, hx, es, ep, hdt, by omega, z, fun i k v e => ?_⟩
  obtain ⟨b, hb, e1, e2, e3⟩ := paired_get pr e
  have q := entry_at he i
  rw [hb] at q
  exact ⟨_, b.2.1, q, rfl, e2, e3⟩
section
variable {P : Program} {w : World} {K : PySem.W.Frag} {d : Addr} {o : Obj} {es : Array DictEntry} {ep : Nat}
theorem turn_itemsT {kvs : List (List Key × V)} {elts : List Expr} {kk : Nat} {tpos : Pos} (it : Addr) (hod : o.data = .dict es ep) :
    Turn P w K (.Tuple elts kk tpos) (ItiT d o kvs) [it] it (fun i h => ∃ ok ov, IsItemIter h it d i kvs.length ep ok ov) where
  mem := by simp
  obj := fun i h st b hb => by
    have e : b = it := by simpa using hb
    subst e
    obtain ⟨ok, ov, e⟩ := st
    exact ⟨_, e, fun v z => nomatch z⟩
  keep := fun i h h' st k => let ⟨ok, ov, e⟩ := st; ⟨ok, ov, k it (by simp) _ e⟩
  item := by
    intro X hP hw hK hc i pins s σ H E I hf st hg
    subst hP hw hK
    obtain ⟨hd, hi⟩ := hg
    obtain ⟨hs, hgd, hx, es', ep', hdt, hsz, _, ent⟩ := frzT2 I hd
    obtain ⟨rfl, rfl⟩ := dict_ep hod hdt
    obtain ⟨⟨k, v⟩, hkv⟩ : ∃ p, kvs[i]? = some p := ⟨kvs[i], List.getElem?_eq_getElem hi⟩
    obtain ⟨en, q, hen, hkey, hq, rv⟩ := ent i k v hkv
    obtain ⟨ok, ov, he⟩ := st
    rw [← hsz] at he
    have hlt : it < s.heap.objs.size := Heap.lt_size he
    have hie : i < es'.size := by omega
    have een : es'[i] = en := by
      have := Array.getElem?_eq_getElem hie
      rw [hen] at this
      exact (Option.some.inj this).symm
    refine DT.nextI he ⟨o, hgd, hx, hdt⟩ hie fun h' ho hT hz hk => ?_
    rw [een, hkey] at hT
    refine ⟨_, rfl, wpAny_letOwnedTupleGo_items (s := { s with heap := h' }) ho fun h'' he' sb => ?_⟩
    have hT2 : h''.get? s.heap.objs.size = some { cls := .type "tuple", data := .seq #[.ref q, en.val] } := (sb.2 _ (Nat.ne_of_gt hlt)).trans hT
    have new : ObjOk X.prog X.w (upd H s.heap.objs.size (.tup [.ref q, v])) h'' s.heap.objs.size (.tup [.ref q, v]) :=
      ⟨by show 2 ≤ sizeLine; decide, [.ref q, en.val], .cons rfl (.cons rv .nil), ⟨_, hT2, rfl, _, rfl⟩⟩
    have I1 : Inv X pins σ (upd H s.heap.objs.size (.tup [.ref q, v])) { s with heap := h'' } :=
      I.turnedNew (t' := s.toks) (ch := [it]) (fun b ob hb e => (sb.2 b (by simpa using hb)).trans (hk b ob (by simpa using hb) e)) hf (Nat.le_refl _) new
    refine ⟨.ref s.heap.objs.size, _, I1, rfl, ⟨_, q, k, v, hkv, rfl, I.hok.fresh (Nat.le_refl _), hq, rfl⟩, ⟨es'[i].key, es'[i].val, ?_⟩, fun b hb => ?_⟩
    · rw [← hsz]; exact he'
    · have e : b = it := by simpa using hb
      rw [e, upd_ne (Nat.ne_of_lt hlt)]
      exact (hf it (by simp)).1
  done := by
    intro X hP hw hK hc i pins s σ H E I hf st hg
    subst hP hw hK
    obtain ⟨hd, hi⟩ := hg
    obtain ⟨f0, f1, f2, f3, f4, f5⟩ := hf it (by simp)
    obtain ⟨hs, hgd, hx, es', ep', hdt, hsz, _, ent⟩ := frzT2 I hd
    obtain ⟨rfl, rfl⟩ := dict_ep hod hdt
    obtain ⟨ok, ov, he⟩ := st
    rw [← hsz] at he
    exact DT.endI (I.ok.hd hc) he ⟨o, hgd, hx, hdt⟩ (by omega) fun h' eb => ⟨rfl, I.turned (t' := s.toks) (fun b ob hb e => eb b ob hb e) f0 f1 f3 f4 f5⟩
  self := fun A i s Q E st h => let ⟨_, _, e⟩ := st; PySem.W.kcp_self e h
end
def iItemsT (td : TE) : TI := fun σ H R => td σ H fun x H1 => ∃ d o kvs, x = .ref d ∧ H1 d = some (.frz o (.dT kvs)) ∧ R (ItiT d o kvs) H1
theorem pi_itemsT {X : Cx} {e : Expr} {td : TE} {apos cpos : Pos} {elts : List Expr} {kk : Nat} {tpos : Pos} (he : PE X e td) (hbase : attributeBase e "items" X.env (eval e X.env) = eval e X.env := by rfl) (hline : (apos.endLine == cpos.line) = true := by rfl) :
    PI X (.Tuple elts kk tpos) (.Call (.Attribute e "items" apos) [] [] cpos) (iItemsT td) := by
  refine ⟨fun pins s σ H R I h => ?_⟩
  refine wpAny_Call_method (T := "dict") (id := "dict.items") hbase rfl hline F.plainAttrs_dict F.slot_dict_items F.type_dict_items (thn (he.run pins s σ H _ I h) fun u s1 ⟨x, H1, I1, rx, d, o, kvs, ex, hd, q⟩ => ?_)
  subst ex
  obtain rfl : u = Value.ref d := rx
  obtain ⟨hs, hgd, hx, es, ep, hdt, hsz, hz, ent⟩ := frzT2 I1 hd
  have rw0 : DT.Raw s1.heap d es ep := ⟨o, hgd, hx, hdt⟩
  refine ⟨rw0.typeIs, ?_, ?_⟩
  · exact fun b e => by cases e; exact ⟨o, hgd, hx.2.1⟩
  have I2 : Inv X pins σ H1 { s1 with heap := s1.heap.push { cls := .type "dict_items", data := .fields #[.ref d] } } := I1.kept (t' := s1.toks) fun b ob q => Heap.get?_push_of_some _ q
  have fin : wpAny (model X.prog X.w) X.A (pyIter (.ref s1.heap.objs.size)) (PIE X pins σ (.Tuple elts kk tpos) R) X.xe { s1 with heap := s1.heap.push { cls := .type "dict_items", data := .fields #[.ref d] } } := by
    refine DT.iterI (d := d) (es := es) (ep := ep) ⟨_, Heap.get?_push_size _ rfl, rfl, rfl⟩ (rw0.push _) (pi_one (tk := s1.toks) I2 _ (turn_itemsT _ hdt) ⟨.none, .none, ?_⟩ q)
    rw [← hsz]
    exact Heap.get?_push_size _ rfl
  show wpAny _ _ (callWith cpos (.builtin "dict.items") [.ref d] [] []) _ X.xe s1
  exact method_meetsIn F.slot_dict_items F.entry_dict_items rfl (PySem.evalArgs_none ⟨rfl, rw0.typeIs, F.args_dict_items_1 _, _, DT.meetsItems (es := es) (ep := ep) hs, rw0, fin⟩)
theorem walk_itemsT {d : Addr} {o : Obj} {ps : List (List Int × Int)} {n : Nat} (hn : n = ps.length) : Walk (ItiT d o (embT ps)) n (fun H => H d = some (.frz o (.dT (embT ps))))
    (fun i H x H' => ∃ T b, x = .ref T ∧ H T = none ∧ H b = some (.tup ((ps.getD i ([], 0)).1.map V.int)) ∧ Kp [] H H' ∧ H' T = some (.tup [.ref b, .int (ps.getD i ([], 0)).2])) := by
  subst hn
  refine ⟨fun i H hi q => ⟨q, by rw [embT_len]; exact hi⟩, fun H q => ⟨q, by rw [embT_len]; exact Nat.le_refl _⟩, ?_⟩
  rintro i H x H' hi q ⟨T, b, k, v, e, ex, nT, hb, rfl⟩
  unfold embT at e
  rw [List.getElem?_map, List.getElem?_eq_getElem hi] at e
  cases e
  rw [List.getD_eq_getElem?_getD, List.getElem?_eq_getElem hi]
  rw [kI_map] at hb
  exact ⟨T, b, ex, nT, hb, Kp.new nT, upd_same⟩
/-! ### sorted(d) -/
theorem tupItems_ints : ∀ {vs : List Value} {ns : List Int} (i : Nat), IntsAre vs ns → tupItems (fun _ => false) i vs = some (ns.map Sum.inl)
  | _, _, i, .nil => rfl
  | _, _, i, .cons n t r => by
    show (if false = true then none else (tupItems _ (i + 1) _).map (Sum.inl n :: ·)) = _
    rw [if_neg (by decide), tupItems_ints (i + 1) r]
    rfl
theorem tupKeyC_ints {h : Heap} {b : Addr} {ns : List Int} (t : TS.TupInts h (.ref b) ns) : ∃ l, PyProof.Rows.G.tupKeyC h (fun _ => false) (.ref b) = some l := by
  obtain ⟨a, xs, e, ⟨o, ho, hc, n, hd⟩, hi⟩ := t
  cases e
  refine ⟨ns.map Sum.inl, ?_⟩
  unfold PyProof.Rows.G.tupKeyC
  rw [if_pos (by simp [PyProof.Rows.G.isTupObj, ho, hc])]
  unfold tupKey
  simp only [ho, hd]
  exact tupItems_ints 0 hi
theorem tupOf_ints {h : Heap} {b : Addr} {ns : List Int} (t : TS.TupInts h (.ref b) ns) (hn : ns ≠ []) : ∃ f, TupOf h (fun _ => false) (.ref b) f := by
  obtain ⟨a, xs, e, ⟨o, ho, hc, n, hd⟩, hi⟩ := t
  cases e
  obtain ⟨l⟩ := xs
  cases hi with
  | nil => exact absurd rfl hn
  | cons m tk r => exact ⟨_, b, o, _, n, rfl, ho, hc, hd, rfl, fun _ => ⟨m, tk, rfl⟩, fun z => nomatch z⟩
theorem tupsOf_ints {h : Heap} : ∀ {vs : List Value}, (∀ v ∈ vs, ∃ b ns, v = .ref b ∧ TS.TupInts h (.ref b) ns ∧ ns ≠ []) → ∃ fs, TupsOf h (fun _ => false) vs fs
  | [], _ => ⟨[], .nil⟩
  | v :: vs, hv => by
    obtain ⟨fs, hf⟩ := tupsOf_ints fun u hu => hv u (List.mem_cons_of_mem _ hu)
    obtain ⟨b, ns, rfl, t, hn⟩ := hv v List.mem_cons_self
    obtain ⟨f, hf1⟩ := tupOf_ints t hn
    exact ⟨f :: fs, .cons hf1 hf⟩
theorem keys_of {H : Hp} : ∀ {ps : List (List Int × Int)} {ks : List (List Key × Addr × Value)}, KT H (embT ps) ks →
    ∃ L : List (Addr × List Int), L.map (·.1) = ks.map (fun x => x.2.1) ∧ L.map (·.2) = ps.map (·.1) ∧ ∀ z ∈ L, H z.1 = some (.tup (z.2.map V.int))
  | [], _, .nil => ⟨[], rfl, rfl, fun _ h => nomatch h⟩
  | p :: ps, _, .cons (b := k) r t => by
    obtain ⟨L, h1, h2, h3⟩ := keys_of t
    refine ⟨(k.2.1, p.1) :: L, by rw [List.map_cons, List.map_cons, h1], by rw [List.map_cons, List.map_cons, h2], fun z hz => ?_⟩
    rcases List.mem_cons.mp hz with e | hz
    · rw [e]
      have := r.2.1
      rw [kI_map] at this
      exact this
    · exact h3 z hz
theorem rt_of {H : Hp} : ∀ {zs : List (Addr × List Int)}, (∀ z ∈ zs, H z.1 = some (.tup (z.2.map V.int))) → Rt H (zs.map fun z => V.ref z.1) (zs.map (·.2))
  | [], _ => .nil
  | z :: zs, h => .cons (h z List.mem_cons_self) (rt_of fun y hy => h y (List.mem_cons_of_mem _ hy))
section
variable {X : Cx}
/-- sorted(d), d a dict of ints by tuples of ints: its keys, in some order -/
theorem cr_srtDT (hc : X.calm = true) : CallR X (.builtin "sorted") (fun vs H Q => ∃ (d : Addr) (ps : List (List Int × Int)), vs = [.ref d] ∧ H d = some (.dT (embT ps)) ∧ ps.length < 64 ∧ (∀ p ∈ ps, p.1 ≠ []) ∧
    ∀ (ys : List V) (ks : List (List Int)) (q : Addr) (H1 : Hp), Rt H1 ys ks → ks.Perm (ps.map (·.1)) → H q = none → Kp [] H H1 → H1 q = some (.lst ys) → Q (.ref q) H1) := by
  intro pins s σ H xs us Q I r h
  obtain ⟨d, ps, rfl, hd, h64, hne, q⟩ := h
  obtain ⟨u, rfl, rx⟩ := r.one
  cases rx
  obtain ⟨z, hs, ks, pr, o, es, ep, ho, hx, hdt, he, hn⟩ := (show ObjOk X.prog X.w H s.heap d (.dT (embT ps)) from I.hok d _ hd)
  have l1 : es.size = ks.length := size_of_entries he
  have l2 : (embT ps).length = ks.length := Paired.length pr
  rw [embT_len] at l2
  obtain ⟨L, e1, e2, e3⟩ := keys_of pr
  have lL : L.length = ks.length := by
    have := congrArg List.length e1
    rwa [List.length_map, List.length_map] at this
  refine Calls.call_function_entry PyProof.Rows.kind_sorted PyProof.Rows.plain_sorted PyProof.Rows.entry_sorted (PyProof.Rows.args_sorted1 _) ?_
  unfold Builtin.«sorted»
  refine wpAny_bind (m := checkCount "sorted" 1 1 _) (wpAny_pure ?_)
  refine wpAny_bind (PySem.W.kdu_collect (A := X.A.in1) (kdl_raw hs hx hdt) (I.ok.hd hc) ho (by rw [sizeLine_eq]; omega) fun h' tk acc hk it => ?_)
  have ea : acc.toList = (L.map (·.1)).map Value.ref := by
    rw [e1]
    have hl : acc.toList.length = ks.length := by rw [Array.length_toList, it.1]; exact l1
    apply List.ext_getElem?
    intro j
    rw [List.getElem?_map, List.getElem?_map]
    cases hj : acc.toList[j]? with
    | none =>
      have h1 := List.getElem?_eq_none_iff.mp hj
      rw [List.getElem?_eq_none (by omega)]
      all_goals rfl
    | some v =>
      obtain ⟨en, hen, hv⟩ := it.2 j v (by rw [← Array.getElem?_toList]; exact hj)
      have qe := entry_at he j
      rw [hen] at qe
      cases hb : ks[j]? with
      | none =>
        rw [hb] at qe
        exact nomatch (show some en = none from qe)
      | some b =>
        rw [hb] at qe
        have e2 : en = entryOfKey (tupleKind (mixKind X.prog X.w)) b := Option.some.inj qe
        rw [hv, e2]
        all_goals rfl
  have I1 : Inv X pins σ H { s with heap := h', toks := tk } := I.kept hk
  rw [ea]
  generalize hvs : (L.map (·.1)).map Value.ref = vs
  have hvl : vs.length = L.length := by rw [← hvs, List.length_map, List.length_map]
  have hL : vs.length ≤ sizeLine := by rw [sizeLine_eq]; omega
  refine wpAny_bind (wpAny_newList ?_ hL)
  have hoL : (h'.push (seqObj "list" vs.toArray 0)).get? h'.objs.size = some (seqObj "list" vs.toArray 0) := Heap.get?_push_size _ rfl
  have I2 : Inv X pins σ H { s with heap := h'.push (seqObj "list" vs.toArray 0), toks := tk } := I1.kept (t' := tk) fun b ob e => Heap.get?_push_of_some _ e
  have hall : ∀ v ∈ vs, ∃ b ns, v = Value.ref b ∧ TS.TupInts (h'.push (seqObj "list" vs.toArray 0)) (.ref b) ns ∧ ns ≠ [] := by
    intro v hv
    rw [← hvs, List.map_map] at hv
    obtain ⟨zl, hz, rfl⟩ := List.mem_map.mp hv
    refine ⟨zl.1, zl.2, rfl, tupI_raw I2 (sqT (e3 zl hz)), fun z0 => ?_⟩
    have hm : zl.2 ∈ ps.map (·.1) := by rw [← e2]; exact List.mem_map.mpr ⟨zl, hz, rfl⟩
    obtain ⟨p, hp, ep⟩ := List.mem_map.mp hm
    exact hne p hp (by rw [ep]; exact z0)
  obtain ⟨fs, ht⟩ := tupsOf_ints hall
  show wpAny _ _ _ _ _ { s with heap := h'.push (seqObj "list" vs.toArray 0), toks := tk }
  refine wpAny_bind (wpAny_holding (wpAny_call_entry PyProof.Rows.slot_list_sort ⟨_, hoL, rfl⟩ PyProof.Rows.entry_list_sort
    (PyProof.Rows.G.list_sort_tups (s := { s with heap := h'.push (seqObj "list" vs.toArray 0), toks := tk }) hoL ht (fun v hv => ?_) hL fun st' g1 g2 g3 => ⟨_, rfl, ?_⟩) (PyProof.Rows.args_list_sort _)))
  · obtain ⟨b, ns, rfl, t, _⟩ := hall v hv
    exact tupKeyC_ints t
  · have gp : ((arrOf st').map (·.2)).toList.Perm vs := by
      have g0 : (arrOf st').toList.Perm (pairsOf vs).toList := g1.toList
      rw [pairsOf_toList] at g0
      have := g0.map (·.2)
      rw [List.map_snd_zip (Nat.le_refl _)] at this
      rw [Array.toList_map]
      exact this
    rw [← hvs, List.map_map] at gp
    obtain ⟨zs, pz, ez⟩ := perm_lift (Value.ref ∘ fun z : Addr × List Int => z.1) gp L rfl
    have ez2 : ((arrOf st').map (·.2)).toList = zs.map fun z => Value.ref z.1 := ez.symm
    obtain ⟨e', he'⟩ := PyProof.Rows.sortedHeap_at (vs := vs) (out := (arrOf st').map (·.2)) hoL
    have hn0 : H h'.objs.size = none := I1.hok.fresh (Nat.le_refl _)
    have hlen : (zs.map fun z => V.ref z.1).length ≤ sizeLine := by rw [List.length_map, pz.length_eq, sizeLine_eq]; omega
    have rv : Vals (zs.map fun z => V.ref z.1) ((arrOf st').map (·.2)).toList := by
      rw [ez2]
      exact vals_of_refs zs
    refine wpAny_pure ⟨_, rfl, .ref h'.objs.size, upd H h'.objs.size (.lst (zs.map fun z => V.ref z.1)), I1.laid (t' := tk) (fun b u e => ?_) (Nat.le_refl _) ⟨hlen, _, e', rv, he'⟩, rfl, ?_⟩
    · show (sortedHeap (h'.push (seqObj "list" vs.toArray 0)) h'.objs.size vs _).get? b = some u
      rw [PyProof.Rows.sortedHeap_old (Nat.ne_of_lt (Heap.lt_size e)) (by rw [Heap.size_push]; exact Nat.lt_succ_of_lt (Heap.lt_size e))]
      exact Heap.get?_push_of_some _ e
    · have k : Kp [] H (upd H h'.objs.size (.lst (zs.map fun z => V.ref z.1))) := Kp.new hn0
      refine q _ (zs.map (·.2)) _ _ ((rt_of fun z hz => e3 z (pz.mem_iff.mp hz)).kp0 k) ?_ hn0 k upd_same
      rw [← e2]
      exact pz.map _
/-- len(set(xs)), xs a list of tuples of ints that all differ -/
theorem pe_lenSetT {K : PySem.W.Frag} (eK : X.K = K) {a : Expr} {ta : TE} {p p2 q pos : Pos} (hc : X.calm = true) (hu : X.A.units + 64 < cLine) (hg : Gl X "len") (hm : X.mg "len" = none) (hg2 : Gl X "set") (hm2 : X.mg "set" = none) (ha : PE X a ta)
    (na : starEach [a] X.env = (false, eval a X.env) :: starEach [] X.env := by rfl) : PE X (.Call (.Name "len" p) [.Call (.Name "set" p2) [a] [] q] [] pos)
      (fun σ H Q => ta σ H fun x H1 => ∃ (l : Addr) (xs : List V) (rs : List (List Int)), x = V.ref l ∧ SqL K H1 l xs ∧ Rt H1 xs rs ∧ rs.length < 64 ∧ rs.Nodup ∧ Q (.int rs.length) H1) := by
  subst eK
  refine ⟨fun pins s σ H Q I h => ?_⟩
  refine Call_ (ld_blt I hg hm PySem.boot_len ?_)
  refine PyProof.Rows.callWith_builtin1 (PyProof.Rows.args_cons ?_ rfl) rfl rfl
  refine Call_ (ld_blt I hg2 hm2 PyProof.Rows.boot_set ?_)
  refine PyProof.Rows.callWith_type1 (PyProof.Rows.args_cons (thn (ha.run pins s σ H _ I h) fun v s1 ⟨x, H1, I1, r1, q1⟩ => PyProof.Rows.args_nil ?_) na) na rfl
  obtain ⟨l, xs, rs, rfl, hq, hrt, h1, hnd, q1⟩ := q1
  cases r1
  obtain ⟨its, r, pl, hz⟩ := I1.list hq
  have go : ∀ {xs : List V} {rs : List (List Int)}, Rt H1 xs rs → ∃ ks : List (Addr × List Int), xs = ks.map (fun p => V.ref p.1) ∧ rs = ks.map (·.2) ∧ ∀ p ∈ ks, H1 p.1 = some (.tup (p.2.map V.int)) := by
    intro xs rs h
    induction h with
    | nil => exact ⟨[], rfl, rfl, fun _ h => nomatch h⟩
    | cons ht _ ih =>
      obtain ⟨ks, e1, e2, e3⟩ := ih
      refine ⟨(_, _) :: ks, by rw [e1, List.map_cons], by rw [e2, List.map_cons], fun p hp => ?_⟩
      rcases List.mem_cons.mp hp with e | hp
      · rw [e]; exact ht
      · exact e3 p hp
  obtain ⟨ks, e1, e2, e3⟩ := go hrt
  have hkl : ks.length = rs.length := by rw [e2, List.length_map]
  refine call_set_tups (P := X.prog) (w := X.w) ks (I1.ok.hd hc) pl.isList (by rw [e1] at r; simpa using refs_of_vals r) (fun p hp => I1.isT (sqT (e3 p hp))) (by omega) (by omega) fun h' tk L es ep t R g k => ?_
  have hLl : L.length = rs.length := by
    have pm : (L.map (·.2)).Perm (ks.map (·.2)) := by
      refine (List.perm_ext_iff_of_nodup R.nd (by rw [← e2]; exact hnd)).mpr fun y => ⟨fun hy => ?_, fun hy => ?_⟩
      · obtain ⟨p, hp, rfl⟩ := List.mem_map.mp hy
        exact List.mem_map.mpr ⟨p, List.mem_of_mem_take (g.sub p hp), rfl⟩
      · obtain ⟨p, hp, rfl⟩ := List.mem_map.mp hy
        exact g.all p (by rw [List.take_length]; exact hp)
    have := pm.length_eq
    rw [List.length_map, List.length_map] at this
    omega
  have hes : es.size = L.length := by
    have h := congrArg List.length R.rows
    unfold rowsOf at h
    rw [Array.length_toList, List.length_map] at h
    exact h
  refine PyProof.Rows.args_nil ?_
  obtain ⟨o, ho, hex, hd⟩ := R.ob
  have I2 : Inv X pins σ H1 { s1 with heap := h', toks := tk } := I1.kept k
  refine call_len_set ho hex hd (SetTR.fits (s := { s1 with heap := h', toks := tk }) R) (by rw [hes]; omega) ⟨.int rs.length, H1, I2.tok _, ⟨_, by rw [hes, hLl]⟩, q1⟩
end
/-- zip of a list of anything and two of ints -/
def YZ3V (xs : List V) (ms ls : List Int) : Nat → Hp → V → Hp → Prop := fun i H x H' => ∃ T y, xs[i]? = some y ∧ x = .ref T ∧ H T = none ∧ Kp [] H H' ∧ H' T = some (.tup [y, .int (ms.getD i 0), .int (ls.getD i 0)])
theorem walk_z3V {K : PySem.W.Frag} {b1 : Bool} {a1 : Addr} {b2 : Bool} {a2 : Addr} {b3 : Bool} {a3 : Addr} {xs : List V} {ms ls : List Int} {n : Nat} (hn : n = min (min xs.length ms.length) ls.length) : Walk (Itz3 K b1 a1 b2 a2 b3 a3) n (fun H => Sq2 K H b1 a1 xs ∧ Sq2 K H b2 a2 (ms.map V.int) ∧ Sq2 K H b3 a3 (ls.map V.int)) (YZ3V xs ms ls) := by
  subst hn
  refine ⟨fun i H hi q => ?_, fun H q => ?_, ?_⟩
  · exact ⟨_, _, _, _, _, _, q.1, List.getElem?_eq_getElem (by omega), q.2.1, getD_map (by omega), q.2.2, getD_map (by omega)⟩
  · exact ⟨_, _, _, q.1, q.2.1, q.2.2, by omega, by rw [List.length_map]; omega, by rw [List.length_map]; omega, by rw [List.length_map, List.length_map]; omega⟩
  · rintro i H x H' hi q ⟨T, x1, x2, x3, e, n, eh, f1, f2, f3⟩
    have z2 := getD_at (by omega) (f2 _ q.2.1)
    have z3 := getD_at (by omega) (f3 _ q.2.2)
    have z1 := f1 _ q.1
    subst z2 z3 eh
    exact ⟨T, x1, z1, e, n, Kp.new n, upd_same⟩
end Cf

set_option Elab.async false
set_option linter.all false
set_option maxRecDepth 100000
set_option maxHeartbeats 2000000
namespace Cf
open PySem PySem.Spec PyProof.Rows L2
/-! ### data of any kind: what its type is -/
def isI : V → Bool
  | .int _ => true
  | _ => false
def btw (v : V) (a b : Int) : Bool := match v with
  | .int i => decide (a ≤ i ∧ i ≤ b)
  | _ => false
/-- a value whose type is known, an int or not, a tuple or not -/
def Kn (K : PySem.W.Frag) (H : Hp) (v : V) : Prop := ∃ (c : String) (b1 b2 : Bool), TyX K H v (.type c) ∧ kitB c "int" = some b1 ∧ kitB c "bool" = some b2 ∧ (b1 && !b2) = isI v
theorem Kn.int {K : PySem.W.Frag} {H : Hp} (i : Int) : Kn K H (.int i) := ⟨"int", true, false, .base (.int i), by decide +kernel, by decide +kernel, rfl⟩
theorem Kn.bl {K : PySem.W.Frag} {H : Hp} (b : Bool) : Kn K H (.bl b) := ⟨"bool", true, true, .base (.bl b), by decide +kernel, by decide +kernel, rfl⟩
theorem Kn.non {K : PySem.W.Frag} {H : Hp} : Kn K H .non := ⟨"NoneType", false, false, .base .non, by decide +kernel, by decide +kernel, rfl⟩
theorem Kn.str {K : PySem.W.Frag} {H : Hp} (x : Str) : Kn K H (.str x) := ⟨"str", false, false, .base (.str x), by decide +kernel, by decide +kernel, rfl⟩
theorem Kn.tup {K : PySem.W.Frag} {H : Hp} {p : Addr} {xs : List V} (h : SqT K H p xs) : Kn K H (.ref p) := ⟨"tuple", false, false, ty_tup h, by decide +kernel, by decide +kernel, rfl⟩
theorem ty_lst {K : PySem.W.Frag} {H : Hp} {p : Addr} {xs : List V} (h : SqL K H p xs) : TyX K H (.ref p) (.type "list") := by
  rcases h with (h | ⟨o, h⟩) | ⟨o, its, n, hk, hc, _⟩
  · exact .base (.lst h)
  · exact .base (.frz h)
  · exact .kList hk hc
theorem Kn.lst {K : PySem.W.Frag} {H : Hp} {p : Addr} {xs : List V} (h : SqL K H p xs) : Kn K H (.ref p) := ⟨"list", false, false, ty_lst h, by decide +kernel, by decide +kernel, rfl⟩
theorem Kn.dK {K : PySem.W.Frag} {H : Hp} {p : Addr} {kvs : List (Key × V)} (h : H p = some (.dK kvs)) : Kn K H (.ref p) := ⟨"dict", false, false, .base (.dK h), by decide +kernel, by decide +kernel, rfl⟩
theorem Kn.dT {K : PySem.W.Frag} {H : Hp} {p : Addr} {kvs : List (List Key × V)} (h : H p = some (.dT kvs)) : Kn K H (.ref p) := ⟨"dict", false, false, .base (.dT h), by decide +kernel, by decide +kernel, rfl⟩
section
variable {X : Cx}
/-- t[i], t a tuple of anything -/
theorem ix_taN {K : PySem.W.Frag} (e : X.K = K) : IxR X (fun x y H Q => ∃ (p : Addr) (xs : List V) (i : Nat) (v : V), x = .ref p ∧ y = .int (i : Int) ∧ SqT K H p xs ∧ xs[i]? = some v ∧ Q v H) := by
  subst e
  refine ix_imp ix_tup fun x y H Q ⟨p, xs, i, v, a, b, c, d, q⟩ => ⟨p, xs, _, v, a, b, c, ?_, q⟩
  exact atI_nat d
/-- t[k:], t a tuple of anything, 1 ≤ k -/
theorem sl_taFrom {K : PySem.W.Frag} (e : X.K = K) : SlR X (fun x lo hi H Q => ∃ p, ∃ xs : List V, ∃ k : Nat, x = .ref p ∧ lo = some (k : Int) ∧ hi = none ∧ SqT K H p xs ∧ 1 ≤ k ∧ 0 < xs.length ∧ New H (.tup (xs.drop k)) Q) := by
  subst e
  refine sl_imp sl_tup fun x lo hi H Q ⟨p, xs, k, a, b, c, d, hk, hx, n⟩ => ?_
  subst a b c
  refine ⟨p, _, rfl, d, ?_, ?_⟩
  · rintro ⟨z, _⟩
    rw [HT.sIx_nat] at z
    omega
  · rw [cut_drop xs k]
    exact n.go
/-- t[:-1], t a tuple of anything -/
theorem sl_taInit {K : PySem.W.Frag} (e : X.K = K) : SlR X (fun x lo hi H Q => ∃ p, ∃ xs : List V, x = .ref p ∧ lo = none ∧ hi = some (-1) ∧ SqT K H p xs ∧ 0 < xs.length ∧ New H (.tup (xs.take (xs.length - 1))) Q) := by
  subst e
  refine sl_imp sl_tup fun x lo hi H Q ⟨p, xs, a, b, c, d, hx, n⟩ => ?_
  subst a b c
  have e1 : HT.sIx xs.length xs.length (some (-1)) = xs.length - 1 := by
    show (if (-1 : Int) < 0 then ((-1 : Int) + (xs.length : Int)).toNat else min (-1 : Int).toNat xs.length) = _
    rw [if_pos (by decide)]
    omega
  refine ⟨p, _, rfl, d, ?_, ?_⟩
  · rintro ⟨_, z⟩
    rw [e1] at z
    omega
  · have : cutV xs none (some (-1)) = xs.take (xs.length - 1) := by
      unfold cutV
      rw [HT.sIx_none, e1]
      simp
    rw [this]
    exact n.go
/-- xs * k, xs a list of anything -/
theorem op_repLA : OpR X (binaryOp .Mult) (fun x y H Q => ∃ p, ∃ xs : List V, ∃ k : Nat, x = .ref p ∧ y = .int (k : Int) ∧ H p = some (.lst xs) ∧ k < 2 ^ 62 ∧ xs.length * k ≤ sizeLine ∧ New H (.lst (List.replicate k xs).flatten) Q) :=
  op_imp op_rep fun x y H Q ⟨p, xs, k, a, b, c, d, l, n⟩ => ⟨p, k, _, a, b, c, by omega, by omega, by rw [Int.toNat_natCast]; exact l, by rw [Int.toNat_natCast]; exact n.go⟩
/-- == and != of data -/
theorem op_eqDK {K : PySem.W.Frag} (e : X.K = K) {k : Nat} (hr : Room k X.A) : OpR X (compareOp .Eq) (rEqD K) := by
  subst e
  exact op_eqD hr.units
theorem op_neDK {K : PySem.W.Frag} (e : X.K = K) {k : Nat} (hr : Room k X.A) : OpR X (compareOp .NotEq) (rNeD K) := by
  subst e
  exact op_neD hr.units
/-- t + u of tuples of anything, t and u not empty -/
theorem op_catTA {K : PySem.W.Frag} (e : X.K = K) : OpR X (binaryOp .Add) (fun x y H Q => ∃ p q, ∃ xs ys : List V, x = .ref p ∧ y = .ref q ∧ SqT K H p xs ∧ SqT K H q ys ∧ xs ≠ [] ∧ xs.length + ys.length ≤ sizeLine ∧ ∀ r H1, Kp [] H H1 → SqT K H1 r (xs ++ ys) → Q (.ref r) H1) := by
  subst e
  refine op_imp op_catT fun x y H Q ⟨p, q, xs, ys, a, b, c, d, n, l, w⟩ => ⟨p, q, xs, ys, a, b, c, d, n, l, fun z => ?_, fun z r nr => ?_⟩
  · subst z
    exact w p H Kp.refl (by rw [List.append_nil]; exact c)
  · exact w r _ (Kp.new nr) (sqT upd_same)
end
end Cf

set_option Elab.async false
set_option linter.all false
set_option maxRecDepth 100000
set_option maxHeartbeats 2000000
namespace Cf
open PySem PySem.Spec PyProof.Rows L2
section
variable {P : Program} {w : World} {K : PySem.W.Frag} {mg : Str → Option Value} {base : Heap}
/-- a def that may let exceptions of the program out -/
theorem okX {k : Nat} {x qual : Str} {st : Stmt} {f : Addr} {fd : FuncData}
    {N ps : List Str} {sp : Sp} (F : Fun K x qual st f fd) (S : FnScope N ps (defScope st))
    (len : ∀ vs H Q E, sp vs H Q E → vs.length = ps.length)
    (body : ∀ (cdv : Value) (A : Around) (outer : List Env) (s : Shared) (H : Hp) (vs : List V) (Q : VK) (E : XK),
      (A.deeper (envOfC qual (defScope st) s.heap.objs.size f cdv)).guards = some [] → Room k (A.deeper (envOfC qual (defScope st) s.heap.objs.size f cdv)) → sp vs H Q E →
      ∃ t, PSs (cxOf (L2.CX P w) P w K mg base N qual (defScope st) f cdv A outer s H E) (defBody st) t ∧
        t { nx := fun _ H' => Q .non H', rt := Q } (start N vs) H) :
    FnG P w K mg base (L2.CX P w) (k + 1) f fd ps sp :=
  fnG_of F S len fun cd A o s H vs Q E g hr q => body cd A o s H vs Q E g hr q
/-- a def that answers where sp1 holds and may let exceptions out where sp2 does -/
theorem fnG_or {CX : CXT} {k : Nat} {f : Addr} {fd : FuncData} {ps : List Str} {sp1 sp2 : Sp} (a : FnG P w K mg base CX0 k f fd ps sp1) (b : FnG P w K mg base CX k f fd ps sp2) : FnG P w K mg base CX k f fd ps (fun vs H Q E => sp1 vs H Q E ∨ sp2 vs H Q E) where
  len := fun vs H Q E h => h.elim (a.len vs H Q E) (b.len vs H Q E)
  run := fun A outer s H args us vs Q E hr hg e0 hb r h => by
    rcases h with h | h
    · refine codeAny_mono (a.run A outer s H args us vs Q E hr hg e0 hb r h) fun res s' q => ?_
      match res, q with
      | .error e, q => exact q.elim
      | .ok (.ret u), q => exact q
      | .ok .next, q => exact q
      | .ok .brk, q => exact q
      | .ok .cont, q => exact q
    · exact b.run A outer s H args us vs Q E hr hg e0 hb r h
/-- a class of the program over ValueError -/
structure ExA (K : PySem.W.Frag) (mg : Str → Option Value) (nm : Str) (C : Addr) : Prop where
  x : PySem.W.excIn K C [.type "ValueError", .type "Exception", .type "BaseException", .type "object"] "ValueError.__new__" = true
  g : mg nm = some (.ref C)
  k : PySem.W.keepIn K (.ref C) = true
  b : PySem.W.subIn K (.ref C) (.type "BaseException") = some true
  t : PySem.W.typeIn K (.ref C) = some (.type "type")
end
section
variable {X : Cx}
theorem passF : Passes (L2.CX X.prog X.w) X (fun _ _ _ => False) := fun _ _ _ _ _ _ _ ⟨_, _, _, _, _, _, _, _, _, _, _, _, z⟩ => z.elim
theorem takesF : Takes X (fun _ _ _ _ => False) := fun _ _ x => by
  obtain ⟨_, _, _, _, _, _, _, _, _, _, _, _, _, _, _, _, z⟩ := x
  exact z.elim
/-- a def called where what it lets out is taken -/
theorem pe_clS {CX : CXT} {k n : Nat} {sp : Sp} {E : L2.St → XK} {x : Str} {p pos : Pos} {e : Expr} {es : List Expr} {t : TA} (C : Cl X.prog X.w X.K X.mg X.base CX k x n sp) (hr : Room k X.A) (hgd : X.A.guards = some [])
    (hx : ∀ σ, PassesAt CX X σ (E σ)) (hg : Gl X x) (ha : PA X (e :: es) t)
    (hdb : (x == ("__debug__" : Str)) = false := by decide)
    (he : starEach (e :: es) X.env = (false, eval e X.env) :: starEach es X.env := by rfl)
    (hpl : (backTo pos (starEach es X.env)).any (·.1) = false := by rfl) :
    PE X (.Call (.Name x p) (e :: es) [] pos) (tCallS sp E t) := by
  obtain ⟨f, fd, ps, F, hm, hk, hb⟩ := C.ex
  constructor
  intro pins s σ H Q I h
  refine wpAny_Call_Name_kw (ld_glob I hg hm ?_ hdb)
  refine PySem.W.callWith_K (h₀ := X.base) I.ok.mod.kin hk
    (thn (ha.run pos pins s σ H _ I h) ?_) he hpl
  rintro us s1 ⟨vs, H1, I1, r, q⟩
  refine ⟨I1.kIn, ?_⟩
  have q' : sp vs H1 Q (E σ) := q
  have hl : us.length = ps.length := by
    rw [← r.length]
    exact F.len _ _ _ _ q'
  have hb' := hb s1 us I1.kIn (by rw [List.append_nil]; exact hl)
  rw [List.append_nil] at hb'
  refine wpAny_call (codeAny_mono (F.run X.A X.stack s1 H1 ⟨us, []⟩ us vs Q (E σ) hr hgd I1.env0 hb' r q') ?_)
  intro res s' hq
  match res, hq with
  | .error er, hq => exact hx σ pins H1 s1 er s' I1 hq
  | .ok (.ret u), hq => exact I1.after hq
  | .ok .next, hq => exact hq.elim
  | .ok .brk, hq => exact hq.elim
  | .ok .cont, hq => exact hq.elim
/-- isinstance(e, c), e the exception that the suite holds -/
theorem call_isX {K : PySem.W.Frag} (eK : X.K = K) {a : Addr} {oe : Obj} {cls : Value} {d : Option Addr} {pn : List (Addr × Obj)} (hz : Zc cls d oe) (hf : ∃ vs, oe.data = .fields vs) : CallR (X.suite a ((a, oe) :: pn)) (.builtin "isinstance")
    (fun xs H Q => ∃ (D : Addr) (c : V) (cv : Value) (b : Bool), cls = .ref D ∧ d = none ∧ ExcC K D ∧ xs = [.ref a, c] ∧ (∀ u, RelV c u → u = cv) ∧ PySem.W.kitOne K (.ref D) cv = some b ∧ Q (.bl b) H) := by
  subst eK
  intro pins s σ H xs us Q I r h
  obtain ⟨D, c, cv, b, e1, e2, C, ex, hcv, e, q⟩ := h
  subst e1 e2
  exact call_isE C hz hf pins s σ H xs us Q I r ⟨c, cv, b, ex, hcv, e, q⟩
/-- isinstance(e, (c1, c2, ..)) -/
theorem call_isXT {K : PySem.W.Frag} (eK : X.K = K) {a : Addr} {oe : Obj} {cls : Value} {d : Option Addr} {pn : List (Addr × Obj)} (hz : Zc cls d oe) (hf : ∃ vs, oe.data = .fields vs) : CallR (X.suite a ((a, oe) :: pn)) (.builtin "isinstance")
    (fun xs H Q => ∃ (D tp : Addr) (cs : List V) (ws : List Value) (b : Bool), cls = .ref D ∧ d = none ∧ ExcC K D ∧ xs = [.ref a, .ref tp] ∧ H tp = some (.tup cs) ∧ (∀ us, Vals cs us → us = ws) ∧ PySem.W.kitAny K (.ref D) ws = some b ∧ Q (.bl b) H) := by
  subst eK
  intro pins s σ H xs us Q I r h
  obtain ⟨D, tp, cs, ws, b, e1, e2, C, rfl, hT, hcs, e, q⟩ := h
  subst e1 e2
  obtain ⟨u1, u2, rfl, r1, r2⟩ := vals2 r
  cases (show u1 = Value.ref a from r1)
  cases (show u2 = Value.ref tp from r2)
  obtain ⟨hget, _⟩ := I.pin (a, oe) (List.mem_append.mpr (.inl List.mem_cons_self))
  obtain ⟨vs, hv⟩ := hf
  have J : PySem.W.InstAt s.heap a oe D none := by
    obtain ⟨oc, od, oda, osl⟩ := oe
    obtain ⟨h1, h2⟩ := hz
    dsimp only at h1 h2 hv
    subst h1 h2 hv
    exact ⟨hget, rfl, rfl, trivial⟩
  obtain ⟨_, its, rv, o, h1, h2, n, h3⟩ := (show ObjOk X.prog X.w H s.heap tp (.tup cs) from I.hok tp _ hT)
  have e3 := hcs _ rv
  subst e3
  obtain ⟨oc, od, dt, sl⟩ := o
  simp only at h2 h3
  subst h2 h3
  exact PySem.W.kia_tup (PySem.W.handS_kitx_exc C.hg C.hk C.hs C.hd C.ha C.hn C.ht C.hm) I.kIn J h1 e (fun z => nomatch z) fun tk => ⟨.bl b, H, I.kept (t' := tk) fun _ _ z => z, rfl, q⟩
/-! ### a caught exception that is kept by a name behind its suite -/
/-- an exception object that was caught: its class, its own dict -/
def ExK (cls : Value) (d : Option Addr) (a : Addr) : HO := .ext fun h => ∃ (oe : Obj) (vs : Array Value), h.get? a = some oe ∧ Zc cls d oe ∧ oe.data = .fields vs
/-- an object that nothing spoke of is known from here on -/
theorem known {pins : List (Addr × Obj)} {σ : L2.St} {H : Hp} {s : Shared} {a : Addr} {oe : Obj} {cls : Value} {d : Option Addr} {vs : Array Value} (I : Inv X pins σ H s) (ha : s.heap.get? a = some oe) (hz : Zc cls d oe) (hd : oe.data = .fields vs) (na : H a = none)
    (n0 : ∀ o, X.s_0.heap.get? a ≠ some o) (nL : X.env.locals ≠ a) (nC : ∀ x c, X.env.cells.lookup x = some c → c ≠ a) (nP : ∀ p ∈ X.pn ++ pins, p.1 ≠ a) : Inv X pins σ (upd H a (ExK cls d a)) s := by
  have old : ∀ b o, X.s_0.heap.get? b = some o → b ≠ a := fun b o e z => n0 o (z ▸ e)
  have stays : ∀ b u, H b = some u → upd H a (ExK cls d a) b = some u := fun b u e => (upd_ne (ne_of_none e na)).trans e
  have new : ObjOk X.prog X.w (upd H a (ExK cls d a)) s.heap a (ExK cls d a) := ⟨⟨oe, vs, ha, hz, hd⟩, ⟨oe, ha⟩, fun _ _ ⟨o, v, q, r⟩ k => ⟨o, v, k o q, r⟩⟩
  have u := I.base
  refine ⟨I.ok, I.os, I.bare, ⟨u.keep, u.slot, fun b o e n hx => (upd_ne (old b o e)).trans (u.free b o e n hx), u.there, fun b xs e => stays _ _ (u.tups b xs e), fun b o v e => stays _ _ (u.frzs b o v e), fun b ps e => ?_⟩, I.loc, I.cell, (upd_ne nL).trans I.free, fun x c e => (upd_ne (nC x c e)).trans (I.freeC x c e), fun p hp => ?_, I.hok.laidN (fun _ _ e => e) na new, I.len⟩
  · obtain ⟨more, e2⟩ := u.tbls b ps e
    exact ⟨more, stays _ _ e2⟩
  · obtain ⟨e1, e2, e3⟩ := I.pin p hp
    exact ⟨e1, (upd_ne (nP p hp)).trans e2, e3⟩
/-- the ends of such a suite -/
def kEnds (i : Nat) (a : Addr) (cls : Value) (d : Option Addr) (D : Ends) : Ends :=
  { nx := fun σ H => H a = none → D.nx (σ.set i none) (upd H a (ExK cls d a)), rt := D.rt, bk := fun σ H => D.bk (σ.set i none) H, ct := fun σ H => D.ct (σ.set i none) H }
/-- what the clause wants of each exception: it is the clause's, and behind the suite it is known -/
def wKeep (K : PySem.W.Frag) (c : Value) (i : Nat) (ts : Addr → Value → Option Addr → TS) (D : Ends) : WX := fun cls d σ H =>
  PySem.W.exmOne K cls c = some true ∧ ∀ a, H a = none → ts a cls d (kEnds i a cls d D) (σ.set i (some (.ref a))) H
theorem ps_try_keep {x n : Str} {c : Value} {i : Nat} {body suite : List Stmt} {b₀ : Stmt} {np pos pos' : Pos} {tb : WX → TS} {ts : Addr → Value → Option Addr → TS}
    (hs : X.stack = X.env :: X.outer) (hf : X.env.frame = some X.env.locals) (hex : X.ex = []) (hN : X.N.Nodup) (hi : X.N[i]? = some n) (hln : X.env.kindOf n = some .local) (hg : Gl X x) (hmg : X.mg x = some c) (hdb : (x == ("__debug__" : Str)) = false)
    (hb : ∀ (W : WX) (pn : List (Addr × Obj)) (xe : Value → Shared → Prop), Takes (X.tr pn xe) W → PassesOwn (model X.prog X.w) X.A X.env xe → PSs (X.tr pn xe) body (tb W))
    (hsu : ∀ (a : Addr) (oe : Obj) (cls : Value) (d : Option Addr) (pn : List (Addr × Obj)), Zc cls d oe → (∃ vs, oe.data = .fields vs) → PSs (X.suite a ((a, oe) :: pn)) (b₀ :: suite) (ts a cls d)) :
    PS X (.Try body [.ExceptHandler (some (.Name x np)) (some n) (b₀ :: suite) pos'] [] [] pos) (fun D σ H => tb (wKeep X.K c i ts D) D σ H) := by
  constructor
  intro pins s σ H D I h
  have ok := I.ok
  have frames : X.A.frames = some (X.env :: X.outer) := ok.frames.trans (by rw [hs])
  refine wpAny_Try_except (wpAny_mono ((hb (wKeep X.K c i ts D) (X.pn ++ pins) _ ?tk PassesOwn.looking).run [] s σ H D (I.toTry _) h) ?nm (fun _ _ z => z))
  case nm =>
    intro f s1 hsp
    match f, hsp with
    | .next, ⟨σ1, H1, J1, q⟩ => exact wpAny_execs_nil ⟨σ1, H1, J1.ofTry ok, q⟩
    | .brk, ⟨σ1, H1, J1, q⟩ => exact ⟨σ1, H1, J1.ofTry ok, q⟩
    | .cont, ⟨σ1, H1, J1, q⟩ => exact ⟨σ1, H1, J1.ofTry ok, q⟩
    | .ret u, ⟨v, σ1, H1, J1, r, q⟩ => exact ⟨v, σ1, H1, J1.ofTry ok, r, q⟩
  case tk =>
    intro u s1 xx
    obtain ⟨a, B, sI, pinsI, σI, HI, cls, d, rfl, JI, nb, up, sky, na, os, ag, hm, hy⟩ := xx
    have J : Inv X pins σI HI sI := JI.ofTry ok
    have sky' : Sky B (X.env :: X.outer) a (Zc cls d) X.env.locals s1.heap := hs ▸ sky
    -- it comes down
    refine Sky.land Zc.steady frames hf sky' fun h3 fl3 up3 => ?_
    obtain ⟨o3, v3, e3, z3, d3⟩ := fl3.there
    have nfr : a ∉ frs (X.env :: X.outer) := fun hin => by
      obtain ⟨_, o', e', nf⟩ := fl3.2.2.1.mem hin
      exact nf v3 (by rw [← Option.some.inj (e3.symm.trans e')]; exact d3)
    have nL : X.env.locals ≠ a := fun z => nfr (List.mem_filterMap.mpr ⟨X.env, List.mem_cons_self, by rw [hf, z]⟩)
    have nF : a ∉ X.fs := fun hin => by
      obtain ⟨e, he, q⟩ := List.mem_filterMap.mp hin
      exact nfr (List.mem_filterMap.mpr ⟨e, List.mem_cons_of_mem _ he, q⟩)
    -- it is new
    have nI : ∀ o, sI.heap.get? a ≠ some o := fun o e => by
      have q := nb a o e (by rw [show (X.tr (X.pn ++ pins) _).stack = X.env :: X.outer from hs]; exact nfr)
      rw [fl3.2.1] at q
      cases q
    have n0 : ∀ o, X.s_0.heap.get? a ≠ some o := fun o e => by
      obtain ⟨o', e'⟩ := J.base.there a o e (by rw [hex]; exact List.not_mem_nil)
      exact nI o' e'
    have nC : ∀ x c, X.env.cells.lookup x = some c → c ≠ a := fun x c e z => by
      obtain ⟨v, o, ho, _⟩ := J.cell x c e
      exact nI o (z ▸ ho)
    have nP : ∀ p ∈ X.pn ++ pins, p.1 ≠ a := fun p hp z => nI p.2 (z ▸ (J.pin p hp).1)
    have J3 : Inv X pins σI HI { s1 with heap := h3 } := J.landed nb fl3.1 (up.trans up3) os ag
    -- the clause's class
    refine wpAny_handleBy_cons (codeAny_handlers_test ?_) (by intro q; cases q)
    have ty : PySem.W.Looks (model X.prog X.w) h3 (typeOf (.ref a)) cls := fun A' Q' E' s' k q => wpAny_typeOf_ref (k _ _ e3) (by rw [z3.1]; exact q)
    have test := PySem.W.exm_one (M := model X.prog X.w) J3.kIn ty hm
    refine ld_glob (X := X.suite a ((a, o3) :: (X.pn ++ pins))) (J3.suite e3 d3 na nL.symm nF) hg hmg (test.here ?_) hdb
    -- the suite
    refine codeAny_handlers_suite_as (HandSPX.lands_againZ fl3 fun h4 fl4 up4 => ?_)
    have J4 : Inv X pins σI HI { s1 with heap := h4 } := J.landed nb fl4.1 ((up.trans up3).trans up4) os ag
    obtain ⟨o4, v4, e4, z4, d4⟩ := fl4.there
    refine store_ok (X := X.suite a ((a, o4) :: (X.pn ++ pins))) (v := .ref a) (J4.suite e4 d4 na nL.symm nF) hN hi (.inl hln) rfl (fun s5 S5 => ?_) (.inr hln)
    refine wpAny_mono ((hsu a o4 cls d (X.pn ++ pins) z4 ⟨_, d4⟩).run [] s5 _ HI _ S5 (hy a na)) (fun f s6 hsp => ?_) (fun _ _ z => False.elim z)
    match f, hsp with
    | .next, ⟨σ6, H6, S6, q6⟩ =>
      have pin := S6.pin (a, o4) (List.mem_append_left _ List.mem_cons_self)
      exact gone_ok (known (S6.unsuite ok) pin.1 z4 d4 pin.2.1 n0 nL nC nP) hN hi hln fun s7 J7 => ⟨_, _, J7, q6 pin.2.1⟩
    | .brk, ⟨σ6, H6, S6, q6⟩ => exact gone_ok (S6.unsuite ok) hN hi hln fun s7 J7 => ⟨_, _, J7, q6⟩
    | .cont, ⟨σ6, H6, S6, q6⟩ => exact gone_ok (S6.unsuite ok) hN hi hln fun s7 J7 => ⟨_, _, J7, q6⟩
    | .ret u, ⟨v6, σ6, H6, S6, r6, q6⟩ => exact gone_ok (S6.unsuite ok) hN hi hln fun s7 J7 => ⟨_, _, _, J7, r6, q6⟩
/-- a caught exception of the class at D, with what its own dict holds -/
structure Kept (H : Hp) (a D dd : Addr) (fs : List (Str × V)) : Prop where
  ob : H a = some (ExK (.ref D) (some dd) a)
  di : H dd = some (.xd fs)
theorem Kept.inst {pins : List (Addr × Obj)} {σ : L2.St} {H : Hp} {s : Shared} {a D dd : Addr} {fs : List (Str × V)} (k : Kept H a D dd fs) (I : Inv X pins σ H s) :
    ∃ (oe od : Obj) (m : Str → Option Value), PySem.W.InstAt s.heap a oe D (some od) ∧ (∀ n, PySem.W.lookIn n od = some (m n)) ∧ ∀ f, RelO (fs.lookup f) (m f) := by
  obtain ⟨⟨oe, vs, e1, ⟨e2, e3⟩, e4⟩, _, _⟩ := I.hok a _ k.ob
  obtain ⟨m, hns, hr⟩ := I.hok dd _ k.di
  obtain ⟨od, ho, hl⟩ := lookIn_ns hns
  exact ⟨oe, od, m, ⟨e1, e2, by unfold PySem.W.notCls; rw [e4] <;> rfl, by rw [e3]; exact ho⟩, hl, hr⟩
theorem kit_kept {K : PySem.W.Frag} {D a : Addr} {oe : Obj} {od : Option Obj} (C : ExcC K D) : PySem.W.KitX K (.ref a) (.ref D) (fun h => PySem.W.InstAt h a oe D od) := by
  have hc : (PySem.W.clsIn K D).isSome = true := by
    obtain ⟨cd, e, _⟩ := PySem.W.any_some C.hd
    rw [e]
    rfl
  exact PySem.W.kitx_exc hc C.hg C.hk C.hs C.ha C.hn C.ht C.hm
/-- isinstance(e, c), e a caught exception -/
theorem call_isK {K : PySem.W.Frag} (eK : X.K = K) : CallR X (.builtin "isinstance")
    (fun xs H Q => ∃ (a D dd : Addr) (fs : List (Str × V)) (c : V) (cv : Value) (b : Bool), ExcC K D ∧ Kept H a D dd fs ∧ xs = [.ref a, c] ∧ (∀ u, RelV c u → u = cv) ∧ PySem.W.kitOne K (.ref D) cv = some b ∧ Q (.bl b) H) := by
  subst eK
  intro pins s σ H xs us Q I r h
  obtain ⟨a, D, dd, fs, c, cv, b, C, k, rfl, hcv, e, q⟩ := h
  obtain ⟨u1, u2, rfl, r1, r2⟩ := vals2 r
  cases (show u1 = Value.ref a from r1)
  obtain rfl := hcv _ r2
  obtain ⟨oe, od, m, J, _⟩ := k.inst I
  exact PySem.W.kia_one (kit_kept C) I.kIn J e (fun z => nomatch z) fun tk => ⟨.bl b, H, I.kept (t' := tk) fun _ _ z => z, rfl, q⟩
/-- isinstance(e, (c1, c2, ..)) -/
theorem call_isKT {K : PySem.W.Frag} (eK : X.K = K) : CallR X (.builtin "isinstance")
    (fun xs H Q => ∃ (a D dd tp : Addr) (fs : List (Str × V)) (cs : List V) (ws : List Value) (b : Bool), ExcC K D ∧ Kept H a D dd fs ∧ xs = [.ref a, .ref tp] ∧ H tp = some (.tup cs) ∧ (∀ us, Vals cs us → us = ws) ∧ PySem.W.kitAny K (.ref D) ws = some b ∧ Q (.bl b) H) := by
  subst eK
  intro pins s σ H xs us Q I r h
  obtain ⟨a, D, dd, tp, fs, cs, ws, b, C, k, rfl, hT, hcs, e, q⟩ := h
  obtain ⟨u1, u2, rfl, r1, r2⟩ := vals2 r
  cases (show u1 = Value.ref a from r1)
  cases (show u2 = Value.ref tp from r2)
  obtain ⟨oe, od, m, J, _⟩ := k.inst I
  obtain ⟨_, its, rv, o, h1, h2, n, h3⟩ := (show ObjOk X.prog X.w H s.heap tp (.tup cs) from I.hok tp _ hT)
  obtain rfl := hcs _ rv
  obtain ⟨o1, o2, o3, o4⟩ := o
  simp only at h2 h3
  subst h2 h3
  exact PySem.W.kia_tup (kit_kept C) I.kIn J h1 e (fun z => nomatch z) fun tk => ⟨.bl b, H, I.kept (t' := tk) fun _ _ z => z, rfl, q⟩
/-- e.f, e a caught exception -/
theorem pe_kf {K : PySem.W.Frag} (eK : X.K = K) {e : Expr} {te : TE} {pos : Pos} {n : Str} (he : PE X e te) (hb : attributeBase e n X.env (eval e X.env) = eval e X.env := by rfl) :
    PE X (.Attribute e n pos) (fun σ H Q => te σ H fun x H1 => ∃ (a D dd : Addr) (fs : List (Str × V)) (v : V), x = .ref a ∧ XfC K D ∧ PySem.W.findIn K (.ref D) n = some none ∧ Kept H1 a D dd fs ∧ fs.lookup n = some v ∧ Q v H1) := by
  subst eK
  constructor
  intro pins s σ H Q I h
  refine attr_of hb (thn (he.run pins s σ H _ I h) fun u s1 hh => ?_)
  obtain ⟨x, H1, I1, rx, a, D, dd, fs, v, rfl, T, hno, k, l, q⟩ := hh
  cases (show u = Value.ref a from rx)
  obtain ⟨oe, od, m, J, hl, hr⟩ := k.inst I1
  obtain ⟨w, hw, rw_⟩ := RelO.some_of (v := v) (o := m n) (by rw [← l]; exact hr n)
  exact HandSPX.exc_get I1.kIn J T.ga T.gg T.exC (PySem.W.findObj_own T.hdC hno rfl (by rw [hl, hw])) (handed_of rw_) ⟨v, H1, I1.tok _, rw_, q⟩
/-! ### X(v), X a class of the program over ValueError whose __init__ keeps v as value -/
/-- such an __init__ -/
def sp_init (C : Addr) : Sp := fun vs H Q _ => ∃ (a : Addr) (v : V), vs = [.ref a, v] ∧ H a = some (exo a C none) ∧ ∀ d, H d = none → d ≠ a → Q .non (upd (upd H d (exd d [("value", v)])) a (exo a C (some d)))
/-- what the text says of such a class -/
structure ValC (K : PySem.W.Frag) (mg : Str → Option Value) (x : Str) (C fI : Addr) (fd : FuncData) : Prop where
  o : OexC K C
  g : mg x = some (.ref C)
  i : PySem.W.findIn K (.ref C) "__init__" = some (some (.ref fI))
  t : PySem.W.typeIn K (.ref fI) = some (.type "function")
  b : Binds K fd ["self", "value"] []
  no : PySem.W.findIn K (.ref C) "value" = some none
theorem pmk_value {C fI : Addr} {fd : FuncData} {k : Nat} {x : Str} {p pos : Pos} {e : Expr} {te : TE} (T : ValC X.K X.mg x C fI fd) (F1 : FnOk X.prog X.w X.K X.mg X.base CX0 k fI fd ["self", "value"] (sp_init C)) (hr : Room (k + 1) X.A) (hg : Gl X x) (he : PE X e te)
    (hdb : (x == ("__debug__" : Str)) = false := by decide) (hs : starEach [e] X.env = (false, eval e X.env) :: starEach [] X.env := by rfl) (hpl : (backTo pos (starEach [] X.env)).any (·.1) = false := by rfl) :
    PMk X (.Call (.Name x p) [e] [] pos) (fun σ H Q => te σ H fun v H1 => ∀ d, H1 d = none → Q (.ref C) (some d) (upd H1 d (.xd [("value", v)]))) := by
  intro pins s σ H Q I h
  refine pmk_oex (dvs := []) T.o T.i T.t F1 hr T.b .nil (fun _ _ _ _ _ _ _ z => z.elim) hg T.g (pa_cons (pe_mono he) pa_nil hs) hdb hs hpl pins s σ H Q I ?_
  refine ⟨_, h, fun v H1 q => ?_⟩
  refine ⟨by show 1 ≤ 1000; decide, fun a ha => ⟨a, v, rfl, upd_same, fun d hd nd => ⟨rfl, d, [("value", v)], upd_same, ?_, ?_, ?_⟩⟩⟩
  · rw [upd_ne nd, upd_same]
  · exact (upd_ne nd).symm.trans hd
  · have hd1 : H1 d = none := (upd_ne nd).symm.trans hd
    have e : upd (del (upd (upd (upd H1 a (exo a C none)) d (exd d [("value", v)])) a (exo a C (some d))) a) d (.xd [("value", v)]) = upd H1 d (.xd [("value", v)]) := by
      funext b
      by_cases hb : b = d
      · rw [hb, upd_same, upd_same]
      · rw [upd_ne hb, upd_ne hb]
        by_cases h2 : b = a
        · rw [h2, del_same, ha]
        · rw [del_ne h2, upd_ne h2, upd_ne hb, upd_ne h2]
    rw [e]
    exact q d hd1
/-! ### xs.count(y), xs.index(y) of a list of bools -/
theorem count_flat {y : V} : ∀ {ys : List V} {us : List Value}, Vals ys us → ys.all flatV = true → us.countP (eqU y) = ys.countP fun z => eqV z y
  | _, _, .nil, _ => rfl
  | z :: ys, u :: us, .cons r t, f => by
    rw [List.all_cons, Bool.and_eq_true] at f
    rw [List.countP_cons, List.countP_cons, count_flat t f.2, eqU_of r f.1]
theorem mt_countF {K : PySem.W.Frag} (e : X.K = K) : MtR X "list.count" (fun x vs H Q => ∃ (l : Addr) (ys : List V) (y : V), x = .ref l ∧ vs = [y] ∧ SqL K H l ys ∧ flatV y = true ∧ ys.all flatV = true ∧ Q (.int ((ys.countP fun z => eqV z y : Nat) : Int)) H) := by
  subst e
  intro pins s σ H x xs v us Q I rx rxs h
  obtain ⟨a, ys, y, rfl, rfl, hs, fy, fys, q⟩ := h
  obtain ⟨uy, rfl, ry⟩ := vals1 rxs
  cases (show v = Value.ref a from rx)
  obtain ⟨its, rv, ⟨⟨cls, dd, data, sl⟩, n, ho, hc, hdn, hd⟩, hlen⟩ := I.list hs
  simp only at hc hd
  subst hc hd
  refine call_meets PySem.F.slot_list_count ⟨_, ho, rfl⟩ PySem.F.entry_list_count (PySem.F.args_list_count_2 _ _) (SeqAt.list_countAt a its.toArray n dd sl uy (eqU y)) ⟨ho, fun u' hu' => mem_eqAt ry fy rv fys u' (by simpa using hu'), ?_⟩
  rw [show its.toArray.toList = its from rfl, count_flat rv fys]
  exact ⟨.int _, H, I.tok _, ⟨_, rfl⟩, q⟩
/-- the first place of a bool in a list of bools -/
theorem mt_indexB {K : PySem.W.Frag} (e : X.K = K) : MtR X "list.index" (fun x vs H Q => ∃ (l : Addr) (bs : List Bool) (b : Bool) (j : Nat), x = .ref l ∧ vs = [.bl b] ∧ SqL K H l (bs.map V.bl) ∧ bs[j]? = some b ∧ (∀ i c, i < j → bs[i]? = some c → c ≠ b) ∧ Q (.int (j : Int)) H) := by
  subst e
  intro pins s σ H x xs v us Q I rx rxs h
  obtain ⟨a, bs, b, j, rfl, rfl, hs, hj, hn, q⟩ := h
  refine mt_index pins s σ H (.ref a) [.bl b] v us Q I rx rxs ⟨a, _, .bl b, j, .bl b, rfl, rfl, hs, rfl, ?_, by rw [List.getElem?_map, hj]; rfl, ?_, fun m z hm hz => ?_, q⟩
  · rw [List.all_map, List.all_eq_true]
    intro _ _
    rfl
  · show (b == b) = true
    exact beq_self_eq_true b
  · rw [List.getElem?_map] at hz
    cases e : bs[m]? with
    | none => rw [e] at hz; cases hz
    | some c =>
      rw [e] at hz
      cases hz
      show (c == b) = false
      exact beq_eq_false_iff_ne.mpr (hn m c hm e)
end
end Cf

set_option Elab.async false
set_option linter.all false
set_option maxRecDepth 100000
set_option maxHeartbeats 2000000
namespace Cf
open PySem PySem.Spec PyProof.Rows L2
open LamX (CodeO TabS Tabs ExtN TabB LamS lamEnv lamCx lam_make2 lam_start2 tLam run_ofS)
/-- what is known of it is used -/
def tlU (tl : XK → Hp → VK → Prop) : XK → Hp → VK → Prop := fun E' H Q' => ∃ (E : XK) (Q : VK), (∀ cls d H1, E cls d H1 → E' cls d H1) ∧ (∀ v H1, Q v H1 → Q' v H1) ∧ tl E H Q
/-! ### a lambda without parameters that is handed to a def, and what it lets out -/
section
variable {X : Cx} {pins : List (Addr × Obj)} {σ : L2.St} {H : Hp} {s : Shared}
/-- a() in the def at g that was handed the lambda at f -/
theorem act_lam {Ng : List Str} {qg : Str} {sg : Scope} {g f c' : Addr} {cdg pm ctv : Value} {params : Arguments} {body : Expr} {scope : Scope} {k i : Nat} {a : Str} {pn : List (Addr × Obj)} {xe : Value → Shared → Prop} {W : WX} {tb : XK → TE} {p1 p2 : Pos}
    (I : L2.Inv X pins σ H s) (S : LamS X.env.scope scope)
    (hf : s.heap.get? f = some (PySem.W.kla_obj "<lambda>" (X.env.qual ++ "<lambda>") params body scope (cloFrom X.env.cells scope.names []) pm c' ctv)) (nf : H f = none) (ff : f ∉ frs X.stack)
    (bnd : bindArgs (PySem.W.kla_fn "<lambda>" (X.env.qual ++ "<lambda>") params body scope (cloFrom X.env.cells scope.names []) pm (.ref c') ctv) ⟨[], []⟩ = pure [])
    (hgd : X.A.guards = some []) (room : Room (k + 1) (X.A.deeper (envOfC qg sg s.heap.objs.size g cdg)))
    (hb : ∀ (A : Around) (outer : List Env) (s : Shared) (H : Hp) (E : XK), A.guards = some [] → Room k (A.deeper (lamEnv X scope s.heap.objs.size f c')) → PE (lamCx X A outer s H E scope f c') body (tb E))
    (tk : Takes ((cxOf CX0 X.prog X.w X.K X.mg X.base Ng qg sg g cdg X.A X.stack s H E0).tr pn xe) W) (hN : Ng[i]? = some a) (hv : Vis sg a) (hd : (a == ("__debug__" : Str)) = false := by decide) (hcd : (a == ("__classdict__" : Str)) = false := by decide) :
    PE ((cxOf CX0 X.prog X.w X.K X.mg X.base Ng qg sg g cdg X.A X.stack s H E0).tr pn xe) (.Call (.Name a p1) [] [] p2)
      (fun σZ HZ Q => σZ[i]? = some (some (.ref f)) ∧ HZ c' = some (CodeO c' (X.env.qual ++ "<lambda>")) ∧ tlU (fun E H' Q' => tb E σ H' Q') (fun cls d H' => W cls d σZ H') HZ Q) := by
  constructor
  rintro pz sz σZ HZ Q IZ ⟨slot, code, E, Q0, toW, toQ, want⟩
  refine wpAny_Call_Name_kw (thn ((pe_var (pos := p1) (i := i) hN hv hd hcd).run pz sz σZ HZ (fun v H1 => v = .ref f ∧ H1 = HZ) IZ ⟨.ref f, slot, rfl, rfl⟩) ?_)
  rintro u s1 ⟨v, H1, I1, rv, rfl, rfl⟩
  cases (show u = Value.ref f from rv)
  have still := I1.base.keep f _ hf nf ff List.not_mem_nil
  refine PySem.W.callWith_F0 ⟨_, _, _, _, still⟩ ?_
  obtain ⟨⟨oc, vs, t, at1, at2, at3⟩, _, _⟩ := I1.hok c' _ code
  have ran : codeAny (model X.prog X.w) (X.A.deeper (envOfC qg sg s.heap.objs.size g cdg)) (.call (.ref f) ⟨[], []⟩)
      (CR (L2.CX X.prog X.w) (envOfC qg sg s.heap.objs.size g cdg :: X.stack) X.prog X.w H1 s1 Q0 E) s1 := by
    refine PySem.W.kla_callFunE room.depth still rfl S.co S.gen rfl ⟨c', oc, vs, t, rfl, at1, at2, at3⟩ ?_
    rw [bnd]
    refine wpAny_pure (wpAny_newFunctionEnv (fun y hy => (S.own y hy).2) (fun y hy => (List.not_mem_nil hy).elim) (fun h1 hns hsb => ⟨I1.nolimit.fresh _ hsb, ?_⟩) S.kind)
    show codeAny _ _ (.expr body (lamEnv X scope s1.heap.objs.size f c')) _ _
    have stays : ∀ b o, s1.heap.get? b = some o → h1.get? b = some o := by
      intro b o e
      exact hsb.extBut b o (Nat.ne_of_lt (Heap.lt_size e)) (Heap.get?_push_of_some _ e)
    have J := lam_start2 (f := f) (c' := c') (tk := s1.toks + ([] : List (Str × Value)).length) (E := E) I S I1.env0 room.hd I1.base hns stays
    refine PySem.W.kla_codeExpr (wpAny_mono ((hb (X.A.deeper (envOfC qg sg s.heap.objs.size g cdg)) _ s1 H1 _ hgd (room.deeper _)).run [] _ _ H1 Q0 J want) ?_ fun _ _ z => z)
    rintro y s' ⟨z, H', J', rz, q⟩
    exact ⟨z, H', J'.os, J'.bare, J'.base, J'.hok, rz, q⟩
  refine wpAny_call (codeAny_mono ran ?_)
  intro r s' hq
  match r, hq with
  | .error e, hq => exact tk e s' (XE.of_call I1 toW hq)
  | .ok (.ret u), hq =>
    obtain ⟨v, H', J, rv, q⟩ := I1.after hq
    exact ⟨v, H', J, rv, toQ v H' q⟩
  | .ok .next, hq => exact hq.elim
  | .ok .brk, hq => exact hq.elim
  | .ok .cont, hq => exact hq.elim
end
section
variable {P : Program} {w : World} {K : PySem.W.Frag} {mg : Str → Option Value} {base : Heap}
/-- a def that calls what it is handed: what comes of it, by what comes of the lambda -/
def Hands (P : Program) (w : World) (K : PySem.W.Frag) (mg : Str → Option Value) (base : Heap) (k : Nat) (x a : Str) (Ng : List Str) (st : Stmt) (TT : (XK → Hp → VK → Prop) → Hp → VK → Prop) : Prop :=
  ∀ (g : Addr) (cdg : Value) (A : Around) (outer : List Env) (s : Shared) (H : Hp) (Q : VK) (f c' : Addr) (q : Str) (tl : XK → Hp → VK → Prop),
    A.guards = some [] → Room k (A.deeper (envOfC x (defScope st) s.heap.objs.size g cdg)) →
    (∀ (W : WX) (pn : List (Addr × Obj)) (xe : Value → Shared → Prop) (p1 p2 : Pos), Takes ((cxOf CX0 P w K mg base Ng x (defScope st) g cdg A outer s H E0).tr pn xe) W →
      PE ((cxOf CX0 P w K mg base Ng x (defScope st) g cdg A outer s H E0).tr pn xe) (.Call (.Name a p1) [] [] p2) (fun σZ HZ Q' => σZ[0]? = some (some (.ref f)) ∧ HZ c' = some (CodeO c' q) ∧ tlU tl (fun cls d H' => W cls d σZ H') HZ Q')) →
    H c' = some (CodeO c' q) → TT tl H Q →
    ∃ t, PSs (cxOf CX0 P w K mg base Ng x (defScope st) g cdg A outer s H E0).nox (defBody st) t ∧ t { nx := fun _ H' => Q .non H', rt := Q } (L2.start Ng [.ref f]) H
/-- what a caller knows of such a def -/
structure ClH (P : Program) (w : World) (K : PySem.W.Frag) (mg : Str → Option Value) (base : Heap) (k : Nat) (x : Str) (TT : (XK → Hp → VK → Prop) → Hp → VK → Prop) : Prop where
  ex : ∃ (a : Str) (Ng : List Str) (st : Stmt) (g : Addr) (fd : FuncData), Fun K x x st g fd ∧ mg x = some (.ref g) ∧ Binds K fd [a] [] ∧ FnScope Ng [a] (defScope st) ∧ Ng[0]? = some a ∧ Vis (defScope st) a ∧ (a == ("__debug__" : Str)) = false ∧ (a == ("__classdict__" : Str)) = false ∧ Hands P w K mg base k x a Ng st TT
end
section
variable {X : Cx}
/-- x(lambda: body) -/
theorem pe_hand {T : List (Addr × Str)} {TT : (XK → Hp → VK → Prop) → Hp → VK → Prop} {x : Str} {c P : Addr} {k : Nat} {params : Arguments} {body : Expr} {scope : Scope} {t : XK → TE} {p lpos pos : Pos} (C : ClH X.prog X.w X.K X.mg X.base (k + 1) x TT) (hx : Gl X x)
    (TB : TabB X.base X.mg c P) (hc : X.env.code = .ref c) (hm : (P, X.env.qual ++ "<lambda>") ∈ T) (hu : ∀ p ∈ T, p.1 = P → p.2 = X.env.qual ++ "<lambda>") (hr : Room (k + 2) X.A) (hgd : X.A.guards = some []) (S : LamS X.env.scope scope) (hdef : defaultsOf params X.env = ([], []))
    (bnd : ∀ (q : Str) (cl : List (Str × Addr)) (pm cv ctv : Value), bindArgs (PySem.W.kla_fn "<lambda>" q params body scope cl pm cv ctv) ⟨[], []⟩ = pure [])
    (hb : ∀ (A : Around) (outer : List Env) (s : Shared) (H : Hp) (E : XK) (f c' : Addr), A.guards = some [] → Room k (A.deeper (lamEnv X scope s.heap.objs.size f c')) → PE (lamCx X A outer s H E scope f c') body (t E))
    (hdb : (x == ("__debug__" : Str)) = false := by decide) :
    PE X (.Call (.Name x p) [.Lambda params body scope lpos] [] pos) (tLam T TT t) := by
  obtain ⟨a, Ng, st, g, fd, F, mx, B, Sg, hN, hv, d1, d2, give⟩ := C.ex
  obtain ⟨oc, od, kV, doc, pmv, an, cd, ct, sl, rfl, look, code⟩ := F.ex
  constructor
  rintro pins s σ H Q I ⟨tabs, want⟩
  refine wpAny_Call_Name_kw (ld_glob I hx mx ?_ hdb)
  refine PySem.W.callWith_K (h₀ := X.base) I.ok.mod.kin F.kp ?_ (by rfl) (by rfl)
  show wpAny _ _ (spliced ((false, eval (.Lambda params body scope lpos) X.env) :: backTo pos (starEach [] X.env))) _ _ s
  refine Calls.spliced_cons (lam_make2 I TB hc hm hu tabs hdef (S.has I.ok) ?_)
  intro f c' pm ctv H1 s' I1 ext tabs1 obj nf ff co
  refine Calls.spliced_nil ⟨I1.kIn, ?_⟩
  have ran : codeAny (model X.prog X.w) X.A (.call (.ref g) ⟨[.ref f], []⟩) (CR CX0 X.stack X.prog X.w H1 s' Q E0) s' := by
    refine run_ofS (N := Ng) (ps := [a]) (us := [.ref f]) (vs := [.ref f]) look code Sg hr I1.env0 (B s' [.ref f] I1.kIn rfl) (.cons rfl .nil) rfl fun room => ?_
    obtain ⟨tt, judged, reading⟩ := give g cd X.A X.stack s' H1 Q f c' (X.env.qual ++ "<lambda>") (fun E H' Q' => t E σ H' Q') hgd room
      (fun W pn xe p1 p2 tk => act_lam (i := 0) I1 S obj nf ff (bnd _ _ _ _ _) hgd room (fun A outer s H E gd r => hb A outer s H E f c' gd r) tk hN hv d1 d2) co (want H1 ext tabs1)
    exact ⟨tt, judged.nox, reading⟩
  refine wpAny_call (codeAny_mono ran ?_)
  intro r s2 hq
  match r, hq with
  | .error e, hq => exact False.elim hq
  | .ok (.ret u), hq => exact I1.after hq
  | .ok .next, hq => exact hq.elim
  | .ok .brk, hq => exact hq.elim
  | .ok .cont, hq => exact hq.elim
end
end Cf

set_option Elab.async false
set_option linter.all false
set_option maxRecDepth 100000
set_option maxHeartbeats 2000000
namespace Cf
open PySem PySem.Spec PyProof.Rows L2
open LamX (Tabs)
theorem Cl.imp {P : Program} {w : World} {K : PySem.W.Frag} {mg : Str → Option Value} {base : Heap} {CX : CXT} {k n : Nat} {x : Str} {sp sp' : Sp} (C : Cl P w K mg base CX k x n sp) (h : ∀ vs H Q E, sp' vs H Q E → sp vs H Q E) : Cl P w K mg base CX k x n sp' := by
  obtain ⟨f, fd, ps, F, a, b, c⟩ := C.ex
  exact ⟨f, fd, ps, ⟨fun vs H Q E q => F.len vs H Q E (h vs H Q E q), fun A o s H a us vs Q E hr hg e b r q => F.run A o s H a us vs Q E hr hg e b r (h vs H Q E q)⟩, a, b, c⟩
/-! ### data of any kind, empty dicts among it -/
mutual
inductive Da (K : PySem.W.Frag) (H : Hp) : V → PyData → Prop
  | non : Da K H .non .none
  | bl (b : Bool) : Da K H (.bl b) (.bool b)
  | int (i : Int) : Da K H (.int i) (.int i)
  | str (x : Str) : Da K H (.str x) (.str x)
  | lst {a : Addr} {xs : List V} {ds : List PyData} : H a = some (.lst xs) → a ≠ sysModules → DaAll K H xs ds → Da K H (.ref a) (.list ds)
  | tup {a : Addr} {xs : List V} {ds : List PyData} : SqT K H a xs → DaAll K H xs ds → Da K H (.ref a) (.tuple ds)
  | dct {a : Addr} : H a = some (.dT []) → Da K H (.ref a) (.dict [])
inductive DaAll (K : PySem.W.Frag) (H : Hp) : List V → List PyData → Prop
  | nil : DaAll K H [] []
  | cons {v : V} {vs : List V} {d : PyData} {ds : List PyData} : Da K H v d → DaAll K H vs ds → DaAll K H (v :: vs) (d :: ds)
end
mutual
theorem Da.kt {K : PySem.W.Frag} {T : List (Addr × Str)} {H H' : Hp} (k : Kt T H H') : ∀ {v : V} {d : PyData}, Da K H v d → Da K H' v d
  | _, _, .non => .non
  | _, _, .bl b => .bl b
  | _, _, .int i => .int i
  | _, _, .str x => .str x
  | _, _, .lst s n h => .lst (k.atL s) n (DaAll.kt k h)
  | _, _, .tup s h => .tup (k.tup0 s) (DaAll.kt k h)
  | _, _, .dct h => .dct (k.ext _ _ h fun ps z => nomatch z)
theorem DaAll.kt {K : PySem.W.Frag} {T : List (Addr × Str)} {H H' : Hp} (k : Kt T H H') : ∀ {vs : List V} {ds : List PyData}, DaAll K H vs ds → DaAll K H' vs ds
  | _, _, .nil => .nil
  | _, _, .cons h t => .cons (Da.kt k h) (DaAll.kt k t)
end
theorem Da.kp {K : PySem.W.Frag} {H H' : Hp} (k : Kp [] H H') {v : V} {d : PyData} (h : Da K H v d) : Da K H' v d := h.kt (T := []) k.kt
theorem DaAll.kp {K : PySem.W.Frag} {H H' : Hp} (k : Kp [] H H') {vs : List V} {ds : List PyData} (h : DaAll K H vs ds) : DaAll K H' vs ds := h.kt (T := []) k.kt
section
variable {X : Cx} {pins : List (Addr × Obj)} {σ : L2.St} {H : Hp} {s : Shared}
mutual
theorem Da.rd (I : L2.Inv X pins σ H s) : ∀ (d : PyData) (v : V) (u : Value), Da X.K H v d → RelV v u → ∃ as, Reads s.heap u d as ∧ sysModules ∉ as
  | .none, _, _, h, r => by
    cases h
    cases r
    exact ⟨_, .none, List.not_mem_nil⟩
  | .bool b, _, _, h, r => by
    cases h
    cases r
    exact ⟨_, .bool b, List.not_mem_nil⟩
  | .int i, _, _, h, r => by
    cases h
    obtain ⟨t, rfl⟩ := r
    exact ⟨_, .int i t, List.not_mem_nil⟩
  | .str x, _, _, h, r => by
    cases h
    obtain ⟨t, rfl⟩ := r
    exact ⟨_, .str x t, List.not_mem_nil⟩
  | .list ds, _, _, h, r => by
    cases h with
    | lst hs na ha =>
      cases r
      obtain ⟨its, rv, ⟨o, n, ho, hc, _, hd⟩, _⟩ := I.list (.inl (.inl hs))
      obtain ⟨as, hr, hn⟩ := DaAll.rd I ds _ its ha rv
      refine ⟨_, .list ho hc hd hr, fun z => ?_⟩
      rcases List.mem_cons.mp z with z | z
      · exact na z.symm
      · exact hn z
  | .tuple ds, _, _, h, r => by
    cases h with
    | tup hs ha =>
      cases r
      obtain ⟨its, rv, ⟨o, ho, hc, n, hd⟩, _⟩ := I.tuple hs
      obtain ⟨as, hr, hn⟩ := DaAll.rd I ds _ its ha rv
      exact ⟨_, .tuple ho hc hd hr, hn⟩
  | .dict kvs, _, _, h, r => by
    cases h with
    | dct hd =>
      cases r
      obtain ⟨_, hsm, xs, hp, o, es, ep, ho, he, hdt, hes, _⟩ := I.hok _ _ hd
      cases hp
      have e0 : es.toList = [] := hes
      refine ⟨_, .dict (as := []) (bs := []) ho he.1 hdt (by rw [e0]; exact .nil) (by rw [e0]; exact .nil), fun z => ?_⟩
      rcases List.mem_cons.mp z with z | z
      · rw [← z] at hsm
        exact absurd hsm (by decide)
      · cases z
theorem DaAll.rd (I : L2.Inv X pins σ H s) : ∀ (ds : List PyData) (vs : List V) (us : List Value), DaAll X.K H vs ds → Vals vs us → ∃ as, ReadsAll s.heap us ds as ∧ sysModules ∉ as
  | [], _, _, h, r => by
    cases h
    cases r
    exact ⟨_, .nil, List.not_mem_nil⟩
  | d :: ds, _, _, h, r => by
    cases h with
    | cons h1 h2 =>
      cases r with
      | cons r1 r2 =>
        obtain ⟨as, q1, n1⟩ := Da.rd I d _ _ h1 r1
        obtain ⟨bs, q2, n2⟩ := DaAll.rd I ds _ _ h2 r2
        exact ⟨_, .cons q1 q2, fun z => (List.mem_append.mp z).elim n1 n2⟩
end
end
/-! ### how long a shown thing is, at any depth -/
structure Sm (n e : Nat) (d : PyData) : Prop where
  l : d.shown.length ≤ n
  s : d.showable = true
  d : d.depth ≤ e
theorem Sm.mono {n e n' e' : Nat} {d : PyData} (h : Sm n e d) (a : n ≤ n') (b : e ≤ e') : Sm n' e' d := ⟨Nat.le_trans h.l a, h.s, Nat.le_trans h.d b⟩
theorem Sm.int {i : Int} (h : i.natAbs < 2 ^ 100) : Sm 101 0 (.int i) := ⟨int_shown h, (int_ok h).1, (int_ok h).2⟩
theorem Sm.none : Sm 10 0 .none := ⟨by decide +kernel, by decide +kernel, by decide +kernel⟩
theorem Sm.bool (b : Bool) : Sm 10 0 (.bool b) := by cases b <;> exact ⟨by decide +kernel, by decide +kernel, by decide +kernel⟩
theorem Sm.dict0 : Sm 10 1 (.dict []) := ⟨by decide +kernel, by decide +kernel, by decide +kernel⟩
theorem Sm.tup {n e : Nat} {ds : List PyData} (h : ∀ d ∈ ds, Sm n e d) : Sm (ds.length * (n + 2) + 3) (e + 1) (.tuple ds) := by
  refine ⟨?_, ?_, ?_⟩
  · simp only [PyData.shown]
    rw [shownAll_map]
    have h1 := tupleText_le (ds.map PyData.shown)
    have h2 : piled (ds.map PyData.shown) ≤ (ds.map PyData.shown).length * (n + 2) := piled_of fun t ht => by
      obtain ⟨d, hd, rfl⟩ := List.mem_map.mp ht
      exact (h d hd).l
    rw [List.length_map] at h2
    omega
  · simp only [PyData.showable]
    exact showableAll_of fun d hd => (h d hd).s
  · simp only [PyData.depth]
    have := depthAll_of (m := e) fun d hd => (h d hd).d
    omega
theorem Sm.lst {n e : Nat} {ds : List PyData} (h : ∀ d ∈ ds, Sm n e d) : Sm (ds.length * (n + 2) + 3) (e + 1) (.list ds) := by
  refine ⟨?_, ?_, ?_⟩
  · simp only [PyData.shown]
    rw [shownAll_map]
    have h1 := listText_le (ds.map PyData.shown)
    have h2 : piled (ds.map PyData.shown) ≤ (ds.map PyData.shown).length * (n + 2) := piled_of fun t ht => by
      obtain ⟨d, hd, rfl⟩ := List.mem_map.mp ht
      exact (h d hd).l
    rw [List.length_map] at h2
    omega
  · simp only [PyData.showable]
    exact showableAll_of fun d hd => (h d hd).s
  · simp only [PyData.depth]
    have := depthAll_of (m := e) fun d hd => (h d hd).d
    omega
theorem Sm.shows {n e : Nat} {d : PyData} (h : Sm n e d) (a : n ≤ 10000000 := by decide) (b : e ≤ 60 := by decide) : Shows d := ⟨h.s, Nat.le_trans h.d b, Nat.le_trans h.l (Nat.le_trans a (by decide))⟩
/-- repr(x) of data -/
def rReprA (K : PySem.W.Frag) : List V → Hp → VK → Prop := fun xs H Q => ∃ x d, xs = [x] ∧ (Dp K H x d ∨ Da K H x d) ∧ Shows d ∧ Q (.str d.shown) H
section
variable {X : Cx}
theorem call_reprA {k : Nat} {K : PySem.W.Frag} (e : X.K = K) (hr : Room k X.A) (hgd : X.A.guards = some []) : CallR X (.builtin "repr") (rReprA K) := by
  subst e
  intro pins s σ H xs us Q I r h
  obtain ⟨x, d, rfl, hd, hsh, q⟩ := h
  rcases hd with hd | hd
  · exact call_repr hr hgd pins s σ H [x] us Q I r ⟨x, d, rfl, hd, hsh, q⟩
  obtain ⟨hs, hdp, hz⟩ := hsh
  obtain ⟨u, rfl, ru⟩ := vals1 r
  obtain ⟨as, rd, nsm⟩ := Da.rd I d x u hd ru
  have hun := hr.un
  cases hd with
  | non => exact call_repr hr hgd pins s σ H _ [u] Q I r ⟨_, _, rfl, .non, ⟨hs, hdp, hz⟩, q⟩
  | bl b => exact call_repr hr hgd pins s σ H _ [u] Q I r ⟨_, _, rfl, .bl b, ⟨hs, hdp, hz⟩, q⟩
  | int i => exact call_repr hr hgd pins s σ H _ [u] Q I r ⟨_, _, rfl, .int i, ⟨hs, hdp, hz⟩, q⟩
  | str y => exact call_repr hr hgd pins s σ H _ [u] Q I r ⟨_, _, rfl, .str y, ⟨hs, hdp, hz⟩, q⟩
  | lst sq na al =>
    have e : u = Value.ref _ := ru
    subst e
    exact repr_of_reads' rd hs (fun _ => nsm) hgd (by omega) (fun _ _ h => h) (fun h' t tk hk => ⟨.str _, H, I.kept hk, ⟨_, rfl⟩, q⟩) hz
  | tup sq al =>
    have e : u = Value.ref _ := ru
    subst e
    exact repr_of_reads' rd hs (fun _ => nsm) hgd (by omega) (fun _ _ h => h) (fun h' t tk hk => ⟨.str _, H, I.kept hk, ⟨_, rfl⟩, q⟩) hz
  | dct hd =>
    have e : u = Value.ref _ := ru
    subst e
    exact repr_of_reads' rd hs (fun _ => nsm) hgd (by omega) (fun _ _ h => h) (fun h' t tk hk => ⟨.str _, H, I.kept hk, ⟨_, rfl⟩, q⟩) hz
end
end Cf

set_option Elab.async false
set_option linter.all false
set_option maxRecDepth 100000
set_option maxHeartbeats 2000000
namespace Cf
open PySem PySem.Spec PyProof.Rows L2
open LamX (Tabs)
/-! ### rules of two kinds -/
section
variable {X : Cx}
theorem op_or2 {f : Value → Value → Sem Value} {r r' : R2} (a : OpR X f r) (b : OpR X f r') : OpR X f (fun x y H Q => r x y H Q ∨ r' x y H Q) :=
  fun pins s σ H x y v u Q I rx ry h => h.elim (a pins s σ H x y v u Q I rx ry) (b pins s σ H x y v u Q I rx ry)
theorem call_or2 {f : Value} {r r' : List V → Hp → VK → Prop} (a : CallR X f r) (b : CallR X f r') : CallR X f (fun xs H Q => r xs H Q ∨ r' xs H Q) :=
  fun pins s σ H xs us Q I r h => h.elim (a pins s σ H xs us Q I r) (b pins s σ H xs us Q I r)
/-! ### a bool where an int stands -/
/-- what number a bool or an int is -/
inductive Num : V → Int → Prop
  | int (i : Int) : Num (.int i) i
  | bl (b : Bool) : Num (.bl b) (b2i b)
theorem op_addN2 : OpR X (binaryOp .Add) (fun x y H Q => ∃ i j : Int, Num x i ∧ y = .int j ∧ Q (.int (i + j)) H) := by
  intro pins s σ H x y v u Q I rx ry h
  obtain ⟨i, j, hx, rfl, q⟩ := h
  cases hx with
  | int i => exact op_add pins s σ H _ _ v u Q I rx ry ⟨i, j, rfl, rfl, q⟩
  | bl b =>
    cases rx
    obtain ⟨t, rfl⟩ := ry
    exact PySem.IntBool.add_bool_int ⟨.int _, H, I.tok _, ⟨_, rfl⟩, q⟩
theorem op_subN2 : OpR X (binaryOp .Sub) (fun x y H Q => ∃ i j : Int, Num x i ∧ y = .int j ∧ Q (.int (i - j)) H) := by
  intro pins s σ H x y v u Q I rx ry h
  obtain ⟨i, j, hx, rfl, q⟩ := h
  cases hx with
  | int i => exact op_sub pins s σ H _ _ v u Q I rx ry ⟨i, j, rfl, rfl, q⟩
  | bl b =>
    cases rx
    obtain ⟨t, rfl⟩ := ry
    exact PySem.IntBool.sub_bool_int ⟨.int _, H, I.tok _, ⟨_, rfl⟩, q⟩
theorem gives_neg_b (b : Bool) : Gives (Builtin.«int.__neg__» ⟨[.bool b], []⟩) (.int (-(b2i b))) := by
  cases b <;> exact .of_eq rfl
theorem un_negN2 : UnR X (unaryOp .USub) (fun x H Q => ∃ i : Int, Num x i ∧ Q (.int (-i)) H) := by
  intro pins s σ H x v Q I rx h
  obtain ⟨i, hx, q⟩ := h
  cases hx with
  | int i => exact un_neg pins s σ H _ v Q I rx ⟨i, rfl, q⟩
  | bl b =>
    cases rx
    exact unaryOp_gives (op := .USub) (typeIs_bool' s b) rfl F.slot_bool_neg F.entry_int_neg (F.args_int_neg_1 _) (gives_neg_b b) ⟨.int _, H, I.tok _, ⟨_, rfl⟩, q⟩
theorem op_eqN2 : OpR X (compareOp .Eq) (fun x y H Q => ∃ i j : Int, Num x i ∧ y = .int j ∧ Q (.bl (decide (i = j))) H) := by
  intro pins s σ H x y v u Q I rx ry h
  obtain ⟨i, j, hx, rfl, q⟩ := h
  cases hx with
  | int i =>
    refine op_eq pins s σ H _ _ v u Q I rx ry ⟨rfl, ?_⟩
    rw [show decide (V.int i = V.int j) = decide (i = j) from decide_eq_decide.mpr ⟨fun z => V.int.inj z, fun z => by rw [z]⟩]
    exact q
  | bl b =>
    cases rx
    obtain ⟨t, rfl⟩ := ry
    refine PySem.EqBoolInt.eq_bool_int ⟨.bl (b2i b == j), H, I, rfl, ?_⟩
    rw [show (b2i b == j) = decide (b2i b = j) by rw [Bool.eq_iff_iff]; simp]
    exact q
/-- the text of an int or a bool -/
def numT : V → Str
  | .int i => toString i
  | .bl b => if b then "True" else "False"
  | _ => ""
theorem call_strN2 : CallR X (.type "str") (fun xs H Q => ∃ (x : V) (i : Int), xs = [x] ∧ Num x i ∧ i.natAbs.log2 < 1920 ∧ Q (.str (numT x)) H) := by
  intro pins s σ H xs us Q I r h
  obtain ⟨x, i, rfl, hx, hz, q⟩ := h
  cases hx with
  | int i => exact call_str_int pins s σ H _ us Q I r ⟨i, rfl, hz, q⟩
  | bl b =>
    obtain ⟨u, rfl, ru⟩ := vals1 r
    cases (show u = Value.bool b from ru)
    exact PySem.P.str_of_bool ⟨.str _, H, I.tok _, ⟨_, rfl⟩, by cases b <;> exact q⟩
/-! ### t[::-1], t a tuple of anything -/
theorem rev_app {P : Program} {w : World} {A : Around} {E : Value → Shared → Prop} {s : Shared} {sl : Addr} {n : Nat} {t : Tok} {Q : Int × Int × Nat → Shared → Prop} (hs : s.heap.IsSliceOf sl .none .none (.int (-1) t)) (h : Q ((n : Int) - 1, -1, n) s) :
    wpAny (model P w) A (Builtin.Slice.sliceApplied (.ref sl) (pure (n : Int))) Q E s := by
  obtain ⟨os, hos, hcs, hds⟩ := id hs
  unfold Builtin.Slice.sliceApplied Builtin.Slice.sliceFields
  refine wpAny_bind (wpAny_bind (wpAny_field hos hds (x := .none) rfl (wpAny_bind (wpAny_field hos hds (x := .none) rfl (wpAny_bind (wpAny_field hos hds (x := .int (-1) t) rfl (wpAny_pure ?_)))))))
  refine wpAny_bind (HT.slicePart_ (.int (-1) t) ?_)
  show wpAny _ _ (if ((-1 : Int) == 0) = true then _ else _) _ _ s
  rw [if_neg (by decide)]
  refine wpAny_bind (HT.slicePart_ .none (wpAny_bind (HT.slicePart_ .none (wpAny_bind (wpAny_pure ?_)))))
  have e1 : Builtin.Slice.sliceAdjust none none (-1) (n : Int) = ((n : Int) - 1, -1) := rfl
  show wpAny _ _ (match Builtin.Slice.sliceAdjust none none (-1) (n : Int) with | (lo, hi) => pure (lo, (-1 : Int), Builtin.Slice.slicePlaces lo hi (-1))) _ _ s
  rw [e1]
  have e2 : Builtin.Slice.slicePlaces ((n : Int) - 1) (-1) (-1) = n := by
    unfold Builtin.Slice.slicePlaces
    rw [if_neg (by decide)]
    split
    · have : ((n : Int) - 1 - -1 - 1) / (- -1) = (n : Int) - 1 := by
        rw [show (- -1 : Int) = 1 by decide, Int.ediv_one]
        omega
      rw [this]
      omega
    · omega
  show wpAny _ _ (pure ((n : Int) - 1, (-1 : Int), Builtin.Slice.slicePlaces ((n : Int) - 1) (-1) (-1))) _ _ s
  rw [e2]
  exact wpAny_pure h
theorem rev_pick (xs : Array Value) : ((List.range xs.size).filterMap fun (k : Nat) => xs[((xs.size : Int) - 1 + (k : Int) * -1).toNat]?).toArray = xs.toList.reverse.toArray := by
  have e : (fun k : Nat => xs[((xs.size : Int) - 1 + (k : Int) * -1).toNat]?) = fun k : Nat => xs[xs.size - 1 - k]? := by
    funext k
    rw [show ((xs.size : Int) - 1 + (k : Int) * -1).toNat = xs.size - 1 - k by omega]
  rw [e, ← PySem.W.krv_pick xs]
  unfold slicePick
  rw [PySem.W.krv_bounds]
  show _ = ((sliceRange ((xs.size : Int) - 1) (-1) (-1)).filterMap (xs[·]?)).toArray
  rw [PySem.W.krv_sliceRange, List.filterMap_map]
  rfl
theorem getRev {P : Program} {w : World} {A : Around} {E : Value → Shared → Prop} {s : Shared} {t sl : Addr} {items : Array Value} {tk : Tok} {Q : Value → Shared → Prop} (ht : IsTup s.heap t items) (hs : s.heap.IsSliceOf sl .none .none (.int (-1) tk))
    (h : Q (.ref s.heap.objs.size) { s with heap := s.heap.push { cls := .type "tuple", data := .seq items.toList.reverse.toArray } }) (hsz : items.size ≤ sizeLine) : wpAny (model P w) A (getItem (.ref t) (.ref sl)) Q E s := by
  have fits : sizeOk (.seq items.toList.reverse.toArray) := by
    show items.toList.reverse.toArray.size ≤ sizeLine
    rw [List.size_toArray, List.length_reverse, Array.length_toList]
    exact hsz
  obtain ⟨os, hos, hcs, hds⟩ := id hs
  have tS : s.TypeIs (.ref sl) "slice" := ⟨os, hos, hcs⟩
  unfold getItem
  try with_reducible refine wpAny_holding ?_
  first | refine wpAny_bind (wpAny_pure ?_) | skip
  refine wpAny_bind (wpAny_sequenceKey ht.typeIs (by decide) ?_)
  refine wpAny_bind (wpAny_callSpecial?_slot (name := Str.ofString "__getitem__") ht.typeIs PyProof.Rows.slot_tuple_getitem (wpAny_call_entry PyProof.Rows.slot_tuple_getitem ht.typeIs entry_tuple_getitem ?_ (args_tuple_getitem _ _)))
  show wpAny _ _ (Builtin.Tuple.tupleItemsOf (.ref t) >>= _) _ _ s
  refine wpAny_bind (PyProof.Rows.tupleItemsOf_ ht ?_)
  refine wpAny_bind (wpAny_typeOf tS ?_)
  rw [if_pos (by decide)]
  refine wpAny_bind (rev_app hs ?_)
  show wpAny _ _ (if (((items.size : Int) - 1) == 0 && (-1 : Int) == 1 && items.size == items.size) = true then _ else _) _ _ s
  rw [if_neg (by rw [show ((-1 : Int) == 1) = false by decide, Bool.and_false, Bool.false_and]; exact Bool.false_ne_true), rev_pick]
  first
    | exact wpAny_bind (m := Builtin.Tuple.tupleExact _) (wpAny_newObj_type (wpAny_pure ⟨_, rfl, wpAny_pure h⟩) fits)
    | exact wpAny_bind (m := Builtin.Tuple.tupleExact _) (wpAny_newObj_type (wpAny_bind (wpAny_pure (wpAny_pure ⟨_, rfl, wpAny_pure h⟩))) fits)
    | exact wpAny_bind (wpAny_bind (m := Builtin.Tuple.tupleExact _) (wpAny_newObj_type (wpAny_pure (wpAny_pure ⟨_, rfl, wpAny_pure h⟩)) fits))
    | exact wpAny_bind (wpAny_bind (m := Builtin.Tuple.tupleExact _) (wpAny_newObj_type (wpAny_pure ⟨_, rfl, wpAny_pure h⟩) fits))
def tRevAny (K : PySem.W.Frag) (te : TE) : TE := fun σ H Q => te σ H fun x H1 => ∃ a xs, x = .ref a ∧ SqT K H1 a xs ∧ ∀ p H2, H1 p = none → Kp [] H1 H2 → H2 p = some (.tup xs.reverse) → Q (.ref p) H2
theorem pe_revAny {K : PySem.W.Frag} {e : Expr} {te : TE} {k : Nat} {p1 p2 p3 pos : Pos} (eK : X.K = K) (he : PE X e te) : PE X (.Subscript e (.Slice none none (some (.UnaryOp .USub (.Constant (.int 1) k p1) p2)) p3) pos) (tRevAny K te) := by
  subst eK
  refine ⟨fun pins s σ H Q I h => ?_⟩
  refine Subscript_ (thn (he.run pins s σ H _ I h) ?_)
  rintro v s1 ⟨x, H1, I1, r1, a, xs, rfl, hx, q⟩
  cases r1
  have part : PO X (some (.UnaryOp .USub (.Constant (.int 1) k p1) p2)) (tPart (tUn (rU fun i => .int (-i)) (tC (.int 1)))) := po_some (pe_un un_neg pe_int)
  refine wpAny_Slice (thn (po_none.run pins s1 σ H1 (fun o H2 => o = none ∧ H2 = H1) I1 ⟨rfl, rfl⟩) ?_)
  rintro vl s2 ⟨l, H2, I2, pl, rfl, rfl⟩
  refine thn (po_none.run pins s2 σ H2 (fun o H3 => o = none ∧ H3 = H2) I2 ⟨rfl, rfl⟩) ?_
  rintro vu s3 ⟨u, H3, I3, pu, rfl, rfl⟩
  refine thn (part.run pins s3 σ H3 (fun o H4 => o = some (-1) ∧ H4 = H3) I3 ⟨1, rfl, -1, rfl, rfl, rfl⟩) ?_
  rintro vs s4 ⟨o, H4, I4, ps, rfl, rfl⟩
  cases pl
  cases pu
  cases ps with
  | int i tk =>
  have I5 : L2.Inv X pins σ H4 { s4 with heap := s4.heap.push { cls := .type "slice", data := .fields #[.none, .none, .int (-1) tk] } } := I4.kept (t' := s4.toks) fun b ob z => Heap.get?_push_of_some _ z
  obtain ⟨its, r, ht, hz⟩ := I5.tuple hx
  have hlen := r.length
  show wpAny (model X.prog X.w) X.A (subscriptTail e (.Slice none none (some (.UnaryOp .USub (.Constant (.int 1) k p1) p2)) p3) (.ref a) (.ref s4.heap.objs.size)) (EP X pins σ Q) X.xe { s4 with heap := s4.heap.push { cls := .type "slice", data := .fields #[.none, .none, .int (-1) tk] } }
  refine tail_any (ops := [.ref a, .ref s4.heap.objs.size]) ht.typeIs PyProof.Rows.slot_tuple_getitem.lookup ?_ (by with_unfolding_all rfl)
  refine getRev ht (Heap.IsSliceOf.new _ _ _ _) ?_ (by rw [List.size_toArray]; omega)
  refine ⟨.ref _, _, I5.laid (t' := s4.toks) (o := .tup xs.reverse) (fun b ob z => Heap.get?_push_of_some _ z) (Nat.le_refl _) ?_, rfl, q _ _ (I5.hok.fresh (Nat.le_refl _)) (Kp.new (I5.hok.fresh (Nat.le_refl _))) upd_same⟩
  exact ⟨by rw [List.length_reverse]; exact hz, _, r.reverse, IsTup.new _ _⟩
end
end Cf

set_option Elab.async false
set_option linter.all false
set_option maxRecDepth 100000
set_option maxHeartbeats 2000000
namespace Cf
open PySem PySem.Spec PyProof.Rows L2
open LamX (Tabs)
/-! ### data of any kind beside addresses N that are in use: its lists are none of them -/
mutual
inductive Db (K : PySem.W.Frag) (N : Addr → Prop) (H : Hp) : V → PyData → Prop
  | non : Db K N H .non .none
  | bl (b : Bool) : Db K N H (.bl b) (.bool b)
  | int (i : Int) : Db K N H (.int i) (.int i)
  | str (x : Str) : Db K N H (.str x) (.str x)
  | lst {a : Addr} {xs : List V} {ds : List PyData} : H a = some (.lst xs) → ¬ N a → DbAll K N H xs ds → Db K N H (.ref a) (.list ds)
  | tup {a : Addr} {xs : List V} {ds : List PyData} : SqT K H a xs → DbAll K N H xs ds → Db K N H (.ref a) (.tuple ds)
  | dct {a : Addr} : H a = some (.dT []) → Db K N H (.ref a) (.dict [])
inductive DbAll (K : PySem.W.Frag) (N : Addr → Prop) (H : Hp) : List V → List PyData → Prop
  | nil : DbAll K N H [] []
  | cons {v : V} {vs : List V} {d : PyData} {ds : List PyData} : Db K N H v d → DbAll K N H vs ds → DbAll K N H (v :: vs) (d :: ds)
end
section
variable {K : PySem.W.Frag} {N N' : Addr → Prop} {H H' : Hp}
/-- what stays of a heap, stays of its data -/
structure Stay (K : PySem.W.Frag) (N : Addr → Prop) (H H' : Hp) : Prop where
  l : ∀ p xs, ¬ N p → H p = some (.lst xs) → H' p = some (.lst xs)
  t : ∀ p xs, SqT K H p xs → SqT K H' p xs
  d : ∀ p, H p = some (.dT []) → H' p = some (.dT [])
mutual
theorem Db.stay (k : Stay K N H H') : ∀ {v : V} {d : PyData}, Db K N H v d → Db K N H' v d
  | _, _, .non => .non
  | _, _, .bl b => .bl b
  | _, _, .int i => .int i
  | _, _, .str x => .str x
  | _, _, .lst s n h => .lst (k.l _ _ n s) n (DbAll.stay k h)
  | _, _, .tup s h => .tup (k.t _ _ s) (DbAll.stay k h)
  | _, _, .dct h => .dct (k.d _ h)
theorem DbAll.stay (k : Stay K N H H') : ∀ {vs : List V} {ds : List PyData}, DbAll K N H vs ds → DbAll K N H' vs ds
  | _, _, .nil => .nil
  | _, _, .cons h t => .cons (Db.stay k h) (DbAll.stay k t)
end
theorem Kp.stay (k : Kp [] H H') : Stay K N H H' := ⟨fun p xs _ e => k.at0 e, fun p xs e => k.tup0 e, fun p e => k.at0 e⟩
theorem Kt.stay {T : List (Addr × Str)} (k : Kt T H H') : Stay K N H H' := ⟨fun p xs _ e => k.atL e, fun p xs e => k.tup0 e, fun p e => k.ext _ _ e fun ps z => nomatch z⟩
theorem Kp.stayO {q : Addr} {ys : List V} (k : Kp [q] H H') (hq : H q = some (.lst ys)) (nq : N q) : Stay K N H H' :=
  ⟨fun p xs n e => k.at1 (fun z => n (z ▸ nq)) e, fun p xs e => k.tup1 hq e, fun p e => k.at1 (fun z => by rw [z, hq] at e; cases e) e⟩
theorem Stay.trans {H1 : Hp} (a : Stay K N H H1) (b : Stay K N H1 H') : Stay K N H H' := ⟨fun p xs n e => b.l p xs n (a.l p xs n e), fun p xs e => b.t p xs (a.t p xs e), fun p e => b.d p (a.d p e)⟩
mutual
theorem Db.more (h : ∀ p xs, H p = some (.lst xs) → ¬ N p → ¬ N' p) : ∀ {v : V} {d : PyData}, Db K N H v d → Db K N' H v d
  | _, _, .non => .non
  | _, _, .bl b => .bl b
  | _, _, .int i => .int i
  | _, _, .str x => .str x
  | _, _, .lst s n q => .lst s (h _ _ s n) (DbAll.more h q)
  | _, _, .tup s q => .tup s (DbAll.more h q)
  | _, _, .dct q => .dct q
theorem DbAll.more (h : ∀ p xs, H p = some (.lst xs) → ¬ N p → ¬ N' p) : ∀ {vs : List V} {ds : List PyData}, DbAll K N H vs ds → DbAll K N' H vs ds
  | _, _, .nil => .nil
  | _, _, .cons a t => .cons (Db.more h a) (DbAll.more h t)
end
/-- one more address that is new -/
theorem Db.new {D : Addr} {v : V} {d : PyData} (h : Db K N H v d) (n : H D = none) : Db K (fun p => N p ∨ p = D) H v d :=
  h.more fun p xs e np z => z.elim np fun z => by rw [z, n] at e; cases e
theorem Db.less {D : Addr} {v : V} {d : PyData} (h : Db K (fun p => N p ∨ p = D) H v d) : Db K N H v d := h.more fun p xs e np z => np (.inl z)
theorem DbAll.len : ∀ {vs : List V} {ds : List PyData}, DbAll K N H vs ds → vs.length = ds.length
  | _, _, .nil => rfl
  | _, _, .cons _ t => by simp only [List.length_cons]; rw [t.len]
theorem DbAll.app : ∀ {vs ws : List V} {ds es : List PyData}, DbAll K N H vs ds → DbAll K N H ws es → DbAll K N H (vs ++ ws) (ds ++ es)
  | _, _, _, _, .nil, h => h
  | _, _, _, _, .cons a t, h => .cons a (t.app h)
theorem DbAll.take : ∀ {vs : List V} {ds : List PyData} (n : Nat), DbAll K N H vs ds → DbAll K N H (vs.take n) (ds.take n)
  | _, _, 0, _ => by simp only [List.take_zero]; exact .nil
  | _, _, n + 1, .nil => by simp only [List.take_nil]; exact .nil
  | _, _, n + 1, .cons a t => .cons a (t.take n)
theorem DbAll.drop : ∀ {vs : List V} {ds : List PyData} (n : Nat), DbAll K N H vs ds → DbAll K N H (vs.drop n) (ds.drop n)
  | _, _, 0, h => h
  | _, _, n + 1, .nil => by simp only [List.drop_nil]; exact .nil
  | _, _, n + 1, .cons a t => t.drop n
theorem DbAll.rev : ∀ {vs : List V} {ds : List PyData}, DbAll K N H vs ds → DbAll K N H vs.reverse ds.reverse
  | _, _, .nil => .nil
  | _, _, .cons a t => by
    rw [List.reverse_cons, List.reverse_cons]
    exact t.rev.app (.cons a .nil)
theorem DbAll.get : ∀ {vs : List V} {ds : List PyData} {v : V} {i : Nat}, DbAll K N H vs ds → vs[i]? = some v → ∃ d, ds[i]? = some d ∧ Db K N H v d
  | _, _, _, _, .nil, e => by cases e
  | _, _, _, 0, .cons a t, e => ⟨_, rfl, by cases e; exact a⟩
  | _, _, _, i + 1, .cons a t, e => t.get (i := i) e
theorem DbAll.mem {vs : List V} {ds : List PyData} {v : V} (h : DbAll K N H vs ds) (m : v ∈ vs) : ∃ d ∈ ds, Db K N H v d := by
  obtain ⟨i, hi, e⟩ := List.getElem_of_mem m
  obtain ⟨d, e2, r⟩ := h.get (List.getElem?_eq_some_iff.mpr ⟨hi, e⟩)
  exact ⟨d, List.mem_of_getElem? e2, r⟩
theorem DbAll.ints : ∀ ns : List Int, DbAll K N H (ns.map V.int) (ns.map PyData.int)
  | [] => .nil
  | n :: r => .cons (.int n) (DbAll.ints r)
/-- the type of data -/
def tyN : PyData → String
  | .none => "NoneType"
  | .bool _ => "bool"
  | .int _ => "int"
  | .str _ => "str"
  | .list _ => "list"
  | .tuple _ => "tuple"
  | .dict _ => "dict"
theorem Db.ty {v : V} {d : PyData} (h : Db K N H v d) : TyX K H v (.type (tyN d)) := by
  cases h with
  | non => exact .base .non
  | bl b => exact .base (.bl b)
  | int i => exact .base (.int i)
  | str x => exact .base (.str x)
  | lst e n a => exact ty_lst (.inl (.inl e))
  | tup e a => exact ty_tup e
  | dct e => exact .base (.dT e)
theorem Db.kn {v : V} {d : PyData} (h : Db K N H v d) : Kn K H v := by
  cases h with
  | non => exact .non
  | bl b => exact .bl b
  | int i => exact .int i
  | str x => exact .str x
  | lst e n a => exact .lst (.inl (.inl e))
  | tup e a => exact .tup e
  | dct e => exact .dT e
def isTD : PyData → Bool
  | .tuple _ => true
  | _ => false
def isSD : PyData → Bool
  | .str _ => true
  | _ => false
def isND : PyData → Bool
  | .int _ => true
  | .bool _ => true
  | _ => false
theorem kitT : ∀ d : PyData, kitB (tyN d) "tuple" = some (isTD d)
  | .none => (by decide +kernel : kitB "NoneType" "tuple" = some false)
  | .bool _ => (by decide +kernel : kitB "bool" "tuple" = some false)
  | .int _ => (by decide +kernel : kitB "int" "tuple" = some false)
  | .str _ => (by decide +kernel : kitB "str" "tuple" = some false)
  | .list _ => (by decide +kernel : kitB "list" "tuple" = some false)
  | .tuple _ => (by decide +kernel : kitB "tuple" "tuple" = some true)
  | .dict _ => (by decide +kernel : kitB "dict" "tuple" = some false)
theorem kitS : ∀ d : PyData, kitB (tyN d) "str" = some (isSD d)
  | .none => (by decide +kernel : kitB "NoneType" "str" = some false)
  | .bool _ => (by decide +kernel : kitB "bool" "str" = some false)
  | .int _ => (by decide +kernel : kitB "int" "str" = some false)
  | .str _ => (by decide +kernel : kitB "str" "str" = some true)
  | .list _ => (by decide +kernel : kitB "list" "str" = some false)
  | .tuple _ => (by decide +kernel : kitB "tuple" "str" = some false)
  | .dict _ => (by decide +kernel : kitB "dict" "str" = some false)
theorem kitN : ∀ d : PyData, kitB (tyN d) "int" = some (isND d)
  | .none => (by decide +kernel : kitB "NoneType" "int" = some false)
  | .bool _ => (by decide +kernel : kitB "bool" "int" = some true)
  | .int _ => (by decide +kernel : kitB "int" "int" = some true)
  | .str _ => (by decide +kernel : kitB "str" "int" = some false)
  | .list _ => (by decide +kernel : kitB "list" "int" = some false)
  | .tuple _ => (by decide +kernel : kitB "tuple" "int" = some false)
  | .dict _ => (by decide +kernel : kitB "dict" "int" = some false)
end
section
variable {X : Cx} {pins : List (Addr × Obj)} {σ : L2.St} {N : Addr → Prop} {H : Hp} {s : Shared}
mutual
theorem Db.rd (hN : N sysModules) (I : L2.Inv X pins σ H s) : ∀ (d : PyData) (v : V) (u : Value), Db X.K N H v d → RelV v u → ∃ as, Reads s.heap u d as ∧ sysModules ∉ as
  | .none, _, _, h, r => by
    cases h
    cases r
    exact ⟨_, .none, List.not_mem_nil⟩
  | .bool b, _, _, h, r => by
    cases h
    cases r
    exact ⟨_, .bool b, List.not_mem_nil⟩
  | .int i, _, _, h, r => by
    cases h
    obtain ⟨t, rfl⟩ := r
    exact ⟨_, .int i t, List.not_mem_nil⟩
  | .str x, _, _, h, r => by
    cases h
    obtain ⟨t, rfl⟩ := r
    exact ⟨_, .str x t, List.not_mem_nil⟩
  | .list ds, _, _, h, r => by
    cases h with
    | lst hs na ha =>
      cases r
      obtain ⟨its, rv, ⟨o, n, ho, hc, _, hd⟩, _⟩ := I.list (.inl (.inl hs))
      obtain ⟨as, hr, hn⟩ := DbAll.rd hN I ds _ its ha rv
      refine ⟨_, .list ho hc hd hr, fun z => ?_⟩
      rcases List.mem_cons.mp z with z | z
      · exact na (z ▸ hN)
      · exact hn z
  | .tuple ds, _, _, h, r => by
    cases h with
    | tup hs ha =>
      cases r
      obtain ⟨its, rv, ⟨o, ho, hc, n, hd⟩, _⟩ := I.tuple hs
      obtain ⟨as, hr, hn⟩ := DbAll.rd hN I ds _ its ha rv
      exact ⟨_, .tuple ho hc hd hr, hn⟩
  | .dict kvs, _, _, h, r => by
    cases h with
    | dct hd =>
      cases r
      obtain ⟨_, hsm, xs, hp, o, es, ep, ho, he, hdt, hes, _⟩ := I.hok _ _ hd
      cases hp
      have e0 : es.toList = [] := hes
      refine ⟨_, .dict (as := []) (bs := []) ho he.1 hdt (by rw [e0]; exact .nil) (by rw [e0]; exact .nil), fun z => ?_⟩
      rcases List.mem_cons.mp z with z | z
      · rw [← z] at hsm
        exact absurd hsm (by decide)
      · cases z
theorem DbAll.rd (hN : N sysModules) (I : L2.Inv X pins σ H s) : ∀ (ds : List PyData) (vs : List V) (us : List Value), DbAll X.K N H vs ds → Vals vs us → ∃ as, ReadsAll s.heap us ds as ∧ sysModules ∉ as
  | [], _, _, h, r => by
    cases h
    cases r
    exact ⟨_, .nil, List.not_mem_nil⟩
  | d :: ds, _, _, h, r => by
    cases h with
    | cons h1 h2 =>
      cases r with
      | cons r1 r2 =>
        obtain ⟨as, q1, n1⟩ := Db.rd hN I d _ _ h1 r1
        obtain ⟨bs, q2, n2⟩ := DbAll.rd hN I ds _ _ h2 r2
        exact ⟨_, .cons q1 q2, fun z => (List.mem_append.mp z).elim n1 n2⟩
end
end
/-- repr(x) of data -/
def rReprB (K : PySem.W.Frag) : List V → Hp → VK → Prop := fun xs H Q => ∃ x d, xs = [x] ∧ (Dp K H x d ∨ ∃ N : Addr → Prop, N sysModules ∧ Db K N H x d) ∧ Shows d ∧ Q (.str d.shown) H
section
variable {X : Cx}
theorem call_reprB {k : Nat} {K : PySem.W.Frag} (e : X.K = K) (hr : Room k X.A) (hgd : X.A.guards = some []) : CallR X (.builtin "repr") (rReprB K) := by
  subst e
  intro pins s σ H xs us Q I r h
  obtain ⟨x, d, rfl, hd, hsh, q⟩ := h
  rcases hd with hd | ⟨N, hN, hd⟩
  · exact call_repr hr hgd pins s σ H [x] us Q I r ⟨x, d, rfl, hd, hsh, q⟩
  obtain ⟨hs, hdp, hz⟩ := hsh
  obtain ⟨u, rfl, ru⟩ := vals1 r
  obtain ⟨as, rd, nsm⟩ := Db.rd hN I d x u hd ru
  have hun := hr.un
  cases hd with
  | non => exact call_repr hr hgd pins s σ H _ [u] Q I r ⟨_, _, rfl, .non, ⟨hs, hdp, hz⟩, q⟩
  | bl b => exact call_repr hr hgd pins s σ H _ [u] Q I r ⟨_, _, rfl, .bl b, ⟨hs, hdp, hz⟩, q⟩
  | int i => exact call_repr hr hgd pins s σ H _ [u] Q I r ⟨_, _, rfl, .int i, ⟨hs, hdp, hz⟩, q⟩
  | str y => exact call_repr hr hgd pins s σ H _ [u] Q I r ⟨_, _, rfl, .str y, ⟨hs, hdp, hz⟩, q⟩
  | lst sq na al =>
    have e : u = Value.ref _ := ru
    subst e
    exact repr_of_reads' rd hs (fun _ => nsm) hgd (by omega) (fun _ _ h => h) (fun h' t tk hk => ⟨.str _, H, I.kept hk, ⟨_, rfl⟩, q⟩) hz
  | tup sq al =>
    have e : u = Value.ref _ := ru
    subst e
    exact repr_of_reads' rd hs (fun _ => nsm) hgd (by omega) (fun _ _ h => h) (fun h' t tk hk => ⟨.str _, H, I.kept hk, ⟨_, rfl⟩, q⟩) hz
  | dct hd =>
    have e : u = Value.ref _ := ru
    subst e
    exact repr_of_reads' rd hs (fun _ => nsm) hgd (by omega) (fun _ _ h => h) (fun h' t tk hk => ⟨.str _, H, I.kept hk, ⟨_, rfl⟩, q⟩) hz
end
/-! ### how great data is -/
def Asc (x : Str) : Prop := ∀ c ∈ x.cps.toList, c < 128
mutual
def szD : PyData → Nat
  | .none => 10
  | .bool _ => 10
  | .dict _ => 10
  | .int _ => 110
  | .str x => 12 * x.length + 20
  | .list ds => szA ds + 10
  | .tuple ds => szA ds + 10
def szA : List PyData → Nat
  | [] => 0
  | d :: ds => szD d + 5 + szA ds
end
theorem szA_app (a b : List PyData) : szA (a ++ b) = szA a + szA b := by
  induction a with
  | nil => simp [szA]
  | cons d a ih => rw [List.cons_append, szA, szA, ih]; omega
theorem szA_take (n : Nat) (a : List PyData) : szA (a.take n) ≤ szA a := by
  have h := szA_app (a.take n) (a.drop n)
  rw [List.take_append_drop] at h
  omega
theorem szA_drop (n : Nat) (a : List PyData) : szA (a.drop n) ≤ szA a := by
  have h := szA_app (a.take n) (a.drop n)
  rw [List.take_append_drop] at h
  omega
theorem szA_rev : ∀ a : List PyData, szA a.reverse = szA a
  | [] => rfl
  | d :: a => by rw [List.reverse_cons, szA_app, szA_rev a]; simp only [szA]; omega
theorem szA_len : ∀ a : List PyData, a.length ≤ szA a
  | [] => Nat.zero_le _
  | d :: a => by have := szA_len a; simp only [szA, List.length_cons]; omega
theorem szA_mem : ∀ {a : List PyData} {d : PyData}, d ∈ a → szD d ≤ szA a
  | e :: a, d, h => by
    rcases List.mem_cons.mp h with rfl | h
    · simp only [szA]; omega
    · have := szA_mem h
      simp only [szA]; omega
inductive Gd (k : Nat) : Nat → PyData → Prop
  | none {e : Nat} : Gd k e .none
  | bool {e : Nat} (b : Bool) : Gd k e (.bool b)
  | int {e : Nat} {i : Int} : i.natAbs < 2 ^ 80 + k → Gd k e (.int i)
  | str {e : Nat} {x : Str} : Asc x → Gd k e (.str x)
  | dict {e : Nat} : Gd k e (.dict [])
  | list {e : Nat} {ds : List PyData} : (∀ d ∈ ds, Gd k e d) → Gd k (e + 1) (.list ds)
  | tuple {e : Nat} {ds : List PyData} (h : ∀ d ∈ ds, Gd k e d) (hl : ds.length ≤ 41 + k := by first | omega | (simp <;> omega)) : Gd k (e + 1) (.tuple ds)
theorem Gd.mono {k k' : Nat} (hk : k ≤ k') : ∀ {e : Nat} {d : PyData}, Gd k e d → ∀ {e' : Nat}, e ≤ e' → Gd k' e' d := by
  intro e d h
  induction h with
  | none => intro e' _; exact .none
  | bool b => intro e' _; exact .bool b
  | int h => intro e' _; exact .int (by omega)
  | str h => intro e' _; exact .str h
  | dict => intro e' _; exact .dict
  | list h ih =>
    intro e' he
    obtain ⟨f, rfl⟩ : ∃ f, e' = f + 1 := ⟨e' - 1, by omega⟩
    exact .list fun d hd => ih d hd (by omega)
  | tuple h hl ih =>
    intro e' he
    obtain ⟨f, rfl⟩ : ∃ f, e' = f + 1 := ⟨e' - 1, by omega⟩
    exact .tuple (fun d hd => ih d hd (by omega)) (by omega)
theorem piled_sz {ds : List PyData} (h : ∀ d ∈ ds, d.shown.length ≤ szD d) : piled (ds.map PyData.shown) ≤ szA ds := by
  induction ds with
  | nil => simp [piled, szA]
  | cons d ds ih =>
    rw [List.map_cons, piled_cons]
    have h1 := h d List.mem_cons_self
    have h2 := ih fun e he => h e (List.mem_cons_of_mem _ he)
    simp only [szA]
    omega
theorem Gd.sh {k : Nat} (hk : k ≤ 2 ^ 80) {e : Nat} {d : PyData} (h : Gd k e d) : d.shown.length ≤ szD d ∧ d.showable = true ∧ d.depth ≤ e + 1 := by
  induction h with
  | none => exact ⟨by decide +kernel, by decide +kernel, by simp only [PyData.depth]; omega⟩
  | bool b => cases b <;> exact ⟨by decide +kernel, by decide +kernel, by simp only [PyData.depth]; omega⟩
  | @int e i h =>
    have hb : i.natAbs < 2 ^ 100 := by
      have : (2 : Nat) ^ 80 + 2 ^ 80 < 2 ^ 100 := by decide
      omega
    have h1 := int_shown hb
    have h2 := int_ok hb
    exact ⟨by simp only [szD]; omega, h2.1, by omega⟩
  | str h =>
    refine ⟨?_, rfl, by simp only [PyData.depth]; omega⟩
    have := StrLaws.reprText_len _ fun c hc => Nat.lt_of_lt_of_le (h c hc) (by decide)
    simp only [PyData.shown, szD]
    omega
  | dict => exact ⟨by decide +kernel, by decide +kernel, by simp only [PyData.depth, PyData.depthKv]; omega⟩
  | @list e ds h ih =>
    refine ⟨?_, ?_, ?_⟩
    · simp only [PyData.shown, szD]
      rw [shownAll_map]
      have := listText_le (ds.map PyData.shown)
      have := piled_sz fun d hd => (ih d hd).1
      omega
    · simp only [PyData.showable]
      exact showableAll_of fun d hd => (ih d hd).2.1
    · simp only [PyData.depth]
      have := depthAll_of (m := e + 1) fun d hd => (ih d hd).2.2
      omega
  | @tuple e ds h hl ih =>
    refine ⟨?_, ?_, ?_⟩
    · simp only [PyData.shown, szD]
      rw [shownAll_map]
      have := tupleText_le (ds.map PyData.shown)
      have := piled_sz fun d hd => (ih d hd).1
      omega
    · simp only [PyData.showable]
      exact showableAll_of fun d hd => (ih d hd).2.1
    · simp only [PyData.depth]
      have := depthAll_of (m := e + 1) fun d hd => (ih d hd).2.2
      omega
theorem Gd.shows {k : Nat} {e : Nat} {d : PyData} (h : Gd k e d) (hk : k ≤ 1000) (he : e ≤ 50) (hz : szD d ≤ 10000000) : Shows d := by
  obtain ⟨a, b, c⟩ := h.sh (Nat.le_trans hk (by decide))
  exact ⟨b, by omega, Nat.le_trans a (Nat.le_trans hz (by decide))⟩
/-! ### texts -/
theorem asc_app {x y : Str} (a : Asc x) (b : Asc y) : Asc (x ++ y) := fun c hc => by
  have e : (x ++ y).cps.toList = x.cps.toList ++ y.cps.toList := by
    show (x.cps ++ y.cps).toList = _
    rw [Array.toList_append]
  rw [e] at hc
  exact (List.mem_append.mp hc).elim (a c) (b c)
theorem asc_cut {x : Str} (a : Asc x) (lo hi : Option Int) : Asc (cutS x lo hi) := fun c hc => by
  have hc : c ∈ (x.cps.toList.drop (HT.sIx x.length 0 lo)).take (HT.sIx x.length x.length hi - HT.sIx x.length 0 lo) := by simpa [cutS] using hc
  exact a c (List.mem_of_mem_drop (List.mem_of_mem_take hc))
theorem cut_len (x : Str) (lo hi : Option Int) : (cutS x lo hi).length ≤ x.length := by
  show ((x.cps.toList.drop (HT.sIx x.length 0 lo)).take (HT.sIx x.length x.length hi - HT.sIx x.length 0 lo)).toArray.size ≤ x.cps.size
  rw [List.size_toArray, List.length_take, List.length_drop, Array.length_toList]
  omega
theorem upper_asc : ∀ c : Fin 128, (Unicode.upperOf c.val).all (fun d => decide (d < 128)) = true := by decide +kernel
theorem asc_upper {x : Str} (a : Asc x) : Asc (Txt.upper x) := fun c hc => by
  have hc : c ∈ (placed x fun _ c => Unicode.upperOf c).toList := hc
  unfold placed at hc
  rw [Array.mem_toList_iff, Array.mem_flatten] at hc
  obtain ⟨l, hl, hc⟩ := hc
  rw [Array.mem_mapIdx] at hl
  obtain ⟨i, hi, rfl⟩ := hl
  have hx := a _ (Array.getElem_mem_toList hi)
  have := upper_asc ⟨_, hx⟩
  rw [List.all_eq_true] at this
  exact of_decide_eq_true (this c (by simpa using hc))
theorem asc_int (i : Int) : Asc (Str.ofString (toString i)) := fun c hc => by
  rw [Str.ofString_eq_toList] at hc
  have hc : c ∈ ((toString i).toList.map Char.toNat) := by simpa using hc
  obtain ⟨d, hd, rfl⟩ := List.mem_map.mp hc
  exact int_ascii i d hd
theorem ascB {x : Str} (h : (x.cps.toList.all fun c => decide (c < 128)) = true) : Asc x := fun c hc => of_decide_eq_true (List.all_eq_true.mp h c hc)
/-! ### slices and sums of tuples, whatever they are -/
section
variable {X : Cx}
theorem sl_tupU {K : PySem.W.Frag} (e : X.K = K) : SlR X (fun x lo hi H Q => ∃ a xs, x = .ref a ∧ SqT K H a xs ∧ ∀ p H', Kp [] H H' → SqT K H' p (cutV xs lo hi) → Q (.ref p) H') := by
  subst e
  refine sl_imp sl_tupA fun x lo hi H Q ⟨a, xs, ex, hx, q⟩ => ⟨a, xs, ex, hx, fun z => q a H Kp.refl ?_, fun _ p np => q p _ (Kp.new np) (sqT upd_same)⟩
  unfold cutV
  rw [z.1, z.2, List.drop_zero, Nat.sub_zero, List.take_of_length_le (Nat.le_refl _)]
  exact hx
theorem op_catU {K : PySem.W.Frag} (e : X.K = K) : OpR X (binaryOp .Add) (fun x y H Q => ∃ a b xs ys, x = .ref a ∧ y = .ref b ∧ SqT K H a xs ∧ SqT K H b ys ∧ xs.length + ys.length ≤ sizeLine ∧ ∀ p H', Kp [] H H' → SqT K H' p (xs ++ ys) → Q (.ref p) H') := by
  subst e
  refine op_imp op_catA fun x y H Q ⟨a, b, xs, ys, ex, ey, hx, hy, hl, q⟩ => ⟨a, b, xs, ys, ex, ey, hx, hy, hl, fun z => q b H Kp.refl ?_, fun _ z => q a H Kp.refl ?_, fun _ _ p np => q p _ (Kp.new np) (sqT upd_same)⟩
  · rw [z, List.nil_append]
    exact hy
  · rw [z, List.append_nil]
    exact hx
end
/-! t == (), t a tuple of anything -/
section
variable {X : Cx}
theorem op_eqE {K : PySem.W.Frag} (e : X.K = K) {k : Nat} (hr : Room k X.A) : OpR X (compareOp .Eq) (fun x y H Q => ∃ a b xs, x = .ref a ∧ y = .ref b ∧ SqT K H a xs ∧ SqT K H b [] ∧ Q (.bl (decide (xs.length = 0))) H) := by
  subst e
  intro pins s σ H x y v u Q I rx ry h
  obtain ⟨a, b, xs, rfl, rfl, hx, hy, q⟩ := h
  cases rx
  cases ry
  obtain ⟨i1, r1, p1, _⟩ := I.tuple hx
  obtain ⟨i2, r2, p2, _⟩ := I.tuple hy
  cases r2
  have hun := hr.un
  refine SeqAt.eq_tupleAt (e := fun _ => true) (show s.heap.IsTuple a i1.toArray from p1) (show s.heap.IsTuple b ([] : List Value).toArray from p2) (by omega) (fun j h1 h2 => absurd h2 (by simp)) ?_
  refine ⟨.bl (decide (xs.length = 0)), H, I, ?_, q⟩
  have e1 : ((List.range (min i1.toArray.size ([] : List Value).toArray.size)).all (fun _ => true) && i1.toArray.size == ([] : List Value).toArray.size) = decide (xs.length = 0) := by
    rw [r1.length, Bool.eq_iff_iff]
    simp
  rw [e1]
  rfl
end
/-- the same part of the data -/
def cutD (ds : List PyData) (lo hi : Option Int) : List PyData := (ds.drop (HT.sIx ds.length 0 lo)).take (HT.sIx ds.length ds.length hi - HT.sIx ds.length 0 lo)
theorem DbAll.cut {K : PySem.W.Frag} {N : Addr → Prop} {H : Hp} {vs : List V} {ds : List PyData} (h : DbAll K N H vs ds) (lo hi : Option Int) : DbAll K N H (cutV vs lo hi) (cutD ds lo hi) := by
  unfold cutV cutD
  rw [h.len]
  exact (h.drop _).take _
theorem szA_cut (ds : List PyData) (lo hi : Option Int) : szA (cutD ds lo hi) ≤ szA ds := Nat.le_trans (szA_take _ _) (szA_drop _ _)
theorem cutD_len (ds : List PyData) (lo hi : Option Int) : (cutD ds lo hi).length ≤ ds.length := by
  unfold cutD
  rw [List.length_take, List.length_drop]
  omega
theorem cutD_last (ds : List PyData) : (cutD ds (some (-1)) none).length ≤ 1 := by
  unfold cutD
  rw [List.length_take, List.length_drop]
  have : HT.sIx ds.length 0 (some (-1)) = ((-1 : Int) + (ds.length : Int)).toNat := by
    show (if (-1 : Int) < 0 then ((-1 : Int) + (ds.length : Int)).toNat else min (-1 : Int).toNat ds.length) = _
    rw [if_pos (by decide)]
  rw [this]
  omega
theorem cutD_to {ds : List PyData} {i : Nat} (h : i ≤ ds.length) : (cutD ds none (some (i : Int))).length = i := by
  unfold cutD
  rw [HT.sIx_none, HT.sIx_nat, List.drop_zero, Nat.sub_zero, Nat.min_eq_left h, List.length_take]
  omega
theorem cutD_from {ds : List PyData} {i : Nat} (h : i ≤ ds.length) : (cutD ds (some (i : Int)) none).length = ds.length - i := by
  unfold cutD
  rw [HT.sIx_none, HT.sIx_nat, Nat.min_eq_left h, List.length_take, List.length_drop]
  omega
theorem cutD_mem {ds : List PyData} {lo hi : Option Int} {d : PyData} (h : d ∈ cutD ds lo hi) : d ∈ ds := List.mem_of_mem_drop (List.mem_of_mem_take h)
/-- data that a bent thing may be -/
def Ob (K : PySem.W.Frag) (N : Addr → Prop) (H : Hp) (k e z : Nat) (v : V) : Prop := ∃ d, Db K N H v d ∧ Gd k e d ∧ szD d ≤ z
theorem Ob.stay {K : PySem.W.Frag} {N : Addr → Prop} {H H' : Hp} {k e z : Nat} {v : V} (h : Ob K N H k e z v) (s : Stay K N H H') : Ob K N H' k e z v :=
  let ⟨d, a, b, c⟩ := h
  ⟨d, a.stay s, b, c⟩
theorem Ob.mono {K : PySem.W.Frag} {N : Addr → Prop} {H : Hp} {k e z k' e' z' : Nat} {v : V} (h : Ob K N H k e z v) (hk : k ≤ k') (he : e ≤ e') (hz : z ≤ z') : Ob K N H k' e' z' v :=
  let ⟨d, a, b, c⟩ := h
  ⟨d, a, b.mono hk he, by omega⟩
theorem Ob.new {K : PySem.W.Frag} {N : Addr → Prop} {H : Hp} {k e z : Nat} {v : V} {D : Addr} (h : Ob K N H k e z v) (n : H D = none) : Ob K (fun p => N p ∨ p = D) H k e z v :=
  let ⟨d, a, b, c⟩ := h
  ⟨d, a.new n, b, c⟩
theorem Ob.less {K : PySem.W.Frag} {N : Addr → Prop} {H : Hp} {k e z : Nat} {v : V} {D : Addr} (h : Ob K (fun p => N p ∨ p = D) H k e z v) : Ob K N H k e z v :=
  let ⟨d, a, b, c⟩ := h
  ⟨d, a.less, b, c⟩
/-- addresses that are in use -/
def Used (N : Addr → Prop) (H : Hp) : Prop := ∀ p, N p → H p ≠ none
theorem Used.kp {N : Addr → Prop} {H H' : Hp} (u : Used N H) (k : Kp [] H H') : Used N H' := fun p hp => by
  cases e : H p with
  | none => exact absurd e (u p hp)
  | some o => rw [k.at0 e]; exact fun z => nomatch z
theorem Used.free {N : Addr → Prop} {H : Hp} (u : Used N H) {p : Addr} (n : H p = none) : ¬ N p := fun z => u p z n
end Cf

set_option Elab.async false
set_option linter.all false
set_option maxRecDepth 100000
set_option maxHeartbeats 2000000
namespace Cf
open PySem PySem.Spec PyProof.Rows L2
/-! ### repr of data with empty dicts among its lists -/
mutual
inductive Rx (h : Heap) : Value → PyData → Prop
  | non : Rx h .none .none
  | bl (b : Bool) : Rx h (.bool b) (.bool b)
  | int (i : Int) (t : Tok) : Rx h (.int i t) (.int i)
  | str (x : Str) (t : Tok) : Rx h (.str x t) (.str x)
  | lst {a : Addr} {o : Obj} {us : Array Value} {n : Nat} {ds : List PyData} : h.get? a = some o → o.cls = .type "list" → o.data = .seq us n → RxAll h us.toList ds → Rx h (.ref a) (.list ds)
  | tup {a : Addr} {o : Obj} {us : Array Value} {n : Nat} {ds : List PyData} : h.get? a = some o → o.cls = .type "tuple" → o.data = .seq us n → RxAll h us.toList ds → Rx h (.ref a) (.tuple ds)
  | dct {a : Addr} {o : Obj} {es : Array DictEntry} {n : Nat} : h.get? a = some o → o.cls = .type "dict" → o.data = .dict es n → es.toList = [] → (a == sysModules) = false → Rx h (.ref a) (.dict [])
inductive RxAll (h : Heap) : List Value → List PyData → Prop
  | nil : RxAll h [] []
  | cons {u : Value} {us : List Value} {d : PyData} {ds : List PyData} : Rx h u d → RxAll h us ds → RxAll h (u :: us) (d :: ds)
end
mutual
theorem Rx.rd {h : Heap} : ∀ {u : Value} {d : PyData}, Rx h u d → ∃ as, Reads h u d as
  | _, _, .non => ⟨_, .none⟩
  | _, _, .bl b => ⟨_, .bool b⟩
  | _, _, .int i t => ⟨_, .int i t⟩
  | _, _, .str x t => ⟨_, .str x t⟩
  | _, _, .lst a b c q => let ⟨_, r⟩ := RxAll.rd q; ⟨_, .list a b c r⟩
  | _, _, .tup a b c q => let ⟨_, r⟩ := RxAll.rd q; ⟨_, .tuple a b c r⟩
  | _, _, .dct a b c e _ => ⟨_, .dict (as := []) (bs := []) a b c (by rw [e]; exact .nil) (by rw [e]; exact .nil)⟩
theorem RxAll.rd {h : Heap} : ∀ {us : List Value} {ds : List PyData}, RxAll h us ds → ∃ as, ReadsAll h us ds as
  | _, _, .nil => ⟨_, .nil⟩
  | _, _, .cons a t => let ⟨_, p⟩ := Rx.rd a; let ⟨_, q⟩ := RxAll.rd t; ⟨_, .cons p q⟩
end
section
variable {P : Program} {w : World} {h : Heap}
/-- what is shown of it, the addresses on the way no deeper than it is -/
def Sh (P : Program) (w : World) (h : Heap) (n : Nat) (u : Value) (t : Str) : Prop := ∃ bs, ReadAtMost h n bs ∧ ReprK P w bs h n u t
def ShAll (P : Program) (w : World) (h : Heap) (n : Nat) (us : List Value) (ts : List Str) : Prop := ∃ bs, ReadAtMost h n bs ∧ ReprAllK P w bs h n us ts
mutual
theorem Rx.sh : ∀ {u : Value} {d : PyData}, Rx h u d → d.showable = true → d.shown.length ≤ sizeLine → Sh P w h d.depth u d.shown
  | _, _, .non, hs, hz => ReprK.of_reads .none hs (fun z => by cases z) hz
  | _, _, .bl b, hs, hz => ReprK.of_reads (.bool b) hs (fun z => by cases z) hz
  | _, _, .int i t, hs, hz => ReprK.of_reads (.int i t) hs (fun z => by cases z) hz
  | _, _, .str x t, hs, hz => ReprK.of_reads (.str x t) hs (fun z => by cases z) hz
  | _, _, .lst (ds := ds) (us := us) e1 e2 e3 q, hs, hz => by
    simp only [PyData.showable] at hs
    simp only [PyData.shown] at hz
    obtain ⟨bs, m, k⟩ := RxAll.sh q hs fun t ht => Nat.le_trans (listText_mem_le ht) hz
    obtain ⟨_, r⟩ := (Rx.lst e1 e2 e3 q).rd
    have out := not_mem_of_deeper r (n := PyData.depthAll ds) (by simp only [PyData.depth]; omega) m
    refine ⟨_, ReadAtMost.cons r (by simp only [PyData.depth]; omega) m, ?_⟩
    simp only [PyData.depth, PyData.shown]
    obtain ⟨l⟩ := us
    match l, q, e3, k with
    | [], q, e3, k =>
      cases (show RxAll h [] ds from q)
      simp only [PyData.shownAll, listText_nil]
      exact ReprK.listEmpty e1 e2 e3
    | x :: l, q, e3, k => exact ReprK.list e1 e2 e3 out (by simpa using k.length_eq) (fun i y z => k.item i y (by simpa using z))
  | _, _, .tup (ds := ds) e1 e2 e3 q, hs, hz => by
    simp only [PyData.showable] at hs
    simp only [PyData.shown] at hz
    obtain ⟨bs, m, k⟩ := RxAll.sh q hs fun t ht => Nat.le_trans (tupleText_mem_le ht) hz
    obtain ⟨_, r⟩ := (Rx.tup e1 e2 e3 q).rd
    have out := not_mem_of_deeper r (n := PyData.depthAll ds) (by simp only [PyData.depth]; omega) m
    refine ⟨_, ReadAtMost.cons r (by simp only [PyData.depth]; omega) m, ?_⟩
    simp only [PyData.depth, PyData.shown]
    exact ReprK.tuple e1 e2 e3 out k
  | _, _, .dct (a := a) e1 e2 e3 e4 e5, hs, hz =>
    ReprK.of_reads (.dict (as := []) (bs := []) e1 e2 e3 (by rw [e4]; exact .nil) (by rw [e4]; exact .nil)) hs (fun _ z => by
      rcases List.mem_cons.mp z with z | z
      · rw [← z] at e5
        exact absurd e5 (by decide)
      · cases z) hz
theorem RxAll.sh : ∀ {us : List Value} {ds : List PyData}, RxAll h us ds → PyData.showableAll ds = true → (∀ t ∈ PyData.shownAll ds, t.length ≤ sizeLine) → ShAll P w h (PyData.depthAll ds) us (PyData.shownAll ds)
  | _, _, .nil, _, _ => ⟨[], fun _ z => (List.not_mem_nil z).elim, by simp only [PyData.shownAll]; exact .nil⟩
  | _, _, .cons (d := d) (ds := ds) a t, hs, hz => by
    simp only [PyData.showableAll, Bool.and_eq_true] at hs
    simp only [PyData.shownAll, List.forall_mem_cons] at hz
    obtain ⟨b1, m1, k1⟩ := Rx.sh a hs.1 hz.1
    obtain ⟨b2, m2, k2⟩ := RxAll.sh t hs.2 hz.2
    simp only [PyData.depthAll, PyData.shownAll]
    refine ⟨b1 ++ b2, (m1.mono (Nat.le_max_left _ _)).append (m2.mono (Nat.le_max_right _ _)), .cons ?_ ?_⟩
    · exact (k1.more fun b z => List.mem_append_left _ z).level_le (Nat.le_max_left _ _)
    · exact k2.more_le (fun b z => List.mem_append_right _ z) (Nat.le_max_right _ _)
end
variable {A : Around} {E : Value → Shared → Prop} {s : Shared} {Q : Value → Shared → Prop}
theorem repr_rx {a : Addr} {d : PyData} (x : Rx h (.ref a) d) (hs : d.showable = true) (hz : d.shown.length ≤ sizeLine) (hg : A.guards = some []) (hu : A.units + (d.depth + 1) < cLine) (hk : ∀ b o, h.get? b = some o → s.heap.get? b = some o)
    (hQ : ∀ h' t tk, (∀ b o, s.heap.get? b = some o → h'.get? b = some o) → Q (.str d.shown t) { s with heap := h', toks := tk }) : wpAny (model P w) A (call (.builtin "repr") [.ref a]) Q E s := by
  cases x with
  | @lst _ o us n ds e1 e2 e3 q =>
    simp only [PyData.showable] at hs
    simp only [PyData.shown] at hz hQ
    simp only [PyData.depth] at hu
    obtain ⟨bs, m, k⟩ := RxAll.sh (P := P) (w := w) q hs fun t ht => Nat.le_trans (listText_mem_le ht) hz
    obtain ⟨_, r⟩ := (Rx.lst e1 e2 e3 q).rd
    have out := not_mem_of_deeper r (n := PyData.depthAll ds) (by simp only [PyData.depth]; omega) m
    refine call_repr_slot (by omega) ⟨o, hk _ _ e1, e2⟩ F.slot_list_repr.toG ?_
    obtain ⟨l⟩ := us
    match l, q, e3, k with
    | [], q, e3, k =>
      cases (show RxAll h [] ds from q)
      simp only [PyData.shownAll, listText_nil] at hQ
      exact call_list_repr_empty ⟨o, hk _ _ e1, e2⟩ (hk _ _ e1) e3 ⟨_, _, rfl, hQ s.heap _ _ fun _ _ z => z⟩
    | x :: l, q, e3, k => exact call_list_reprK e1 e2 e3 out (by simpa using k.length_eq) (fun i y z => k.item i y (by simpa using z)) hg (fun b _ => Clear.nil b) (by show A.units + 1 + _ < cLine; omega) hk (fun h' t tk z => ⟨_, _, rfl, hQ h' t tk z⟩) hz
  | @tup _ o us n ds e1 e2 e3 q =>
    simp only [PyData.showable] at hs
    simp only [PyData.shown] at hz hQ
    simp only [PyData.depth] at hu
    obtain ⟨bs, m, k⟩ := RxAll.sh (P := P) (w := w) q hs fun t ht => Nat.le_trans (tupleText_mem_le ht) hz
    obtain ⟨_, r⟩ := (Rx.tup e1 e2 e3 q).rd
    have out := not_mem_of_deeper r (n := PyData.depthAll ds) (by simp only [PyData.depth]; omega) m
    refine call_repr_slot (by omega) ⟨o, hk _ _ e1, e2⟩ F.slot_tuple_repr ?_
    exact call_tuple_reprK e1 e2 e3 out k hg (fun b _ => Clear.nil b) (by show A.units + 1 + _ < cLine; omega) hk (fun h' t tk z => ⟨_, _, rfl, hQ h' t tk z⟩) hz
  | dct e1 e2 e3 e4 e5 =>
    refine repr_of_reads' (.dict (as := []) (bs := []) e1 e2 e3 (by rw [e4]; exact .nil) (by rw [e4]; exact .nil)) hs (fun _ z => ?_) hg hu hk hQ hz
    rcases List.mem_cons.mp z with z | z
    · rw [← z] at e5
      exact absurd e5 (by decide)
    · cases z
end
section
variable {X : Cx} {pins : List (Addr × Obj)} {σ : L2.St} {N : Addr → Prop} {H : Hp} {s : Shared}
mutual
theorem Db.rx (I : L2.Inv X pins σ H s) : ∀ (d : PyData) (v : V) (u : Value), Db X.K N H v d → RelV v u → Rx s.heap u d
  | .none, _, _, q, r => by
    cases q
    cases r
    exact .non
  | .bool b, _, _, q, r => by
    cases q
    cases r
    exact .bl b
  | .int i, _, _, q, r => by
    cases q
    obtain ⟨t, rfl⟩ := r
    exact .int i t
  | .str x, _, _, q, r => by
    cases q
    obtain ⟨t, rfl⟩ := r
    exact .str x t
  | .list ds, _, _, q, r => by
    cases q with
    | lst hs na ha =>
      cases r
      obtain ⟨its, rv, ⟨o, n, ho, hc, _, hd⟩, _⟩ := I.list (.inl (.inl hs))
      exact .lst ho hc hd (DbAll.rx I ds _ its ha rv)
  | .tuple ds, _, _, q, r => by
    cases q with
    | tup hs ha =>
      cases r
      obtain ⟨its, rv, ⟨o, ho, hc, n, hd⟩, _⟩ := I.tuple hs
      exact .tup ho hc hd (DbAll.rx I ds _ its ha rv)
  | .dict kvs, _, _, q, r => by
    cases q with
    | dct hd =>
      cases r
      obtain ⟨_, hsm, xs, hp, o, es, ep, ho, he, hdt, hes, _⟩ := I.hok _ _ hd
      cases hp
      exact .dct ho he.1 hdt hes hsm
theorem DbAll.rx (I : L2.Inv X pins σ H s) : ∀ (ds : List PyData) (vs : List V) (us : List Value), DbAll X.K N H vs ds → Vals vs us → RxAll s.heap us ds
  | [], _, _, q, r => by
    cases q
    cases r
    exact .nil
  | d :: ds, _, _, q, r => by
    cases q with
    | cons h1 h2 =>
      cases r with
      | cons r1 r2 => exact .cons (Db.rx I d _ _ h1 r1) (DbAll.rx I ds _ _ h2 r2)
end
end
/-- repr(x) of data of any kind -/
def rReprX (K : PySem.W.Frag) : List V → Hp → VK → Prop := fun xs H Q => ∃ x d, ∃ N : Addr → Prop, xs = [x] ∧ Db K N H x d ∧ Shows d ∧ Q (.str d.shown) H
section
variable {X : Cx}
theorem call_reprX {k : Nat} {K : PySem.W.Frag} (e : X.K = K) (hr : Room k X.A) (hgd : X.A.guards = some []) : CallR X (.builtin "repr") (rReprX K) := by
  subst e
  intro pins s σ H xs us Q I r h
  obtain ⟨x, d, N, rfl, hd, ⟨hs, hdp, hz⟩, q⟩ := h
  obtain ⟨u, rfl, ru⟩ := vals1 r
  have rx := hd.rx I d x u ru
  have hun := hr.un
  cases hd with
  | non => exact call_repr hr hgd pins s σ H _ [u] Q I r ⟨_, _, rfl, .non, ⟨hs, hdp, hz⟩, q⟩
  | bl b => exact call_repr hr hgd pins s σ H _ [u] Q I r ⟨_, _, rfl, .bl b, ⟨hs, hdp, hz⟩, q⟩
  | int i => exact call_repr hr hgd pins s σ H _ [u] Q I r ⟨_, _, rfl, .int i, ⟨hs, hdp, hz⟩, q⟩
  | str y => exact call_repr hr hgd pins s σ H _ [u] Q I r ⟨_, _, rfl, .str y, ⟨hs, hdp, hz⟩, q⟩
  | lst sq na al =>
    cases (show u = Value.ref _ from ru)
    exact repr_rx rx hs hz hgd (by omega) (fun _ _ z => z) (fun h' t tk hk => ⟨.str _, H, I.kept hk, ⟨_, rfl⟩, q⟩)
  | tup sq al =>
    cases (show u = Value.ref _ from ru)
    exact repr_rx rx hs hz hgd (by omega) (fun _ _ z => z) (fun h' t tk hk => ⟨.str _, H, I.kept hk, ⟨_, rfl⟩, q⟩)
  | dct hd =>
    cases (show u = Value.ref _ from ru)
    exact repr_rx rx hs hz hgd (by omega) (fun _ _ z => z) (fun h' t tk hk => ⟨.str _, H, I.kept hk, ⟨_, rfl⟩, q⟩)
end
end Cf

set_option Elab.async false
set_option linter.all false
set_option maxRecDepth 100000
namespace Cf
open PySem PySem.Spec PyProof.Rows L2
open LamX (CodeO TabS Tabs ExtN TabB)
theorem loose_int {lv : List (Str × PySem.W.WData)} {mg : Str → Option Value} {h : Heap} {x : Str} {n : Int} (L : PySem.W.LooseAre lv mg h) (m : (x, PySem.W.WData.int n) ∈ lv) : ∃ t, mg x = some (.int n t) := by
  obtain ⟨v, e, r⟩ := L.val _ m
  cases r
  exact ⟨_, e⟩
/-- the end of a law some of whose constants are written as sums -/
theorem walkL {l : PySem.W.OpenLaw} {n k : Nat} {q p : Program} {lv : List (Str × PySem.W.WData)} {loose : List Str} {YP : World → Heap → Prop} {d : DefRec} {K : Params → PySem.W.Frag} {x : Str}
    (hn : l.most = some n) (hn2 : n ≤ sizeLine) (hdf : d.params.defaults = []) (hr : Room k callerA) (hY : ∀ (w : World) (h : Heap), YP w h → (K w.params).In h)
    (F : ∀ (w : World) (mg : Str → Option Value) (fa : Addr) (h : Heap), YP w h → PySem.W.LooseAre lv mg h → (K w.params).In h → h.Ns mainGlobals mg → mg d.name = some (.ref fa) →
      ∃ (fd : FuncData) (cs : List (Addr × Addr)) (sp : Sp), (∀ t ∈ cs, h.get? t.2 = some { cls := .none, data := .fields #[] }) ∧ (∀ t ∈ cs, (K w.params).lookup t.2 = none) ∧ (∀ t ∈ cs, PySem.W.CodeHd h t.1 t.2) ∧ (∀ (s : Shared) (u : Value), BindsTo s fd ⟨[u], []⟩ [(x, u)]) ∧
        (∀ (H : Hp) (a : Addr) (ns : List Int), ns.length ≤ n → (∀ t ∈ cs, H t.2 = some (.tbl #[])) → SqL (K w.params) H a (ns.map V.int) → sp [.ref a] H (fun v _ => v = .bl true) fun _ _ _ => False) ∧
        ∀ base : Heap, (K w.params).In base → base.Ns mainGlobals mg → (∀ t ∈ cs, TabB base mg t.1 t.2) → FnG l.prog w (K w.params) mg base CX0 k fa fd [x] sp) :
    PySem.W.WalkO q loose (PySem.W.XL p lv) YP l.row.toRowW d [] (fun f vs => PySem.call f vs) := by
  refine Att.attach_call hn hdf ?_
  intro w s0 s1 mg mb fa o pm cd doc a vs ns G Y ho hd hcd hmg hobj hints hlen hg
  have inK := hY w _ Y
  obtain ⟨fd, cs, sp, hT, nT, hC, hb, hsp, hF⟩ := F w mg fa _ Y G.X.2 inK G.T.g hmg
  exact law_callT inK G.T.g G.T.b G.T.builtins G.T.nolimit hg hT nT hC G.T.bmain hobj hints (Nat.le_trans hlen hn2) hr hF hb (fun H hH hS => hsp H a ns hlen hH hS) (fun H e s' h => h)
end Cf

set_option Elab.async false
set_option linter.all false
set_option maxRecDepth 100000
namespace Cf
open PySem PySem.Spec PyProof.Rows L2
section
variable {X : Cx}
/-- len(set(xs)), xs a list of tuples of ints (that differ or not) -/
theorem pe_lenSetU {K : PySem.W.Frag} (eK : X.K = K) {a : Expr} {ta : TE} {p p2 q pos : Pos} (hc : X.calm = true) (hu : X.A.units + 64 < cLine) (hg : Gl X "len") (hm : X.mg "len" = none) (hg2 : Gl X "set") (hm2 : X.mg "set" = none) (ha : PE X a ta)
    (na : starEach [a] X.env = (false, eval a X.env) :: starEach [] X.env := by rfl) : PE X (.Call (.Name "len" p) [.Call (.Name "set" p2) [a] [] q] [] pos)
      (fun σ H Q => ta σ H fun x H1 => ∃ (l : Addr) (ks : List (Addr × List Int)), x = V.ref l ∧ SqL K H1 l (ks.map fun p => V.ref p.1) ∧ (∀ p ∈ ks, SqT K H1 p.1 (p.2.map V.int)) ∧ ks.length < 64 ∧ ∀ us : List (List Int), us.Nodup → (∀ y, y ∈ us ↔ y ∈ ks.map (·.2)) → Q (.int us.length) H1) := by
  subst eK
  refine ⟨fun pins s σ H Q I h => ?_⟩
  refine Call_ (ld_blt I hg hm PySem.boot_len ?_)
  refine PyProof.Rows.callWith_builtin1 (PyProof.Rows.args_cons ?_ rfl) rfl rfl
  refine Call_ (ld_blt I hg2 hm2 PyProof.Rows.boot_set ?_)
  refine PyProof.Rows.callWith_type1 (PyProof.Rows.args_cons (thn (ha.run pins s σ H _ I h) fun v s1 ⟨x, H1, I1, r1, q1⟩ => PyProof.Rows.args_nil ?_) na) na rfl
  obtain ⟨l, ks, rfl, hq, e3, h1, q1⟩ := q1
  cases r1
  obtain ⟨its, r, pl, hz⟩ := I1.list hq
  refine call_set_tups (P := X.prog) (w := X.w) ks (I1.ok.hd hc) pl.isList (by simpa using refs_of_vals r) (fun p hp => I1.isT (e3 p hp)) (by omega) (by omega) fun h' tk L es ep t R g k => ?_
  have hm : ∀ y, y ∈ L.map (·.2) ↔ y ∈ ks.map (·.2) := fun y => ⟨fun hy => by
      obtain ⟨p, hp, rfl⟩ := List.mem_map.mp hy
      exact List.mem_map.mpr ⟨p, List.mem_of_mem_take (g.sub p hp), rfl⟩, fun hy => by
      obtain ⟨p, hp, rfl⟩ := List.mem_map.mp hy
      exact g.all p (by rw [List.take_length]; exact hp)⟩
  have q2 := q1 _ R.nd hm
  rw [List.length_map] at q2
  have hLl := R.few
  have hes : es.size = L.length := by
    have h := congrArg List.length R.rows
    unfold rowsOf at h
    rw [Array.length_toList, List.length_map] at h
    exact h
  refine PyProof.Rows.args_nil ?_
  obtain ⟨o, ho, hex, hd⟩ := R.ob
  have I2 : Inv X pins σ H1 { s1 with heap := h', toks := tk } := I1.kept k
  refine call_len_set ho hex hd (SetTR.fits (s := { s1 with heap := h', toks := tk }) R) (by rw [hes]; omega) ⟨.int L.length, H1, I2.tok _, ⟨_, by rw [hes]⟩, q2⟩
end
end Cf

set_option Elab.async false
set_option linter.all false
set_option maxRecDepth 100000
namespace Cf
open PySem PySem.Spec PyProof.Rows L2
/-! ### ints in a list of the program's own, or in a tuple -/
def Si2 (K : PySem.W.Frag) (H : Hp) (p : Addr) (ns : List Int) : Prop := IL H p ns ∨ SqT K H p (ns.map V.int)
section
variable {K : PySem.W.Frag} {H H' : Hp} {p D : Addr} {ns : List Int}
theorem Si2.kp0 (h : Si2 K H p ns) (k : Kp [] H H') : Si2 K H' p ns := h.imp (fun h => k.at0 h) fun h => k.tup0 h
theorem Si2.md {acc : List V} (h : Si2 K H p ns) (hD : H D = some (.lst acc)) (m : Md D H H') (ne : p ≠ D ∨ SqT K H p (ns.map V.int)) : Si2 K H' p ns := by
  rcases ne with ne | h2
  · exact h.imp (fun h => (m p ne).trans h) fun h => m.kp.tup1 hD h
  · exact .inr (m.kp.tup1 hD h2)
theorem Si2.seq (h : Si2 K H p ns) : SqL K H p (ns.map V.int) ∨ SqT K H p (ns.map V.int) := h.imp (fun h => sqL h) id
theorem Si2.h1 {a : Addr} {ys : List V} (h : (IL H p ns ∧ p ≠ a) ∨ SqT K H p (ns.map V.int)) (ha : H a = some (.lst ys)) (k : Kp [a] H H') : Si2 K H' p ns := h.imp (fun h => k.at1 h.2 h.1) fun h => k.tup1 ha h
end
section
variable {X : Cx}
theorem ix_si {K : PySem.W.Frag} (e : X.K = K) : IxR X (fun x y H Q => ∃ p, ∃ ns : List Int, ∃ i : Int, x = .ref p ∧ y = .int i ∧ (SqL K H p (ns.map V.int) ∨ SqT K H p (ns.map V.int)) ∧ (0 ≤ i ∧ i < (ns.length : Int)) ∧ Q (.int (ns.getD i.toNat 0)) H) := by
  subst e
  intro e1 e2 pins s σ H x y v u Q I rx ry ⟨p, ns, i, a, b, c, d, q⟩
  rcases c with c | c
  · exact ix_li e1 e2 pins s σ H x y v u Q I rx ry ⟨p, ns, i, a, b, c, d, q⟩
  · exact ix_ti e1 e2 pins s σ H x y v u Q I rx ry ⟨p, ns, i, a, b, c, d, q⟩
end
end Cf

set_option Elab.async false
set_option linter.all false
set_option maxRecDepth 100000
namespace Cf
open PySem PySem.Spec PyProof.Rows L2
/-! ### a def of one's own, called by keywords alone -/
def pickV (js : List Nat) (zs : List V) : List V := js.map fun j => zs.getD j .non
def pickU (js : List Nat) (ws : List Value) : List Value := js.map fun j => ws.getD j .none
theorem vals_getD : ∀ {zs : List V} {ws : List Value} (j : Nat), Vals zs ws → RelV (zs.getD j .non) (ws.getD j .none)
  | [], _, _, h => by
    cases h
    exact rfl
  | _ :: _, _, 0, h => by
    cases h with
    | cons a _ => exact a
  | _ :: _, _, j + 1, h => by
    cases h with
    | cons _ b => exact vals_getD j b
theorem vals_pick {zs : List V} {ws : List Value} (h : Vals zs ws) : ∀ js : List Nat, Vals (pickV js zs) (pickU js ws)
  | [] => .nil
  | j :: js => .cons (vals_getD j h) (vals_pick h js)
structure ClK (P : Program) (w : World) (K : PySem.W.Frag) (mg : Str → Option Value) (base : Heap) (CX : CXT) (k : Nat) (x : Str) (ks : List Str) (js : List Nat) (sp : Sp) : Prop where
  ex : ∃ (f : Addr) (fd : FuncData) (ps : List Str), FnG P w K mg base CX k f fd ps sp ∧ mg x = some (.ref f) ∧ PySem.W.keepIn K (.ref f) = true ∧
    ∀ (s : Shared) (ws : List Value), ws.length = ks.length → BindsTo s fd ⟨[], ks.zip ws⟩ (ps.zip (pickU js ws))
theorem Fun.bindsW {K : PySem.W.Frag} {x qual : Str} {st : Stmt} {f : Addr} {fd : FuncData} {ps ks : List Str} {js : List Nat} (F : Fun K x qual st f fd)
    (h : ∀ (kV doc pm : Value) (an : Option Addr) (cdv ct : Value) (ws : List Value), ws.length = ks.length → bindArgs (PySem.W.fnOf x qual (defArgs st) (defBody st) (defScope st) .none kV doc pm an cdv ct) ⟨[], ks.zip ws⟩ = pure (ps.zip (pickU js ws))) :
    ∀ (s : Shared) (ws : List Value), ws.length = ks.length → BindsTo s fd ⟨[], ks.zip ws⟩ (ps.zip (pickU js ws)) := by
  obtain ⟨oc, od, kV, doc, pm, an, cdv, ct, osl, rfl, lk, hcd⟩ := F.ex
  exact fun s ws hl => .of_eq (h kV doc pm an cdv ct ws hl)
def tCallW (n : Nat) (js : List Nat) (sp : Sp) (E : XK) (tk : TA) : TE := fun σ H Q => tk σ H fun zs H1 => zs.length = n ∧ sp (pickV js zs) H1 Q E
section
variable {X : Cx} {CX : CXT} {k : Nat} {sp : Sp} {E : XK} {x : Str} {p pos : Pos} {ks : List Str} {js : List Nat} {kws : List Keyword} {tk : TA}
theorem pe_clW (C : ClK X.prog X.w X.K X.mg X.base CX k x ks js sp) (hr : Room k X.A) (hgd : X.A.guards = some []) (hx : Passes CX X E) (hg : Gl X x) (hkw : PK X kws tk)
    (hall : (backToKw pos (keywordEach kws X.env)).all (·.1.isSome) = true := by rfl) (hks : (backToKw pos (keywordEach kws X.env)).filterMap (·.1) = ks := by rfl) (hdb : (x == ("__debug__" : Str)) = false := by decide)
    (hpl : ((backTo pos (starEach [] X.env)).any (·.1) || (backToKw pos (keywordEach kws X.env)).any (·.1.isNone)) = false := by rfl) :
    PE X (.Call (.Name x p) [] kws pos) (tCallW ks.length js sp E tk) := by
  obtain ⟨f, fd, ps, F, hm, hk, hb⟩ := C.ex
  refine ⟨fun pins s σ H Q I h => ?_⟩
  refine wpAny_Call_Name_kw (ld_glob I hg hm ?_ hdb)
  refine PySem.W.callWith_KW0 (h₀ := X.base) I.ok.mod.kin hk hall ?_ hpl
  refine thn (hkw.run pos pins s σ H _ I h) fun ws s2 ⟨zs, H2, I2, rz, l2, q2⟩ => ⟨I2.kIn, ?_⟩
  rw [hks]
  have lw : ws.length = ks.length := rz.length.symm.trans l2
  refine wpAny_call (codeAny_mono (F.run X.A X.stack s2 H2 ⟨[] ++ [], ks.zip ws⟩ (pickU js ws) (pickV js zs) Q E hr hgd I2.env0 (hb s2 ws lw) (vals_pick rz js) q2) ?_)
  intro res s' hq
  match res, hq with
  | .error er, hq => exact hx pins σ H2 s2 er s' I2 hq
  | .ok (.ret u), hq => exact I2.after hq
  | .ok .next, hq => exact hq.elim
  | .ok .brk, hq => exact hq.elim
  | .ok .cont, hq => exact hq.elim
end
end Cf

set_option Elab.async false
set_option linter.all false
set_option maxRecDepth 100000
set_option maxHeartbeats 4000000
namespace Cf
open PySem PySem.Spec PyProof.Rows L2
open LamX (TabB Tabs TabS)
def topS (i : Nat) : Stmt := PySem.Challenge.pw_creditfloor_k50_prices_and_spares_by_nam.main.body.getD i (.Pass ⟨0, 0, 0, 0⟩)
abbrev s_thresholds : Stmt := topS 9
theorem sc_thresholds : FnScope ["count", "budget", "found", "reached", "size", "share"] ["count", "budget"] (defScope s_thresholds) :=
  ⟨rfl, rfl, rfl, by decide +kernel, rfl, by decide +kernel, by decide +kernel⟩
abbrev s_threshold : Stmt := topS 10
theorem sc_threshold : FnScope ["size", "budget"] ["size", "budget"] (defScope s_threshold) :=
  ⟨rfl, rfl, rfl, by decide +kernel, rfl, by decide +kernel, by decide +kernel⟩
abbrev s_sums : Stmt := topS 12
theorem sc_sums : FnScope ["balances", "found", "total", "balance"] ["balances"] (defScope s_sums) :=
  ⟨rfl, rfl, rfl, by decide +kernel, rfl, by decide +kernel, by decide +kernel⟩
abbrev s_gap : Stmt := topS 14
theorem sc_gap : FnScope ["balances", "budget", "needs", "at", "held"] ["balances", "budget"] (defScope s_gap) :=
  ⟨rfl, rfl, rfl, by decide +kernel, rfl, by decide +kernel, by decide +kernel⟩
abbrev s_is_safe : Stmt := topS 13
theorem sc_is_safe : FnScope ["balances", "budget"] ["balances", "budget"] (defScope s_is_safe) :=
  ⟨rfl, rfl, rfl, by decide +kernel, rfl, by decide +kernel, by decide +kernel⟩
abbrev s_poorest_first : Stmt := topS 17
theorem sc_poorest_first : FnScope ["balances", "senders", "at"] ["balances", "senders"] (defScope s_poorest_first) :=
  ⟨rfl, rfl, rfl, by decide +kernel, rfl, by decide +kernel, by decide +kernel⟩
abbrev s_weak_set : Stmt := topS 15
theorem sc_weak_set : FnScope ["balances", "budget", "found", "order"] ["balances", "budget"] (defScope s_weak_set) :=
  ⟨rfl, rfl, rfl, by decide +kernel, rfl, by decide +kernel, by decide +kernel⟩
abbrev s_require_safe : Stmt := topS 18
theorem sc_require_safe : FnScope ["balances", "budget", "senders"] ["balances", "budget"] (defScope s_require_safe) :=
  ⟨rfl, rfl, rfl, by decide +kernel, rfl, by decide +kernel, by decide +kernel⟩
abbrev s_is_integer : Stmt := topS 1
theorem sc_is_integer : FnScope ["thing"] ["thing"] (defScope s_is_integer) :=
  ⟨rfl, rfl, rfl, by decide +kernel, rfl, by decide +kernel, by decide +kernel⟩
abbrev s_is_between : Stmt := topS 2
theorem sc_is_between : FnScope ["thing", "least", "most"] ["thing", "least", "most"] (defScope s_is_between) :=
  ⟨rfl, rfl, rfl, by decide +kernel, rfl, by decide +kernel, by decide +kernel⟩
abbrev s_require_sender : Stmt := topS 32
theorem sc_require_sender : FnScope ["balances", "sender"] ["balances", "sender"] (defScope s_require_sender) :=
  ⟨rfl, rfl, rfl, by decide +kernel, rfl, by decide +kernel, by decide +kernel⟩
abbrev s_least_beside : Stmt := topS 19
theorem sc_least_beside : FnScope ["others", "budget", "least", "held", "need", "have"] ["others", "budget"] (defScope s_least_beside) :=
  ⟨rfl, rfl, rfl, by decide +kernel, rfl, by decide +kernel, by decide +kernel⟩
abbrev s_spare_at : Stmt := topS 35
theorem sc_spare_at : FnScope ["balances", "budget", "sender"] ["balances", "budget", "sender"] (defScope s_spare_at) :=
  ⟨rfl, rfl, rfl, by decide +kernel, rfl, by decide +kernel, by decide +kernel⟩
abbrev s_spare : Stmt := topS 34
theorem sc_spare : FnScope ["balances", "budget", "sender"] ["balances", "budget", "sender"] (defScope s_spare) :=
  ⟨rfl, rfl, rfl, by decide +kernel, rfl, by decide +kernel, by decide +kernel⟩
abbrev s_spares : Stmt := topS 36
theorem sc_spares : FnScope ["balances", "budget", "sender"] ["balances", "budget"] (defScope s_spares) :=
  ⟨rfl, rfl, rfl, by decide +kernel, rfl, by decide +kernel, by decide +kernel⟩
abbrev s_total_spare : Stmt := topS 37
theorem sc_total_spare : FnScope ["balances", "budget"] ["balances", "budget"] (defScope s_total_spare) :=
  ⟨rfl, rfl, rfl, by decide +kernel, rfl, by decide +kernel, by decide +kernel⟩
abbrev s_entry : Stmt := topS 38
theorem sc_entry : FnScope ["balances", "budget"] ["balances", "budget"] (defScope s_entry) :=
  ⟨rfl, rfl, rfl, by decide +kernel, rfl, by decide +kernel, by decide +kernel⟩
abbrev s_greatest_budget : Stmt := topS 39
theorem sc_greatest_budget : FnScope ["balances", "low", "high", "middle"] ["balances"] (defScope s_greatest_budget) :=
  ⟨rfl, rfl, rfl, by decide +kernel, rfl, by decide +kernel, by decide +kernel⟩
abbrev s_dearest_first : Stmt := topS 22
theorem sc_dearest_first : FnScope ["prices", "at"] ["prices"] (defScope s_dearest_first) :=
  ⟨rfl, rfl, rfl, by decide +kernel, rfl, by decide +kernel, by decide +kernel⟩
abbrev s_raised : Stmt := topS 21
theorem sc_raised : FnScope ["balances", "prices", "budget", "found", "taken", "sender"] ["balances", "prices", "budget"] (defScope s_raised) :=
  ⟨rfl, rfl, rfl, by decide +kernel, rfl, by decide +kernel, by decide +kernel⟩
abbrev s_raise_cost : Stmt := topS 23
theorem sc_raise_cost : FnScope ["balances", "prices", "other", "before", "price", "after"] ["balances", "prices", "other"] (defScope s_raise_cost) :=
  ⟨rfl, rfl, rfl, by decide +kernel, rfl, by decide +kernel, by decide +kernel⟩
abbrev s_withdrawn : Stmt := topS 41
theorem sc_withdrawn : FnScope ["balances", "values", "budget", "found", "sender"] ["balances", "values", "budget"] (defScope s_withdrawn) :=
  ⟨rfl, rfl, rfl, by decide +kernel, rfl, by decide +kernel, by decide +kernel⟩
abbrev s_withdrawal_value : Stmt := topS 42
theorem sc_withdrawal_value : FnScope ["balances", "values", "other", "before", "value", "after"] ["balances", "values", "other"] (defScope s_withdrawal_value) :=
  ⟨rfl, rfl, rfl, by decide +kernel, rfl, by decide +kernel, by decide +kernel⟩
abbrev s_is_senders : Stmt := topS 3
theorem sc_is_senders : FnScope ["thing", "count", "low", "high", "part"] ["thing", "count"] (defScope s_is_senders) :=
  ⟨rfl, rfl, rfl, by decide +kernel, rfl, by decide +kernel, by decide +kernel⟩
abbrev s_slack : Stmt := topS 16
theorem sc_slack : FnScope ["balances", "budget", "senders", "at"] ["balances", "budget", "senders"] (defScope s_slack) :=
  ⟨rfl, rfl, rfl, by decide +kernel, rfl, by decide +kernel, by decide +kernel⟩
abbrev s_weakest_set : Stmt := topS 26
theorem sc_weakest_set : FnScope ["balances", "budget", "among", "order", "held", "lacks", "most", "need", "have", "at"] ["balances", "budget", "among"] (defScope s_weakest_set) :=
  ⟨rfl, rfl, rfl, by decide +kernel, rfl, by decide +kernel, by decide +kernel⟩
abbrev s_rows_of_falls : Stmt := topS 25
theorem sc_rows_of_falls : FnScope ["prices", "groups", "ordered", "rows", "senders", "price", "following", "sender", "multiplier"] ["prices", "groups"] (defScope s_rows_of_falls) :=
  ⟨rfl, rfl, rfl, by decide +kernel, rfl, by decide +kernel, by decide +kernel⟩
abbrev s_lower_bound : Stmt := topS 24
theorem sc_lower_bound : FnScope ["balances", "prices", "budget", "order", "groups", "at"] ["balances", "prices", "budget"] (defScope s_lower_bound) :=
  ⟨rfl, rfl, rfl, by decide +kernel, rfl, by decide +kernel, by decide +kernel⟩
abbrev s_tightest_set : Stmt := topS 44
theorem sc_tightest_set : FnScope ["balances", "budget", "taken", "others", "rest", "choices", "at", "more", "senders"] ["balances", "budget", "taken"] (defScope s_tightest_set) :=
  ⟨rfl, rfl, rfl, by decide +kernel, rfl, by decide +kernel, by decide +kernel⟩
abbrev s_upper_bound : Stmt := topS 43
theorem sc_upper_bound : FnScope ["balances", "values", "budget", "order", "groups", "at"] ["balances", "values", "budget"] (defScope s_upper_bound) :=
  ⟨rfl, rfl, rfl, by decide +kernel, rfl, by decide +kernel, by decide +kernel⟩
abbrev s_is_row : Stmt := topS 29
theorem sc_is_row : FnScope ["thing", "count", "multiplier", "senders"] ["thing", "count"] (defScope s_is_row) :=
  ⟨rfl, rfl, rfl, by decide +kernel, rfl, by decide +kernel, by decide +kernel⟩
abbrev s_is_rows : Stmt := topS 28
theorem sc_is_rows : FnScope ["thing", "count", "groups", "multiplier", "senders", "row"] ["thing", "count"] (defScope s_is_rows) :=
  ⟨rfl, rfl, rfl, by decide +kernel, rfl, by decide +kernel, by decide +kernel⟩
abbrev s_loads : Stmt := topS 30
theorem sc_loads : FnScope ["rows", "count", "at", "found", "multiplier", "senders"] ["rows", "count"] (defScope s_loads) :=
  ⟨rfl, rfl, rfl, by decide +kernel, rfl, by decide +kernel, by decide +kernel⟩
abbrev s_shows_lower_bound : Stmt := topS 27
theorem sc_shows_lower_bound : FnScope ["balances", "prices", "budget", "amount", "thing", "load", "price", "multiplier", "senders"] ["balances", "prices", "budget", "amount", "thing"] (defScope s_shows_lower_bound) :=
  ⟨rfl, rfl, rfl, by decide +kernel, rfl, by decide +kernel, by decide +kernel⟩
abbrev s_shows_upper_bound : Stmt := topS 45
theorem sc_shows_upper_bound : FnScope ["balances", "values", "budget", "amount", "thing", "load", "value", "multiplier", "senders"] ["balances", "values", "budget", "amount", "thing"] (defScope s_shows_upper_bound) :=
  ⟨rfl, rfl, rfl, by decide +kernel, rfl, by decide +kernel, by decide +kernel⟩
abbrev s__law_take : Stmt := topS 48
theorem sc__law_take : FnScope ["_law_hand_here", "_law_many", "_law_digit", "_law_prime", "_law_drawn"] ["_law_hand_here", "_law_many"] (defScope s__law_take) :=
  ⟨rfl, rfl, rfl, by decide +kernel, rfl, by decide +kernel, by decide +kernel⟩
abbrev s__law_of : Stmt := topS 49
theorem sc__law_of : FnScope ["_law_hand_here", "_law_some"] ["_law_hand_here", "_law_some"] (defScope s__law_of) :=
  ⟨rfl, rfl, rfl, by decide +kernel, rfl, by decide +kernel, by decide +kernel⟩
abbrev s__law_hand : Stmt := topS 47
theorem sc__law_hand : FnScope ["_law_script", "_law_k", "_law_cell", "_law_great"] ["_law_script", "_law_k"] (defScope s__law_hand) :=
  ⟨rfl, rfl, rfl, by decide +kernel, rfl, by decide +kernel, by decide +kernel⟩
abbrev s__law_rows : Stmt := topS 50
theorem sc__law_rows : FnScope ["_law_count", "_law_rate", "_law_found"] ["_law_count", "_law_rate"] (defScope s__law_rows) :=
  ⟨rfl, rfl, rfl, by decide +kernel, rfl, by decide +kernel, by decide +kernel⟩
abbrev s__law_mixed : Stmt := topS 52
theorem sc__law_mixed : FnScope ["_law_hand_here", "_law_some", "_law_left", "_law_found"] ["_law_hand_here", "_law_some"] (defScope s__law_mixed) :=
  ⟨rfl, rfl, rfl, by decide +kernel, rfl, by decide +kernel, by decide +kernel⟩
abbrev s__law_gap : Stmt := topS 51
theorem sc__law_gap : FnScope ["_law_held", "_law_rate", "_law_total", "_law_at", "_law_balance", "_law_due"] ["_law_held", "_law_rate"] (defScope s__law_gap) :=
  ⟨rfl, rfl, rfl, by decide +kernel, rfl, by decide +kernel, by decide +kernel⟩
abbrev s__law_near : Stmt := topS 53
theorem sc__law_near : FnScope ["_law_hand_here", "_law_count", "_law_rate", "_law_rows_here", "_law_found", "_law_turn", "_law_giver", "_law_taker", "_law_portion", "_law_at", "_law_k"] ["_law_hand_here", "_law_count", "_law_rate"] (defScope s__law_near) :=
  ⟨rfl, rfl, rfl, by decide +kernel, rfl, by decide +kernel, by decide +kernel⟩
abbrev s__law_safe_case : Stmt := topS 54
theorem sc__law_safe_case : FnScope ["_law_hand_here", "_law_most", "_law_count", "_law_great", "_law_rate", "_law_found", "_law_rows_here", "_law_size", "_law_lowest", "_law_lacking", "_law_one"] ["_law_hand_here", "_law_most"] (defScope s__law_safe_case) :=
  ⟨rfl, rfl, rfl, by decide +kernel, rfl, by decide +kernel, by decide +kernel⟩
abbrev s__law_amounts : Stmt := topS 55
theorem sc__law_amounts : FnScope ["_law_hand_here", "_law_count", "_law_way", "_law_at"] ["_law_hand_here", "_law_count"] (defScope s__law_amounts) :=
  ⟨rfl, rfl, rfl, by decide +kernel, rfl, by decide +kernel, by decide +kernel⟩
abbrev s__law_prices_right : Stmt := topS 56
theorem sc__law_prices_right : FnScope ["_law_less", "_law_weights", "_law_level", "_law_top", "_law_rows_here", "_law_cost", "_law_told"] ["_law_less", "_law_weights", "_law_level"] (defScope s__law_prices_right) :=
  ⟨rfl, rfl, rfl, by decide +kernel, rfl, by decide +kernel, by decide +kernel⟩
abbrev s__law_withdrawals_right : Stmt := topS 57
theorem sc__law_withdrawals_right : FnScope ["_law_some", "_law_weights", "_law_level", "_law_low", "_law_rows_here", "_law_worth", "_law_told"] ["_law_some", "_law_weights", "_law_level"] (defScope s__law_withdrawals_right) :=
  ⟨rfl, rfl, rfl, by decide +kernel, rfl, by decide +kernel, by decide +kernel⟩
abbrev s__law_spares_right : Stmt := topS 58
theorem sc__law_spares_right : FnScope ["_law_some", "_law_level", "_law_told", "_law_due"] ["_law_some", "_law_level"] (defScope s__law_spares_right) :=
  ⟨rfl, rfl, rfl, by decide +kernel, rfl, by decide +kernel, by decide +kernel⟩
abbrev s_law : Stmt := topS 59
theorem sc_law : FnScope ["_law_script", "_law_k", "_law_hand_here", "_law_some", "_law_level", "_law_weights", "_law_less", "_law_one"] ["_law_script"] (defScope s_law) :=
  ⟨rfl, rfl, rfl, by decide +kernel, rfl, by decide +kernel, by decide +kernel⟩
section
variable {P : Program} {w : World} {K : PySem.W.Frag} {mg : Str → Option Value} {base : Heap}
/-! ### thresholds -/
def R (g : Int) : Nat → Int
  | 0 => 0
  | 1 => g
  | k + 2 => R g (k + 1) + g + (R g (k + 1) - 1) / ((k : Int) + 1)
def rows (g : Int) (n : Nat) : List Int := (List.range n).map fun i => R g (i + 1)
theorem rows_len (g : Int) (n : Nat) : (rows g n).length = n := by simp [rows]
theorem rows_succ (g : Int) (n : Nat) : rows g (n + 1) = rows g n ++ [R g (n + 1)] := by
  simp [rows, List.range_succ]
theorem R_succ (g : Int) (i : Nat) (h : 0 < i) : R g (i + 1) = R g i + g + (R g i - 1) / (i : Int) := by
  cases i with
  | zero => omega
  | succ k => rfl
theorem R_one (g : Int) : R g 1 = g := rfl
theorem R_zero (g : Int) : R g 0 = 0 := rfl
theorem rows_take (g : Int) (m n : Nat) (h : n ≤ m) : (rows g m).take n = rows g n := by
  unfold rows
  rw [← List.map_take, List.take_range, Nat.min_eq_left h]
theorem rows_get (g : Int) (n i : Nat) (h : i < n) : (rows g n).getD i 0 = R g (i + 1) := by
  unfold rows
  rw [List.getD_eq_getElem?_getD, List.getElem?_map, List.getElem?_range h]
  rfl
theorem R_pos {g : Int} (hg : 1 ≤ g) : ∀ n : Nat, 1 ≤ R g (n + 1)
  | 0 => hg
  | n + 1 => by
    have ih := R_pos hg n
    have h2 : 0 ≤ (R g (n + 1) - 1) / ((n : Int) + 1) := Int.ediv_nonneg (by omega) (by omega)
    show 1 ≤ R g (n + 1) + g + (R g (n + 1) - 1) / ((n : Int) + 1)
    omega
/-- T = R (k + 1) - g is the least sum with T - T / (k + 1) at least R k -/
theorem R_exact {g : Int} (hg : 1 ≤ g) (k : Nat) : (R g (k + 2) - g) - (R g (k + 2) - g) / ((k : Int) + 2) = R g (k + 1) ∧ (R g (k + 2) - g - 1) - (R g (k + 2) - g - 1) / ((k : Int) + 2) = R g (k + 1) - 1 := by
  have hp := R_pos hg k
  have e : R g (k + 2) = R g (k + 1) + g + (R g (k + 1) - 1) / ((k : Int) + 1) := rfl
  have hn : (0 : Int) < (k : Int) + 1 := by omega
  have h1 := Int.emod_add_mul_ediv (R g (k + 1) - 1) ((k : Int) + 1)
  have h2 := Int.emod_lt_of_pos (R g (k + 1) - 1) hn
  have h3 := Int.emod_nonneg (R g (k + 1) - 1) (Int.ne_of_gt hn)
  generalize hq : (R g (k + 1) - 1) / ((k : Int) + 1) = q at *
  generalize hs : (R g (k + 1) - 1) % ((k : Int) + 1) = s at *
  have e1 : R g (k + 2) - g = (s + 1) + ((k : Int) + 2) * q := by
    rw [e, show (k : Int) + 2 = ((k : Int) + 1) + 1 by omega, Int.add_mul, Int.one_mul]
    omega
  have e2 : R g (k + 2) - g - 1 = s + ((k : Int) + 2) * q := by omega
  have d1 : (R g (k + 2) - g) / ((k : Int) + 2) = q := by
    rw [e1, Int.add_mul_ediv_left _ _ (by omega), Int.ediv_eq_zero_of_lt (by omega) (by omega)]
    omega
  have d2 : (R g (k + 2) - g - 1) / ((k : Int) + 2) = q := by
    rw [e2, Int.add_mul_ediv_left _ _ (by omega), Int.ediv_eq_zero_of_lt (by omega) (by omega)]
    omega
  rw [d1, d2]
  omega
/-- the steps never fall -/
theorem R_steps {g : Int} (hg : 1 ≤ g) (k : Nat) : R g (k + 1) - R g k ≤ R g (k + 2) - R g (k + 1) := by
  cases k with
  | zero =>
    have e : R g 2 = g + g + (g - 1) / ((0 : Nat) + 1 : Int) := rfl
    have e2 : (g - 1) / (((0 : Nat) : Int) + 1) = g - 1 := by simp
    rw [R_zero, R_one, e, e2]
    omega
  | succ k =>
    have hp := R_pos hg k
    have e : R g (k + 2) = R g (k + 1) + g + (R g (k + 1) - 1) / ((k : Int) + 1) := rfl
    have e' : R g (k + 3) = R g (k + 2) + g + (R g (k + 2) - 1) / (((k + 1 : Nat) : Int) + 1) := rfl
    have hn : (0 : Int) < (k : Int) + 1 := by omega
    have h : (R g (k + 1) - 1) / ((k : Int) + 1) ≤ (R g (k + 2) - 1) / (((k + 1 : Nat) : Int) + 1) := by
      rw [Int.le_ediv_iff_mul_le (by omega), e]
      have h1 := Int.emod_add_mul_ediv (R g (k + 1) - 1) ((k : Int) + 1)
      have h3 := Int.emod_nonneg (R g (k + 1) - 1) (Int.ne_of_gt hn)
      generalize (R g (k + 1) - 1) / ((k : Int) + 1) = q at *
      rw [show ((k + 1 : Nat) : Int) + 1 = ((k : Int) + 1) + 1 by omega, Int.mul_comm, Int.add_mul, Int.one_mul]
      omega
    show R g (k + 2) - R g (k + 1) ≤ R g (k + 3) - R g (k + 2)
    omega
theorem R_mono {g : Int} (hg : 1 ≤ g) : ∀ (i j : Nat), i ≤ j → R g (i + 1) - R g i ≤ R g (j + 1) - R g j
  | i, j, h => by
    induction j with
    | zero =>
      have : i = 0 := by omega
      subst this
      exact Int.le_refl _
    | succ j ih =>
      by_cases e : i = j + 1
      · subst e
        exact Int.le_refl _
      · exact Int.le_trans (ih (by omega)) (R_steps hg j)
theorem sorted_eq {a b : List Int} (p : a.Perm b) (ha : a.Pairwise (· ≤ ·)) (hb : b.Pairwise (· ≤ ·)) : a = b :=
  p.eq_of_pairwise (fun _ _ _ _ h1 h2 => Int.le_antisymm h1 h2) ha hb
theorem R_le {g : Int} (hg : 1 ≤ g) : ∀ n : Nat, R g n ≤ g * ((n : Int) * n)
  | 0 => by rw [R_zero]; simp
  | 1 => by rw [R_one]; simp
  | n + 2 => by
    have ih := R_le hg (n + 1)
    have hp := R_pos hg n
    have hn : (0 : Int) < (n : Int) + 1 := by omega
    have e : R g (n + 2) = R g (n + 1) + g + (R g (n + 1) - 1) / ((n : Int) + 1) := rfl
    have h1 : (R g (n + 1) - 1) / ((n : Int) + 1) ≤ g * ((n : Int) + 1) := by
      apply Int.ediv_le_of_le_mul hn
      rw [Int.mul_assoc]
      have : ((n + 1 : Nat) : Int) = (n : Int) + 1 := by omega
      rw [this] at ih
      omega
    rw [e]
    have c1 : ((n + 1 : Nat) : Int) = (n : Int) + 1 := by omega
    have c2 : ((n + 2 : Nat) : Int) = ((n : Int) + 1) + 1 := by omega
    rw [c1] at ih
    rw [c2]
    generalize (n : Int) + 1 = m at *
    have : g * ((m + 1) * (m + 1)) = g * (m * m) + g * m + g * m + g := by
      rw [Int.mul_add, Int.mul_one, Int.add_mul, Int.one_mul]
      simp only [Int.mul_add, Int.mul_one]
      omega
    have hgm : 0 ≤ g * m := Int.mul_nonneg (by omega) (by omega)
    omega
theorem R_nn {g : Int} (hg : 1 ≤ g) (n : Nat) : 0 ≤ R g n := by
  cases n with
  | zero => exact Int.le_refl _
  | succ n => exact Int.le_trans (by decide) (R_pos hg n)
theorem R_small {g : Int} (hg : 1 ≤ g) (hg2 : g ≤ 1000000) {n : Nat} (hn : n ≤ 1000) : R g n ≤ 1000000000000 := by
  have h := R_le hg n
  have h2 : ((n : Int) * n) ≤ 1000 * 1000 := Int.mul_le_mul (by omega) (by omega) (by omega) (by omega)
  have h3 : g * ((n : Int) * n) ≤ 1000000 * (1000 * 1000) := Int.mul_le_mul hg2 h2 (Int.mul_nonneg (by omega) (by omega)) (by omega)
  omega
theorem rows_abs {g : Int} (hg : 1 ≤ g) (hg2 : g ≤ 1000000) {n : Nat} (hn : n ≤ 1000) : ∀ i ∈ rows g n, i.natAbs < 2 ^ 100 := by
  intro i hi
  obtain ⟨j, hj, rfl⟩ := List.mem_map.mp hi
  have := List.mem_range.mp hj
  have h1 := R_small hg hg2 (n := j + 1) (by omega)
  have h2 := R_nn hg (j + 1)
  omega
def sp_thresholds (K : PySem.W.Frag) : Sp := fun vs H Q _ => ∃ (n : Nat) (g : Int), vs = [.int (n : Int), .int g] ∧ n ≤ 1000 ∧
  ∀ p H', H p = none → Kp [] H H' → H' p = some (.tup ((rows g n).map V.int)) → Q (.ref p) H'
theorem ok_thresholds {f : Addr} {fd : FuncData} {k : Nat} (F : Fun K "thresholds" "thresholds" s_thresholds f fd) (m_range : mg "range" = none) (m_tuple : mg "tuple" = none) :
    FnG P w K mg base CX0 (k + 1) f fd ["count", "budget"] (sp_thresholds K) := by
  refine ok0 F sc_thresholds (fun vs H Q E h => ?_) (fun cdv A outer s H vs Q E gd hr h => ?_)
  · obtain ⟨n, g, rfl, _⟩ := h
    rfl
  · obtain ⟨n, g, rfl, hn, q⟩ := h
    refine ⟨_, (pss_cons (ps_set (i := 2) sc_thresholds.nd rfl (.inl rfl) (pe_li pa_nil))
      (pss_cons (ps_set (i := 3) sc_thresholds.nd rfl (.inl rfl) pe_int)
      (pss_cons (ps_forW PassesOwn.never rfl (pi_range1 (by rfl) m_range (pa_cons (pv 0) pa_nil)) (pg_name (i := 4) sc_thresholds.nd rfl (.inl rfl))
      (pss_cons (ps_set (i := 5) sc_thresholds.nd rfl (.inl rfl) (pe_ifI (pt_cmpR op_gt (pv 4) pe_int (nomark _)) (pe_op op_fdiv (pe_op op_sub (pv 3) pe_int) (pv 4)) pe_int))
      (pss_cons (ps_aug (i := 3) sc_thresholds.nd rfl (.inl rfl) (pe_op op_add (pv 1) (pv 5)) ip_add)
      (pss_one (ps_expr (pe_bm PySem.F.plainAttrs_list PySem.F.slot_list_append PySem.F.type_list_append mt_appI (pv 2) (pa_cons (pv 3) pa_nil)))))))
      (pss_one (ps_ret (pe_callTy (call_tupLK (K := K) rfl) (by rfl) m_tuple (by decide +kernel) (pa_cons (pv 2) pa_nil))))))), ?_⟩
    refine ⟨[], rfl, Nat.zero_le _, fun p H1 np k1 h1 => ?_⟩
    refine ⟨_, rfl, _, rfl, by omega, by omega, ?_⟩
    refine ⟨_, _, _, walk_range, fun i σ H2 => ∃ (r : Int) (ns : List Int) (y4 y5 : Option V), σ = [some (.int (n : Int)), some (.int g), some (.ref p), some (.int r), y4, y5] ∧ Kp [] H H2 ∧ IL H2 p ns ∧ r = R g i ∧ ns = rows g i, ⟨_, _, _, _, rfl, k1, h1, rfl, rfl⟩, fun _ _ _ _ _ => trivial, ?_, ?_⟩
    · rintro i x σ H2 _ hi ⟨r, ns, y4, y5, rfl, k2, h2, er, en⟩ ⟨rfl, rfl⟩
      have hl : ns.length < sizeLine := by rw [en, rows_len]; exact small1000 (by omega)
      refine ⟨fun v => r + (g + v) = R g (i + 1), ⟨_, rfl, _, _, rfl, rfl, _, rfl, ite2 (fun e => ?_) (fun e => ?_)⟩, fun v hv => ?_⟩
      · have e' := of_decide_eq_true e
        refine ⟨_, rfl, _, _, rfl, rfl, _, rfl, _, _, rfl, rfl, ⟨by omega, by omega⟩, _, rfl, rfl, ?_⟩
        show r + (g + (r - 1) / (0 + (i : Int))) = _
        rw [R_succ g i (by omega), er, Int.zero_add]
        omega
      · have e' : ¬ (0 : Int) < 0 + (i : Int) := fun z => e (decide_eq_true z)
        refine ⟨_, rfl, rfl, ?_⟩
        have : i = 0 := by omega
        subst this
        rw [er, R_one, R_zero]
        omega
      refine ⟨_, rfl, _, rfl, _, rfl, _, _, rfl, rfl, _, _, rfl, rfl, ?_⟩
      refine ⟨_, rfl, .inl ⟨rfl, _, sqL h2⟩, _, rfl, _, _, _, rfl, rfl, h2, hl, fun H3 m3 h3 => ?_⟩
      exact ⟨_, _, _, _, rfl, k2.md (.inl np) m3, h3, hv, by rw [rows_succ, en, ← hv]⟩
    · rintro σ H2 ⟨r, ns, y4, y5, rfl, k2, h2, er, en⟩
      refine ⟨_, rfl, _, _, rfl, sqL h2, fun t H3 nt k3 h3 => ?_⟩
      exact q t H3 (k2.free0 nt) (k2.trans k3) (en ▸ h3)
def sp_threshold (K : PySem.W.Frag) : Sp := fun vs H Q _ => ∃ (n : Nat) (g : Int), vs = [.int (n : Int), .int g] ∧ n ≤ 1000 ∧
  ∀ H', Kp [] H H' → Q (.int (R g n)) H'
theorem ok_threshold {f : Addr} {fd : FuncData} {k : Nat} (F : Fun K "threshold" "threshold" s_threshold f fd) (C_thresholds : Cl P w K mg base CX0 1 "thresholds" 2 (sp_thresholds K)) :
    FnG P w K mg base CX0 (k + 2) f fd ["size", "budget"] (sp_threshold K) := by
  refine ok0 F sc_threshold (fun vs H Q E h => ?_) (fun cdv A outer s H vs Q E gd hr h => ?_)
  · obtain ⟨n, g, rfl, _⟩ := h
    rfl
  · obtain ⟨n, g, rfl, hn, q⟩ := h
    refine ⟨_, (pss_cons (ps_if (pt_cmpR op_eq (pv 0) pe_int (nomark _))
      (pss_one (ps_ret pe_int))
      pss_nil)
      (pss_one (ps_ret (pe_ix (ix_teK (K := K) rfl) (pe_cl C_thresholds (hr.mono (by omega)) gd pass0 (by rfl) (pa_cons (pv 0) (pa_cons (pv 1) pa_nil))) (pe_un un_neg pe_int) (fun _ _ => rfl))))), ?_⟩
    refine ⟨_, rfl, rfl, _, rfl, ite2 (fun e => ?_) (fun e => ?_)⟩
    · have e' : (n : Int) = 0 := V.int.inj (of_decide_eq_true e)
      have : n = 0 := by omega
      subst this
      exact q H Kp.refl
    · have e' : ¬ (n : Int) = 0 := fun z => e (decide_eq_true (by rw [z]))
      refine ⟨_, rfl, _, rfl, n, g, rfl, hn, fun p H1 np k1 h1 => ?_⟩
      refine ⟨_, rfl, p, rows g n, _, rfl, rfl, sqT h1, ⟨rfl, by rw [rows_len]; omega⟩, ?_⟩
      rw [rows_len, rows_get g n (n - 1) (by omega), show n - 1 + 1 = n by omega]
      exact q H1 k1
/-! ### the first size whose smallest balances fall below their threshold, by the law -/
def gapFrom (g : Int) : Nat → Int → List Int → Option Nat
  | _, _, [] => none
  | i, t, b :: r => if t + b < R g (i + 1) then some (i + 1) else gapFrom g (i + 1) (t + b) r
def srt (ns : List Int) : List Int := ns.mergeSort (fun a b => decide (a ≤ b))
theorem srt_perm (ns : List Int) : (srt ns).Perm ns := List.mergeSort_perm _ _
theorem srt_sorted (ns : List Int) : (srt ns).Pairwise (· ≤ ·) := by
  have h := List.pairwise_mergeSort (le := fun a b : Int => decide (a ≤ b)) (fun a b c h1 h2 => decide_eq_true (Int.le_trans (of_decide_eq_true h1) (of_decide_eq_true h2)))
    (fun a b => by rcases Int.le_total a b with z | z <;> simp [z]) ns
  exact h.imp fun {a b} z => of_decide_eq_true z
theorem srt_eq {ns ms : List Int} (p : ms.Perm ns) (s : ms.Pairwise (· ≤ ·)) : ms = srt ns := sorted_eq (p.trans (srt_perm ns).symm) s (srt_sorted ns)
theorem srt_len (ns : List Int) : (srt ns).length = ns.length := (srt_perm ns).length_eq
/-- the least k with S(k) < R(k), if there is one -/
def gapOf (g : Int) (ns : List Int) : Option Nat := gapFrom g 0 0 (srt ns)
def optV : Option Nat → V
  | none => .non
  | some k => .int (k : Int)
theorem gap_step {g : Int} {ms : List Int} {i : Nat} {t : Int} (h : i < ms.length) :
    gapFrom g i t (ms.drop i) = if t + ms.getD i 0 < R g (i + 1) then some (i + 1) else gapFrom g (i + 1) (t + ms.getD i 0) (ms.drop (i + 1)) := by
  rw [List.drop_eq_getElem_cons h, List.getD_eq_getElem?_getD, List.getElem?_eq_getElem h]
  rfl
/-! ### sums of the k smallest -/
def SS (ns : List Int) (k : Nat) : Int := ((srt ns).take k).sum
theorem srt_congr {a b : List Int} (p : a.Perm b) : srt a = srt b := (srt_eq ((srt_perm a).trans p) (srt_sorted a))
theorem SS_congr {a b : List Int} (p : a.Perm b) (k : Nat) : SS a k = SS b k := by
  unfold SS
  rw [srt_congr p]
theorem gap_congr {g : Int} {a b : List Int} (p : a.Perm b) : gapOf g a = gapOf g b := by
  unfold gapOf
  rw [srt_congr p]
theorem take_sum_succ (ms : List Int) (k : Nat) (h : k < ms.length) : (ms.take (k + 1)).sum = (ms.take k).sum + ms.getD k 0 := by
  rw [List.take_add_one, List.getElem?_eq_getElem h, List.sum_append, List.getD_eq_getElem?_getD, List.getElem?_eq_getElem h]
  simp
theorem perm_sum {a b : List Int} (p : a.Perm b) : a.sum = b.sum := by
  induction p with
  | nil => rfl
  | cons x _ ih => rw [List.sum_cons, List.sum_cons, ih]
  | swap x y l =>
    simp only [List.sum_cons]
    omega
  | trans _ _ h1 h2 => exact h1.trans h2
/-- the k first of a sorted list sum to no more than any k of it -/
theorem sorted_min : ∀ (ms l l' : List Int), ms.Pairwise (· ≤ ·) → (l ++ l').Perm ms → (ms.take l.length).sum ≤ l.sum
  | [], l, l', _, p => by
    have h := p.length_eq
    have e : l = [] := by
      cases l with
      | nil => rfl
      | cons x r => simp at h
    subst e
    simp
  | x :: r, l, l', s, p => by
    have sr := (List.pairwise_cons.mp s).2
    have sx := (List.pairwise_cons.mp s).1
    by_cases hx : x ∈ l
    · have pl : l.Perm (x :: l.erase x) := List.perm_cons_erase hx
      have p2 : (x :: (l.erase x ++ l')).Perm (x :: r) := by
        have := (pl.append_right l').symm.trans p
        simpa using this
      have ih := sorted_min r (l.erase x) l' sr p2.cons_inv
      have hs : l.sum = x + (l.erase x).sum := by
        rw [perm_sum pl, List.sum_cons]
      have hl : l.length = (l.erase x).length + 1 := by
        rw [pl.length_eq]
        simp
      rw [hl, hs, List.take_succ_cons, List.sum_cons]
      omega
    · have hx2 : x ∈ l' := by
        have : x ∈ l ++ l' := p.mem_iff.mpr List.mem_cons_self
        rcases List.mem_append.mp this with z | z
        · exact absurd z hx
        · exact z
      have pl : l'.Perm (x :: l'.erase x) := List.perm_cons_erase hx2
      have p2 : (x :: (l ++ l'.erase x)).Perm (x :: r) := by
        have h1 : (l ++ l').Perm (l ++ x :: l'.erase x) := pl.append_left l
        have h2 : (l ++ x :: l'.erase x).Perm (x :: (l ++ l'.erase x)) := List.perm_middle
        exact (h1.trans h2).symm.trans p
      have p3 := p2.cons_inv
      have ih := sorted_min r l (l'.erase x) sr p3
      have hl := p3.length_eq
      rw [List.length_append] at hl
      cases e : l.length with
      | zero => 
        rw [e] at ih
        simpa using ih
      | succ k =>
        rw [e] at ih hl
        rw [List.take_succ_cons, List.sum_cons]
        rw [take_sum_succ r k (by omega)] at ih
        have hk : x ≤ r.getD k 0 := by
          rw [List.getD_eq_getElem?_getD, List.getElem?_eq_getElem (show k < r.length by omega)]
          exact sx _ (List.getElem_mem _)
        omega
theorem SS_min {ns l l' : List Int} (p : (l ++ l').Perm ns) : SS ns l.length ≤ l.sum :=
  sorted_min (srt ns) l l' (srt_sorted ns) (p.trans (srt_perm ns).symm)
theorem SS_is (ns : List Int) (k : Nat) (h : k ≤ ns.length) : ∃ l l' : List Int, (l ++ l').Perm ns ∧ l.length = k ∧ l.sum = SS ns k := by
  refine ⟨(srt ns).take k, (srt ns).drop k, ?_, ?_, rfl⟩
  · rw [List.take_append_drop]
    exact srt_perm ns
  · rw [List.length_take, srt_len]
    omega
/-- no gap: each sum of the k smallest reaches its threshold -/
theorem gapFrom_none {g : Int} : ∀ (ms : List Int) (i : Nat) (t : Int), gapFrom g i t ms = none ↔ ∀ k, k < ms.length → R g (i + k + 1) ≤ t + (ms.take (k + 1)).sum
  | [], i, t => by simp [gapFrom]
  | b :: r, i, t => by
    unfold gapFrom
    by_cases c : t + b < R g (i + 1)
    · rw [if_pos c]
      constructor
      · intro h
        cases h
      · intro h
        have := h 0 (by simp)
        simp at this
        omega
    · rw [if_neg c, gapFrom_none r (i + 1) (t + b)]
      constructor
      · intro h k hk
        cases k with
        | zero => simp; omega
        | succ k =>
          have := h k (by simpa using hk)
          rw [List.take_succ_cons, List.sum_cons, show i + (k + 1) + 1 = i + 1 + k + 1 by omega]
          omega
      · intro h k hk
        have := h (k + 1) (by simpa using hk)
        rw [List.take_succ_cons, List.sum_cons, show i + (k + 1) + 1 = i + 1 + k + 1 by omega] at this
        omega
theorem gap_none {g : Int} {ns : List Int} : gapOf g ns = none ↔ ∀ k, 1 ≤ k → k ≤ ns.length → R g k ≤ SS ns k := by
  unfold gapOf
  rw [gapFrom_none, srt_len]
  constructor
  · intro h k h1 h2
    have := h (k - 1) (by omega)
    rw [show 0 + (k - 1) + 1 = k by omega, show k - 1 + 1 = k by omega] at this
    unfold SS
    omega
  · intro h k hk
    have := h (k + 1) (by omega) (by omega)
    unfold SS at this
    rw [show 0 + k + 1 = k + 1 by omega]
    omega
/-- pointwise at most -/
inductive Pw : List Int → List Int → Prop
  | nil : Pw [] []
  | cons {x y : Int} {r t : List Int} : x ≤ y → Pw r t → Pw (x :: r) (y :: t)
theorem Pw.refl : ∀ l : List Int, Pw l l
  | [] => .nil
  | x :: r => .cons (Int.le_refl x) (Pw.refl r)
theorem Pw.length : ∀ {a b : List Int}, Pw a b → a.length = b.length
  | _, _, .nil => rfl
  | _, _, .cons _ h => by rw [List.length_cons, List.length_cons, h.length]
theorem Pw.perm {a b c : List Int} (h : Pw a b) (p : b.Perm c) : ∃ d, a.Perm d ∧ Pw d c := by
  induction p generalizing a with
  | nil =>
    cases h
    exact ⟨[], .refl _, .nil⟩
  | cons x _ ih =>
    cases h with
    | cons hx ht =>
      obtain ⟨d, h1, h2⟩ := ih ht
      exact ⟨_, h1.cons _, .cons hx h2⟩
  | swap x y l =>
    cases h with
    | cons hx ht =>
      cases ht with
      | cons hy ht =>
        exact ⟨_, .swap _ _ _, .cons hy (.cons hx ht)⟩
  | trans _ _ ih1 ih2 =>
    obtain ⟨d, h1, h2⟩ := ih1 h
    obtain ⟨e, h3, h4⟩ := ih2 h2
    exact ⟨e, h1.trans h3, h4⟩
theorem Pw.split : ∀ {a : List Int} (l l' : List Int), Pw a (l ++ l') → ∃ m m', a = m ++ m' ∧ Pw m l ∧ Pw m' l'
  | a, [], l', h => ⟨[], a, rfl, .nil, h⟩
  | _, x :: l, l', .cons hx ht => by
    obtain ⟨m, m', e, h1, h2⟩ := Pw.split l l' ht
    exact ⟨_ :: m, m', by rw [e]; rfl, .cons hx h1, h2⟩
theorem Pw.sum : ∀ {a b : List Int}, Pw a b → a.sum ≤ b.sum
  | _, _, .nil => Int.le_refl _
  | _, _, .cons hx h => by
    rw [List.sum_cons, List.sum_cons]
    have := h.sum
    omega
theorem SS_mono {a b : List Int} (h : Pw a b) (k : Nat) (hk : k ≤ a.length) : SS a k ≤ SS b k := by
  obtain ⟨l, l', p, hl, hs⟩ := SS_is b k (by rw [← h.length]; exact hk)
  obtain ⟨d, p2, h2⟩ := h.perm p.symm
  obtain ⟨m, m', e, h3, _⟩ := h2.split l l'
  subst e
  have := SS_min p2.symm
  rw [h3.length, hl] at this
  have := h3.sum
  omega
theorem gap_mono {g : Int} {a b : List Int} (h : Pw a b) (e : gapOf g a = none) : gapOf g b = none := by
  rw [gap_none] at e ⊢
  intro k h1 h2
  have h3 := h.length
  exact Int.le_trans (e k h1 (by omega)) (SS_mono h k (by omega))
/-! ### the sums of the k smallest, one by one -/
def psums : Int → List Int → List Int
  | _, [] => []
  | t, b :: r => (t + b) :: psums (t + b) r
theorem psums_len : ∀ (t : Int) (ms : List Int), (psums t ms).length = ms.length
  | _, [] => rfl
  | t, b :: r => by
    show (psums (t + b) r).length + 1 = r.length + 1
    rw [psums_len]
theorem psums_get : ∀ (t : Int) (ms : List Int) (i : Nat), i < ms.length → (psums t ms).getD i 0 = t + (ms.take (i + 1)).sum
  | _, [], _, h => absurd h (Nat.not_lt_zero _)
  | t, b :: r, 0, _ => by
    show t + b = t + (b + 0)
    omega
  | t, b :: r, i + 1, h => by
    show (psums (t + b) r).getD i 0 = t + (b + (r.take (i + 1)).sum)
    rw [psums_get (t + b) r i (by simpa using h)]
    omega
theorem psums_take : ∀ (t : Int) (ms : List Int) (i : Nat), i < ms.length → (psums t ms).take (i + 1) = (psums t ms).take i ++ [t + (ms.take (i + 1)).sum]
  | _, [], _, h => absurd h (Nat.not_lt_zero _)
  | t, b :: r, 0, _ => by
    show [t + b] = [t + (b + 0)]
    rw [Int.add_zero]
  | t, b :: r, i + 1, h => by
    show (t + b) :: (psums (t + b) r).take (i + 1) = (t + b) :: ((psums (t + b) r).take i ++ [t + (b + (r.take (i + 1)).sum)])
    rw [psums_take (t + b) r i (by simpa using h), Int.add_assoc]
def own (ns : List Int) : List Int := psums 0 (srt ns)
theorem own_get (ns : List Int) (k : Nat) (h1 : 1 ≤ k) (h2 : k ≤ ns.length) : (own ns).getD (k - 1) 0 = SS ns k := by
  unfold own SS
  rw [psums_get 0 (srt ns) (k - 1) (by rw [srt_len]; omega), show k - 1 + 1 = k by omega]
  omega
theorem gap_range {g : Int} {ns : List Int} {k : Nat} (h : gapOf g ns = some k) : 1 ≤ k ∧ k ≤ ns.length := by
  have : ∀ (ms : List Int) (i : Nat) (t : Int), gapFrom g i t ms = some k → i < k ∧ k ≤ i + ms.length := by
    intro ms
    induction ms with
    | nil =>
      intro i t h
      simp [gapFrom] at h
    | cons b r ih =>
      intro i t h
      unfold gapFrom at h
      by_cases c : t + b < R g (i + 1)
      · rw [if_pos c] at h
        cases h
        exact ⟨by omega, by rw [List.length_cons]; omega⟩
      · rw [if_neg c] at h
        have := ih (i + 1) (t + b) h
        rw [List.length_cons]
        omega
  have := this _ _ _ h
  rw [srt_len] at this
  omega
theorem take_sum_abs {B : Int} (hB : 0 ≤ B) : ∀ (ms : List Int) (k : Nat), (∀ x ∈ ms, 0 ≤ x ∧ x ≤ B) → 0 ≤ (ms.take k).sum ∧ (ms.take k).sum ≤ (ms.length : Int) * B
  | [], k, _ => by simp
  | x :: r, 0, _ => by
    refine ⟨by simp, ?_⟩
    show (0 : Int) ≤ _
    exact Int.mul_nonneg (by omega) hB
  | x :: r, k + 1, h => by
    have ih := take_sum_abs hB r k (fun y hy => h y (List.mem_cons_of_mem _ hy))
    have hx := h x List.mem_cons_self
    rw [List.take_succ_cons, List.sum_cons, List.length_cons]
    have e : ((r.length + 1 : Nat) : Int) * B = (r.length : Int) * B + B := by
      rw [Int.natCast_add, Int.add_mul]
      simp
    rw [e]
    omega
theorem SS_abs {ns : List Int} (hl : ns.length ≤ 40) (h : ∀ x ∈ ns, 0 ≤ x ∧ x ≤ 10 ^ 13) (k : Nat) : 0 ≤ SS ns k ∧ SS ns k ≤ 10 ^ 15 := by
  have := take_sum_abs (B := 10 ^ 13) (by decide) (srt ns) k (fun x hx => h x ((srt_perm ns).mem_iff.mp hx))
  rw [srt_len] at this
  have h2 : (ns.length : Int) * 10 ^ 13 ≤ 40 * 10 ^ 13 := Int.mul_le_mul_of_nonneg_right (by omega) (by decide)
  unfold SS
  omega
mutual
theorem dp_kp {K : PySem.W.Frag} {H H' : Hp} (k : Kp [] H H') : ∀ {v : V} {d : PyData}, Dp K H v d → Dp K H' v d
  | _, _, .non => .non
  | _, _, .bl b => .bl b
  | _, _, .int i => .int i
  | _, _, .str x => .str x
  | _, _, .lst s h => .lst (k.lst0 s) (dps_kp k h)
  | _, _, .tup s h => .tup (k.tup0 s) (dps_kp k h)
theorem dps_kp {K : PySem.W.Frag} {H H' : Hp} (k : Kp [] H H') : ∀ {vs : List V} {ds : List PyData}, DpAll K H vs ds → DpAll K H' vs ds
  | _, _, .nil => .nil
  | _, _, .cons h t => .cons (dp_kp k h) (dps_kp k t)
end
/-! ### what sums, gap and is_safe promise -/
def gapD (g : Int) (ns : List Int) : PyData := match gapOf g ns with
  | none => .none
  | some k => .tuple [.int (k : Int), .int (SS ns k), .int (R g k)]
def sp_sums (K : PySem.W.Frag) : Sp := fun vs H Q _ => ∃ (p : Addr) (ns : List Int), vs = [.ref p] ∧ (SqL K H p (ns.map V.int) ∨ SqT K H p (ns.map V.int)) ∧ ns.length ≤ 40 ∧
  ∀ q H', Kp [] H H' → SqT K H' q ((own ns).map V.int) → Q (.ref q) H'
def sp_gap (K : PySem.W.Frag) : Sp := fun vs H Q _ => ∃ (p : Addr) (ns : List Int) (g : Int), vs = [.ref p, .int g] ∧ SqT K H p (ns.map V.int) ∧ 1 ≤ ns.length ∧ ns.length ≤ 40 ∧ 1 ≤ g ∧
  ∀ r H', Kp [] H H' → Dp K H' r (gapD g ns) → Q r H'
def sp_is_safe (K : PySem.W.Frag) : Sp := fun vs H Q _ => ∃ (p : Addr) (ns : List Int) (g : Int), vs = [.ref p, .int g] ∧ SqT K H p (ns.map V.int) ∧ 1 ≤ ns.length ∧ ns.length ≤ 40 ∧ 1 ≤ g ∧
  ∀ H', Kp [] H H' → Q (.bl (gapOf g ns).isNone) H'
theorem ok_sums {f : Addr} {fd : FuncData} {k : Nat} (F : Fun K "sums" "sums" s_sums f fd) (m_sorted : mg "sorted" = none) (m_tuple : mg "tuple" = none) :
    FnG P w K mg base CX0 (k + 1) f fd ["balances"] (sp_sums K) := by
  refine ok0 F sc_sums (fun vs H Q E h => ?_) (fun cdv A outer s H vs Q E gd hr h => ?_)
  · obtain ⟨p, ns, rfl, _⟩ := h
    rfl
  · obtain ⟨p, ns, rfl, hp, hn, q⟩ := h
    refine ⟨_, (pss_cons (ps_set (i := 1) sc_sums.nd rfl (.inl rfl) (pe_li pa_nil))
      (pss_cons (ps_set (i := 2) sc_sums.nd rfl (.inl rfl) pe_int)
      (pss_cons (ps_forW PassesOwn.never rfl (pi_list (pe_callB (cr_srtK (K := K) rfl) (by rfl) m_sorted (by decide +kernel) (pa_cons (pv 0) pa_nil))) (pg_name (i := 3) sc_sums.nd rfl (.inl rfl))
      (pss_cons (ps_aug (i := 2) sc_sums.nd rfl (.inl rfl) (pv 3) ip_add)
      (pss_one (ps_expr (pe_bm PySem.F.plainAttrs_list PySem.F.slot_list_append PySem.F.type_list_append mt_appI (pv 1) (pa_cons (pv 2) pa_nil))))))
      (pss_one (ps_ret (pe_callTy (call_tupLK (K := K) rfl) (by rfl) m_tuple (by decide +kernel) (pa_cons (pv 1) pa_nil))))))), ?_⟩
    refine ⟨[], rfl, Nat.zero_le _, fun f H1 nf k1 h1 => ?_⟩
    refine ⟨_, rfl, p, ns, rfl, hp.imp (fun z => k1.lst0 z) (fun z => k1.tup0 z), fun ms pm sm t H2 nt k2 h2 => ?_⟩
    have em := srt_eq pm sm
    have ml := pm.length_eq
    have h1 := k2.at0 h1
    have nft : f ≠ t := ne_of_none (show H1 f = _ from by assumption) nt
    refine ⟨t, rfl, ⟨_, sqL h2⟩, _, _, _, walk_li (ns := ms), fun i σ H3 => ∃ (fs : List Int) (tot : Int) (y3 : Option V), σ = [some (.ref p), some (.ref f), some (.int tot), y3] ∧ Kp [] H H3 ∧ IL H3 f fs ∧ IL H3 t ms ∧ fs = (psums 0 ms).take i ∧ tot = (ms.take i).sum,
      ⟨[], _, _, rfl, k1.trans k2, h1, h2, rfl, rfl⟩, fun i σ H3 _ ⟨_, _, _, _, _, _, a, _⟩ => sqL a, ?_, ?_⟩
    · rintro i x σ _ H3 hi ⟨fs, tot, y3, rfl, k3, hf, ht, ef, et⟩ ⟨rfl, rfl⟩
      have fl : fs.length = i := by
        rw [ef, List.length_take, psums_len]
        omega
      refine ⟨_, rfl, _, rfl, _, _, rfl, rfl, ?_⟩
      refine ⟨_, rfl, .inl ⟨rfl, _, sqL hf⟩, _, rfl, _, _, _, rfl, rfl, hf, small1000 (by omega), fun H4 m4 h4 => ?_⟩
      have e1 : tot + ms.getD i 0 = (ms.take (i + 1)).sum := by
        rw [take_sum_succ ms i hi, et]
      refine ⟨_, _, _, rfl, k3.md (.inl nf) m4, h4, (m4 t nft.symm).trans ht, ?_, e1⟩
      rw [psums_take 0 ms i hi, ef, Int.zero_add, ← e1]
    · rintro σ H3 ⟨fs, tot, y3, rfl, k3, hf, ht, ef, et⟩
      rw [List.take_of_length_le (by rw [psums_len]; exact Nat.le_refl _), em] at ef
      subst ef
      refine ⟨_, rfl, _, _, rfl, sqL hf, fun u H4 nu k4 h4 => ?_⟩
      exact q u H4 (k3.trans k4) (sqT h4)
theorem own_at (ns : List Int) (i : Nat) (h : i < ns.length) : (own ns).getD i 0 = ((srt ns).take (i + 1)).sum := by
  have := own_get ns (i + 1) (by omega) (by omega)
  rw [Nat.add_sub_cancel] at this
  exact this
theorem ok_gap {f : Addr} {fd : FuncData} {k : Nat} (F : Fun K "gap" "gap" s_gap f fd) (m_enumerate : mg "enumerate" = none) (m_len : mg "len" = none)
    (C_thresholds : Cl P w K mg base CX0 1 "thresholds" 2 (sp_thresholds K)) (C_sums : Cl P w K mg base CX0 1 "sums" 1 (sp_sums K)) :
    FnG P w K mg base CX0 (k + 2) f fd ["balances", "budget"] (sp_gap K) := by
  refine ok0 F sc_gap (fun vs H Q E h => ?_) (fun cdv A outer s H vs Q E gd hr h => ?_)
  · obtain ⟨p, ns, g, rfl, _⟩ := h
    rfl
  · obtain ⟨p, ns, g, rfl, hp, hn1, hn, hg, q⟩ := h
    refine ⟨_, (pss_cons (ps_set (i := 2) sc_gap.nd rfl (.inl rfl) (pe_cl C_thresholds (hr.mono (by omega)) gd pass0 (by rfl) (pa_cons (pe_callB (call_len_seqK (K := K) rfl) (by rfl) m_len (by decide +kernel) (pa_cons (pv 0) pa_nil)) (pa_cons (pv 1) pa_nil))))
      (pss_cons (ps_forW PassesOwn.never rfl (pi_et (by rfl) m_enumerate (pa_cons (pe_cl C_sums (hr.mono (by omega)) gd pass0 (by rfl) (pa_cons (pv 0) pa_nil)) pa_nil)) (pg_tup rfl (pgs_cons (pg_name (i := 3) sc_gap.nd rfl (.inl rfl)) (pgs_cons (pg_name (i := 4) sc_gap.nd rfl (.inl rfl)) pgs_nil)))
      (pss_one (ps_if (pt_cmpR op_lt (pv 4) (pe_ix (ix_tiK (K := K) rfl) (pv 2) (pv 3) (fun _ _ => rfl)) (nomark _))
      (pss_one (ps_ret (pe_ti (pa_cons (pe_op op_add (pv 3) pe_int) (pa_cons (pv 4) (pa_cons (pe_ix (ix_tiK (K := K) rfl) (pv 2) (pv 3) (fun _ _ => rfl)) pa_nil))))))
      pss_nil)))
      (pss_one (ps_ret pe_non)))), ?_⟩
    refine ⟨_, rfl, p, _, rfl, .inr hp, _, rfl, ns.length, g, ?_, by omega, fun r H1 nr k1 hr1 => ?_⟩
    · rw [List.length_map]
      rfl
    refine ⟨_, rfl, p, ns, rfl, .inr (k1.tup0 hp), hn, fun t H2 k2 h2 => ?_⟩
    have ol : (own ns).length = ns.length := by
      unfold own
      rw [psums_len, srt_len]
    refine ⟨t, _, rfl, h2, _, _, _, walk_et (ns := own ns), fun i σ H3 => ∃ y3 y4, σ = [some (.ref p), some (.int g), some (.ref r), y3, y4] ∧ Kp [] H H3 ∧ SqT K H3 r ((rows g ns.length).map V.int) ∧ SqT K H3 t ((own ns).map V.int) ∧ gapOf g ns = gapFrom g i ((srt ns).take i).sum ((srt ns).drop i),
      ⟨_, _, rfl, k1.trans k2, k2.tup0 (sqT hr1), h2, rfl⟩, fun i σ H3 _ ⟨_, _, _, _, _, z, _⟩ => z, ?_, ?_⟩
    · rintro i x σ H3 H4 hi ⟨y3, y4, rfl, k3, hr3, ht3, eg⟩ ⟨T, rfl, nT, kT, hT⟩
      have hi2 : i < ns.length := by omega
      have hi3 : i < (srt ns).length := by rw [srt_len]; exact hi2
      rw [gap_step hi3, ← take_sum_succ (srt ns) i hi3, ← own_at ns i hi2] at eg
      have hr4 := kT.tup0 hr3
      refine ⟨T, _, rfl, sqT hT, rfl, _, _, rfl, _, _, rfl, rfl, ?_⟩
      have er : (rows g ns.length).getD (i : Int).toNat 0 = R g (i + 1) := by
        rw [show (i : Int).toNat = i by omega, rows_get g ns.length i hi2]
      refine ⟨_, rfl, _, rfl, _, rfl, r, rows g ns.length, _, rfl, rfl, hr4, ⟨by omega, by rw [rows_len]; omega⟩, _, _, rfl, rfl, _, rfl, ite2 (fun e => ?_) (fun e => ?_)⟩
      · have e' := of_decide_eq_true e
        rw [er] at e'
        rw [if_pos e'] at eg
        refine ⟨_, rfl, _, _, rfl, rfl, _, rfl, _, rfl, _, rfl, r, rows g ns.length, _, rfl, rfl, hr4, ⟨by omega, by rw [rows_len]; omega⟩, [_, _, _], rfl, Nat.le_of_ble_eq_true rfl, fun u H5 nu k5 h5 => ?_⟩
        refine q _ H5 ((k3.trans kT).trans k5) ?_
        unfold gapD
        rw [eg]
        rw [er, own_at ns i hi2] at h5
        exact dp_ti (ns := [((i + 1 : Nat) : Int), SS ns (i + 1), R g (i + 1)]) (sqT h5)
      · have e' : ¬ (own ns).getD i 0 < R g (i + 1) := fun z => e (decide_eq_true (by rw [er]; exact z))
        rw [if_neg e', own_at ns i hi2] at eg
        exact ⟨_, _, rfl, k3.trans kT, hr4, kT.tup0 ht3, eg⟩
    · rintro σ H3 ⟨y3, y4, rfl, k3, hr3, ht3, eg⟩
      rw [List.drop_eq_nil_of_le (by rw [srt_len, ol]; exact Nat.le_refl _)] at eg
      refine q _ H3 k3 ?_
      unfold gapD
      rw [eg]
      exact .non
theorem gapD_non {g : Int} {ns : List Int} {H : Hp} {r : V} (h : Dp K H r (gapD g ns)) : decide (r = .non) = (gapOf g ns).isNone := by
  unfold gapD at h
  cases eg : gapOf g ns with
  | none =>
    rw [eg] at h
    cases h
    rfl
  | some k =>
    rw [eg] at h
    cases h
    exact decide_eq_false (fun z => nomatch z)
theorem ok_is_safe {f : Addr} {fd : FuncData} {k : Nat} (F : Fun K "is_safe" "is_safe" s_is_safe f fd)
    (C_gap : Cl P w K mg base CX0 2 "gap" 2 (sp_gap K)) :
    FnG P w K mg base CX0 (k + 3) f fd ["balances", "budget"] (sp_is_safe K) := by
  refine ok0 F sc_is_safe (fun vs H Q E h => ?_) (fun cdv A outer s H vs Q E gd hr h => ?_)
  · obtain ⟨p, ns, g, rfl, _⟩ := h
    rfl
  · obtain ⟨p, ns, g, rfl, hp, hn1, hn, hg, q⟩ := h
    refine ⟨_, (pss_one (ps_ret (pe_cmpR op_isN (pe_cl C_gap (hr.mono (by omega)) gd pass0 (by rfl) (pa_cons (pv 0) (pa_cons (pv 1) pa_nil))) pe_non (nomark _)))), ?_⟩
    refine ⟨_, rfl, _, rfl, p, ns, g, rfl, hp, hn1, hn, hg, fun r H1 k1 hd => ⟨rfl, ?_⟩⟩
    rw [gapD_non hd]
    exact q H1 k1
/-! ### balances after a demand and a grant, by the law -/
def subL : List Int → List Int → List Int
  | x :: r, y :: t => (x - y) :: subL r t
  | _, _ => []
theorem subL_len : ∀ (a b : List Int), (subL a b).length = min a.length b.length
  | [], _ => by simp [subL]
  | _ :: _, [] => by simp [subL]
  | x :: r, y :: t => by
    show (subL r t).length + 1 = _
    rw [subL_len r t, List.length_cons, List.length_cons]
    omega
theorem subL_take : ∀ (a b : List Int) (i : Nat), i < a.length → i < b.length → (subL a b).take (i + 1) = (subL a b).take i ++ [a.getD i 0 - b.getD i 0]
  | x :: r, y :: t, 0, _, _ => rfl
  | x :: r, y :: t, i + 1, h1, h2 => by
    show (x - y) :: (subL r t).take (i + 1) = (x - y) :: ((subL r t).take i ++ _)
    rw [subL_take r t i (by simpa using h1) (by simpa using h2)]
    rfl
/-! ### best_grant, good_grants -/
def FirstMin (ns : List Int) (j : Nat) : Prop := j < ns.length ∧ (∀ x ∈ ns, ns.getD j 0 ≤ x) ∧ ∀ i, i < j → ns.getD i 0 ≠ ns.getD j 0
def granted (ns : List Int) (i : Nat) (g : Int) : List Int := ns.set i (ns.getD i 0 + g)
def goodL (g : Int) (ns : List Int) : List Int := ((List.range ns.length).filter fun i => (gapOf g (granted ns i g)).isNone).map fun i : Nat => (i : Int)
def Bal (K : PySem.W.Frag) (H : Hp) (p : Addr) (ns : List Int) : Prop := SqT K H p (ns.map V.int) ∧ 1 ≤ ns.length ∧ ns.length ≤ 40 ∧ ∀ x ∈ ns, 0 ≤ x ∧ x ≤ 10 ^ 13
def sp_best_grant (K : PySem.W.Frag) : Sp := fun vs H Q _ => ∃ (p : Addr) (ns : List Int), vs = [.ref p] ∧ SqT K H p (ns.map V.int) ∧ 1 ≤ ns.length ∧ PlT H p ∧
  ∀ j H', FirstMin ns j → Kp [] H H' → Q (.int (j : Int)) H'
def sp_good_grants (K : PySem.W.Frag) : Sp := fun vs H Q _ => ∃ (p : Addr) (ns : List Int) (g : Int), vs = [.ref p, .int g] ∧ Bal K H p ns ∧ 1 ≤ g ∧ g ≤ 1000000 ∧
  ∀ q H', Kp [] H H' → SqT K H' q ((goodL g ns).map V.int) → Q (.ref q) H'
theorem subL_zero : ∀ ns : List Int, subL ns (List.replicate ns.length 0) = ns
  | [] => rfl
  | x :: r => by
    show (x - 0) :: subL r (List.replicate r.length 0) = x :: r
    rw [subL_zero r, Int.sub_zero]
theorem firstmin_uniq {ns : List Int} {i j : Nat} (a : FirstMin ns i) (b : FirstMin ns j) : i = j := by
  have e : ns.getD i 0 = ns.getD j 0 := by
    have h1 := a.2.1 (ns.getD j 0) (by rw [List.getD_eq_getElem?_getD, List.getElem?_eq_getElem b.1]; exact List.getElem_mem b.1)
    have h2 := b.2.1 (ns.getD i 0) (by rw [List.getD_eq_getElem?_getD, List.getElem?_eq_getElem a.1]; exact List.getElem_mem a.1)
    omega
  rcases Nat.lt_trichotomy i j with h | h | h
  · exact absurd e (b.2.2 i h)
  · exact h
  · exact absurd e.symm (a.2.2 j h)
theorem first_min {ns : List Int} (hl1 : 1 ≤ ns.length) : ∃ j, FirstMin ns j := by
  have hne : srt ns ≠ [] := fun z => by
    have := srt_len ns
    rw [z] at this
    simp at this
    omega
  obtain ⟨m0, r0, e0⟩ : ∃ m r, srt ns = m :: r := by
    cases e : srt ns with
    | nil => exact absurd e hne
    | cons m r => exact ⟨m, r, rfl⟩
  have hmem : m0 ∈ ns := (srt_perm ns).mem_iff.mp (by rw [e0]; exact List.mem_cons_self)
  have hmin : ∀ x ∈ ns, m0 ≤ x := by
    intro x hx
    have hx2 := (srt_perm ns).mem_iff.mpr hx
    have hs := srt_sorted ns
    rw [e0] at hx2 hs
    rcases List.mem_cons.mp hx2 with z | z
    · omega
    · exact (List.pairwise_cons.mp hs).1 x z
  obtain ⟨j, a1, a2, a3⟩ := first_at ns m0 hmem
  exact ⟨j, a1, by rw [a2]; exact hmin, by rw [a2]; exact a3⟩
/-! ### what a grant to a smallest balance does -/
theorem perm_split {l l' m : List Int} {x : Int} (p : (l ++ l').Perm (x :: m)) : (∃ l0, l.Perm (x :: l0) ∧ (l0 ++ l').Perm m) ∨ (∃ l0, l'.Perm (x :: l0) ∧ (l ++ l0).Perm m) := by
  have hx : x ∈ l ++ l' := p.mem_iff.mpr List.mem_cons_self
  rcases List.mem_append.mp hx with h | h
  · refine .inl ⟨l.erase x, List.perm_cons_erase h, ?_⟩
    have h1 : (l ++ l').Perm (x :: (l.erase x ++ l')) := (List.perm_cons_erase h).append_right l'
    exact (h1.symm.trans p).cons_inv
  · refine .inr ⟨l'.erase x, List.perm_cons_erase h, ?_⟩
    have h1 : (l ++ l').Perm (l ++ x :: l'.erase x) := (List.perm_cons_erase h).append_left l
    exact ((h1.trans List.perm_middle).symm.trans p).cons_inv
theorem idx_perm : ∀ (ns : List Int) (i : Nat), i < ns.length → ns.Perm (ns.getD i 0 :: ns.eraseIdx i)
  | [], _, h => absurd h (Nat.not_lt_zero _)
  | x :: r, 0, _ => .refl _
  | x :: r, i + 1, h => by
    show (x :: r).Perm (r.getD i 0 :: x :: r.eraseIdx i)
    exact ((idx_perm r i (by simpa using h)).cons x).trans (.swap _ _ _)
theorem set_perm : ∀ (ns : List Int) (i : Nat) (v : Int), i < ns.length → (ns.set i v).Perm (v :: ns.eraseIdx i)
  | [], _, _, h => absurd h (Nat.not_lt_zero _)
  | x :: r, 0, _, _ => .refl _
  | x :: r, i + 1, v, h => by
    show (x :: r.set i v).Perm (v :: x :: r.eraseIdx i)
    exact ((set_perm r i v (by simpa using h)).cons x).trans (.swap _ _ _)
theorem granted_len (ns : List Int) (i : Nat) (g : Int) : (granted ns i g).length = ns.length := by
  unfold granted
  rw [List.length_set]
/-- of all grants the one to a smallest makes every S(k) greatest -/
theorem best_SS {ns : List Int} {a b : Nat} {g : Int} (hb : FirstMin ns b) (ha : a < ns.length) (hg : 0 ≤ g) (k : Nat) (hk : k ≤ ns.length) : SS (granted ns a g) k ≤ SS (granted ns b g) k := by
  obtain ⟨hb1, hb2, _⟩ := hb
  have pa := idx_perm ns a ha
  have pb := idx_perm ns b hb1
  have ga : (granted ns a g).Perm ((ns.getD a 0 + g) :: ns.eraseIdx a) := set_perm ns a _ ha
  have gb : (granted ns b g).Perm ((ns.getD b 0 + g) :: ns.eraseIdx b) := set_perm ns b _ hb1
  have hle : ns.getD b 0 ≤ ns.getD a 0 := hb2 _ (pa.mem_iff.mpr List.mem_cons_self)
  generalize ns.getD a 0 = xa at *
  generalize ns.getD b 0 = xb at *
  generalize ns.eraseIdx a = ma at *
  generalize ns.eraseIdx b = mb at *
  by_cases e : xa = xb
  · subst e
    have : ma.Perm mb := (pa.symm.trans pb).cons_inv
    rw [SS_congr ga, SS_congr gb, SS_congr (this.cons _)]
    exact Int.le_refl _
  · have hm : xa ∈ mb := by
      have : xa ∈ xb :: mb := (pa.symm.trans pb).mem_iff.mp List.mem_cons_self
      rcases List.mem_cons.mp this with z | z
      · exact absurd z e
      · exact z
    have pm : mb.Perm (xa :: mb.erase xa) := List.perm_cons_erase hm
    generalize mb.erase xa = r at *
    have pma : ma.Perm (xb :: r) := by
      have h1 : (xa :: ma).Perm (xb :: xa :: r) := (pa.symm.trans pb).trans (pm.cons xb)
      exact (h1.trans (.swap _ _ _)).cons_inv
    have ga : (granted ns a g).Perm ((xa + g) :: xb :: r) := ga.trans (pma.cons _)
    have gb : (granted ns b g).Perm ((xb + g) :: xa :: r) := gb.trans (pm.cons _)
    rw [SS_congr ga, SS_congr gb]
    have lr : k ≤ ((xb + g) :: xa :: r).length := by
      have := gb.length_eq
      rw [granted_len] at this
      omega
    obtain ⟨l, l', p, hl, hs⟩ := SS_is ((xb + g) :: xa :: r) k lr
    rw [← hs, ← hl]
    rcases perm_split p with ⟨l0, q1, q2⟩ | ⟨l0, q1, q2⟩
    · rcases perm_split q2 with ⟨l1, q3, q4⟩ | ⟨l1, q3, q4⟩
      · -- both in l
        have e1 : l.sum = xb + g + (xa + l1.sum) := by
          rw [perm_sum q1, List.sum_cons, perm_sum q3, List.sum_cons]
        have e2 : l.length = ((xa + g) :: xb :: l1).length := by
          rw [q1.length_eq, List.length_cons, q3.length_eq]
          rfl
        have := SS_min (ns := (xa + g) :: xb :: r) (l := (xa + g) :: xb :: l1) (l' := l') ((q4.cons xb).cons (xa + g))
        rw [e2]
        rw [List.sum_cons, List.sum_cons] at this
        omega
      · -- the granted one in l, the other not
        have e1 : l.sum = xb + g + l0.sum := by
          rw [perm_sum q1, List.sum_cons]
        have e2 : l.length = (xb :: l0).length := q1.length_eq
        have h1 : (xb :: l0 ++ (xa + g) :: l1).Perm ((xa + g) :: xb :: r) := by
          refine (List.perm_middle (l₁ := xb :: l0)).trans (.cons _ ?_)
          exact (q4.cons xb)
        have := SS_min h1
        rw [e2]
        rw [List.sum_cons] at this
        omega
    · rcases perm_split q2 with ⟨l1, q3, q4⟩ | ⟨l1, q3, q4⟩
      · -- the other in l
        have e1 : l.sum = xa + l1.sum := by
          rw [perm_sum q3, List.sum_cons]
        have e2 : l.length = (xb :: l1).length := q3.length_eq
        have h1 : (xb :: l1 ++ (xa + g) :: l0).Perm ((xa + g) :: xb :: r) := by
          refine (List.perm_middle (l₁ := xb :: l1)).trans (.cons _ ?_)
          exact (q4.cons xb)
        have := SS_min h1
        rw [e2]
        rw [List.sum_cons] at this
        omega
      · have h1 : (l ++ (xa + g) :: xb :: l1).Perm ((xa + g) :: xb :: r) := by
          refine List.perm_middle.trans (.cons _ ?_)
          exact List.perm_middle.trans (.cons _ q4)
        exact SS_min h1
theorem best_good {ns : List Int} {a b : Nat} {g : Int} (hb : FirstMin ns b) (ha : a < ns.length) (hg : 0 ≤ g) (e : gapOf g (granted ns a g) = none) : gapOf g (granted ns b g) = none := by
  rw [gap_none] at e ⊢
  intro k h1 h2
  rw [granted_len] at h2 e
  exact Int.le_trans (e k h1 h2) (best_SS hb ha hg k h2)
theorem good_mem {g : Int} {ns : List Int} {x : Int} : x ∈ goodL g ns ↔ ∃ i : Nat, x = i ∧ i < ns.length ∧ gapOf g (granted ns i g) = none := by
  unfold goodL
  rw [List.mem_map]
  constructor
  · rintro ⟨i, hi, rfl⟩
    rw [List.mem_filter, List.mem_range, Option.isNone_iff_eq_none] at hi
    exact ⟨i, rfl, hi.1, hi.2⟩
  · rintro ⟨i, rfl, h1, h2⟩
    refine ⟨i, ?_, rfl⟩
    rw [List.mem_filter, List.mem_range, Option.isNone_iff_eq_none]
    exact ⟨h1, h2⟩
/-- if any grant is good, the best one is -/
theorem best_in {g : Int} {ns : List Int} {b : Nat} (hg : 0 ≤ g) (hb : FirstMin ns b) (h : goodL g ns ≠ []) : (b : Int) ∈ goodL g ns := by
  obtain ⟨x, hx⟩ := List.exists_mem_of_ne_nil _ h
  obtain ⟨i, _, h1, h2⟩ := good_mem.mp hx
  exact good_mem.mpr ⟨b, rfl, hb.1, best_good hb h1 hg h2⟩
/-- a demand lowers each S(k) by no more than its sum -/
theorem subL_sum : ∀ (a b : List Int), a.length = b.length → (subL a b).sum = a.sum - b.sum
  | [], [], _ => rfl
  | x :: r, y :: t, h => by
    show x - y + (subL r t).sum = x + r.sum - (y + t.sum)
    rw [subL_sum r t (by simpa using h)]
    omega
theorem sum_nn : ∀ (l : List Int), (∀ x ∈ l, 0 ≤ x) → 0 ≤ l.sum
  | [], _ => Int.le_refl _
  | x :: r, h => by
    have := sum_nn r (fun y hy => h y (List.mem_cons_of_mem _ hy))
    have hx := h x List.mem_cons_self
    rw [List.sum_cons]
    omega
/-- the same elements chosen out of both -/
theorem subL_perm {a b c : List Int} (h : a.length = b.length) (p : (subL a b).Perm c) : ∃ a' b', a.Perm a' ∧ b.Perm b' ∧ a'.length = b'.length ∧ c = subL a' b' := by
  have key : ∀ {c d : List Int}, c.Perm d → ∀ a b : List Int, a.length = b.length → c = subL a b → ∃ a' b', a.Perm a' ∧ b.Perm b' ∧ a'.length = b'.length ∧ d = subL a' b' := by
    intro c d p
    induction p with
    | nil =>
      intro a b h e
      exact ⟨a, b, .refl _, .refl _, h, e⟩
    | cons x _ ih =>
      intro a b h e
      match a, b, h, e with
      | [], [], _, e => cases e
      | u :: r, v :: t, h, e =>
        have e : _ :: _ = (u - v) :: subL r t := e
        injection e with e1 e2
        obtain ⟨a', b', h1, h2, h3, h4⟩ := ih r t (by simpa using h) e2
        exact ⟨u :: a', v :: b', h1.cons _, h2.cons _, by simp [h3], by rw [h4, e1]; rfl⟩
    | swap x y l =>
      intro a b h e
      match a, b, h, e with
      | [], [], _, e => cases e
      | [u], [v], _, e =>
        have e : _ :: _ :: _ = [u - v] := e
        injection e with e1 e2
        cases e2
      | u :: u2 :: r, v :: v2 :: t, h, e =>
        have e : _ :: _ :: _ = (u - v) :: (u2 - v2) :: subL r t := e
        injection e with e1 e2
        injection e2 with e2 e3
        exact ⟨u2 :: u :: r, v2 :: v :: t, .swap _ _ _, .swap _ _ _, by simpa using h, by rw [e1, e2, e3]; rfl⟩
    | trans _ _ ih1 ih2 =>
      intro a b h e
      obtain ⟨a1, b1, h1, h2, h3, h4⟩ := ih1 a b h e
      obtain ⟨a2, b2, h5, h6, h7, h8⟩ := ih2 a1 b1 h3 h4
      exact ⟨a2, b2, h1.trans h5, h2.trans h6, h7, h8⟩
  exact key p a b h rfl
theorem subL_split : ∀ (a b l l' : List Int), a.length = b.length → l ++ l' = subL a b → ∃ a1 a2 b1 b2, a = a1 ++ a2 ∧ b = b1 ++ b2 ∧ a1.length = b1.length ∧ a2.length = b2.length ∧ l = subL a1 b1 ∧ l' = subL a2 b2
  | a, b, [], l', h, e => ⟨[], a, [], b, rfl, rfl, rfl, h, rfl, e⟩
  | [], [], x :: l, l', _, e => by cases e
  | u :: r, v :: t, x :: l, l', h, e => by
    have e : x :: (l ++ l') = (u - v) :: subL r t := e
    injection e with e1 e2
    obtain ⟨a1, a2, b1, b2, h1, h2, h3, h4, h5, h6⟩ := subL_split r t l l' (by simpa using h) e2
    exact ⟨u :: a1, a2, v :: b1, b2, by rw [h1]; rfl, by rw [h2]; rfl, by simp [h3], h4, by rw [h5, e1]; rfl, h6⟩
theorem SS_demand {ns ds : List Int} {g : Int} (hl : ns.length = ds.length) (hd : ∀ x ∈ ds, 0 ≤ x) (hs : ds.sum ≤ g) (k : Nat) (hk : k ≤ ns.length) : SS ns k - g ≤ SS (subL ns ds) k := by
  have ls : (subL ns ds).length = ns.length := by
    rw [subL_len]
    omega
  obtain ⟨l, l', p, h1, h2⟩ := SS_is (subL ns ds) k (by omega)
  obtain ⟨a', b', q1, q2, q3, q4⟩ := subL_perm hl p.symm
  obtain ⟨a1, a2, b1, b2, e1, e2, e3, e4, e5, e6⟩ := subL_split a' b' l l' q3 q4
  have hm := SS_min (ns := ns) (l := a1) (l' := a2) (by rw [← e1]; exact q1.symm)
  have h3 : l.sum = a1.sum - b1.sum := by rw [e5, subL_sum a1 b1 e3]
  have h4 : b1.sum + b2.sum = ds.sum := by rw [perm_sum q2, e2, List.sum_append]
  have h5 : 0 ≤ b2.sum := sum_nn b2 fun x hx => hd x (q2.mem_iff.mpr (by rw [e2]; exact List.mem_append.mpr (.inr hx)))
  have h6 : a1.length = k := by
    rw [← h1, e5, subL_len]
    omega
  rw [h6] at hm
  omega
theorem div_mono_sub {x y m : Int} (hm : 1 ≤ m) (h : x ≤ y) : x - x / m ≤ y - y / m := by
  have h1 := Int.emod_add_mul_ediv x m
  have h2 := Int.emod_add_mul_ediv y m
  have h3 := Int.emod_nonneg x (show m ≠ 0 by omega)
  have h4 := Int.emod_lt_of_pos x (show 0 < m by omega)
  have h5 := Int.emod_nonneg y (show m ≠ 0 by omega)
  have h6 := Int.emod_lt_of_pos y (show 0 < m by omega)
  -- y / m ≤ x / m + (y - x)
  have h7 : y / m ≤ x / m + (y - x) := by
    have : y / m ≤ (x + m * (y - x)) / m := by
      apply Int.ediv_le_ediv (by omega)
      have : (y - x) * 1 ≤ (y - x) * m := Int.mul_le_mul_of_nonneg_left hm (by omega)
      rw [Int.mul_comm m]
      omega
    rw [Int.add_mul_ediv_left _ _ (by omega)] at this
    exact this
  omega
theorem sum_ge_len {x : Int} : ∀ (l : List Int), (∀ y ∈ l, x ≤ y) → x * (l.length : Int) ≤ l.sum
  | [], _ => by simp
  | y :: r, h => by
    have ih := sum_ge_len r (fun z hz => h z (List.mem_cons_of_mem _ hz))
    have hy := h y List.mem_cons_self
    rw [List.sum_cons, List.length_cons, Int.natCast_add, Int.mul_add]
    simp only [Int.natCast_one, Int.mul_one]
    omega
/-- after any demand the grant to a smallest balance keeps safe balances safe -/
theorem grant_keeps {ns ds : List Int} {g : Int} {b : Nat} (hg : 1 ≤ g) (e : gapOf g ns = none) (hl : ns.length = ds.length) (hd : ∀ x ∈ ds, 0 ≤ x) (hs : ds.sum ≤ g) (hb : FirstMin (subL ns ds) b) : gapOf g (granted (subL ns ds) b g) = none := by
  rw [gap_none] at e ⊢
  intro k h1 h2
  rw [granted_len] at h2
  have ls : (subL ns ds).length = ns.length := by
    rw [subL_len]
    omega
  obtain ⟨hb1, hb2, _⟩ := hb
  have hS := fun k hk => SS_demand hl hd hs k hk
  generalize subL ns ds = ms at *
  have pb := idx_perm ms b hb1
  have gb : (granted ms b g).Perm ((ms.getD b 0 + g) :: ms.eraseIdx b) := set_perm ms b _ hb1
  generalize ms.getD b 0 = x at *
  generalize ms.eraseIdx b = m at *
  rw [SS_congr gb]
  obtain ⟨l, l', p, hl2, hs2⟩ := SS_is ((x + g) :: m) k (by rw [← gb.length_eq, granted_len]; exact h2)
  rw [← hs2]
  rcases perm_split p with ⟨l0, q1, q2⟩ | ⟨l0, q1, q2⟩
  · have h3 := SS_min (ns := ms) (l := x :: l0) (l' := l') ((q2.cons x).trans pb.symm)
    have e1 : l.sum = x + g + l0.sum := by rw [perm_sum q1, List.sum_cons]
    have e2 : (x :: l0).length = k := by rw [← hl2, q1.length_eq]; rfl
    rw [e2, List.sum_cons] at h3
    have h4 := hS k (by omega)
    have h5 := e k h1 (by omega)
    omega
  · have h3 := SS_min (ns := ms) (l := x :: l) (l' := l0) ((q2.cons x).trans pb.symm)
    have e2 : (x :: l).length = k + 1 := by rw [List.length_cons, hl2]
    rw [e2, List.sum_cons] at h3
    have hk : k + 1 ≤ ns.length := by
      have a1 := q2.length_eq
      have a2 := pb.length_eq
      rw [List.length_append] at a1
      rw [List.length_cons] at a2
      omega
    have h4 := hS (k + 1) hk
    have h5 := e (k + 1) (by omega) hk
    obtain ⟨k', rfl⟩ : ∃ k', k = k' + 1 := ⟨k - 1, by omega⟩
    have hR := (R_exact hg k').1
    have h5 : R g (k' + 2) ≤ SS ns (k' + 1 + 1) := h5
    have h6 := div_mono_sub (m := (k' : Int) + 2) (by omega) (show R g (k' + 2) - g ≤ x + l.sum by omega)
    have h7 : x ≤ (x + l.sum) / ((k' : Int) + 2) := by
      rw [Int.le_ediv_iff_mul_le (by omega)]
      have := sum_ge_len (x := x) l (fun y hy => hb2 y (pb.mem_iff.mpr (List.mem_cons_of_mem _ (q2.mem_iff.mp (List.mem_append.mpr (.inl hy))))))
      rw [hl2, Int.natCast_add] at this
      rw [show (k' : Int) + 2 = 1 + ((k' : Int) + 1) by omega, Int.mul_add, Int.mul_one]
      simp only [Int.natCast_one] at this
      omega
    omega
/-- a demand on safe balances stalls no sender -/
theorem safe_ge {ns : List Int} {g : Int} (e : gapOf g ns = none) : ∀ x ∈ ns, g ≤ x := by
  intro x hx
  rw [gap_none] at e
  have hl : 1 ≤ ns.length := List.length_pos_of_mem hx
  have h := e 1 (by omega) hl
  have p : ([x] ++ ns.erase x).Perm ns := (List.perm_cons_erase hx).symm
  have := SS_min p
  rw [show [x].length = 1 from rfl, show [x].sum = x + 0 from rfl] at this
  rw [R_one] at h
  omega
/-! ### safe balances, raised one credit or two at a time -/
theorem R_up {g : Int} (hg : 1 ≤ g) : ∀ (i j : Nat), i ≤ j → R g i ≤ R g j
  | i, j, h => by
    induction j with
    | zero =>
      have : i = 0 := by omega
      subst this
      exact Int.le_refl _
    | succ j ih =>
      by_cases e : i = j + 1
      · subst e
        exact Int.le_refl _
      · have h1 := ih (by omega)
        have h2 := R_mono hg 0 j (by omega)
        rw [R_one, R_zero] at h2
        omega
theorem gapFrom_le {g : Int} : ∀ (ms : List Int) (i : Nat) (t : Int) (k : Nat), (∀ x ∈ ms, 0 ≤ x) → gapFrom g i t ms = some k → i < k ∧ k ≤ i + ms.length ∧ ∃ b ∈ ms.head?, t + b < R g k ∨ t + b ≤ t + b
  | [], _, _, _, _, h => by simp [gapFrom] at h
  | b :: r, i, t, k, hb, h => by
    unfold gapFrom at h
    by_cases c : t + b < R g (i + 1)
    · rw [if_pos c] at h
      cases h
      exact ⟨by omega, by simp, b, rfl, .inl c⟩
    · rw [if_neg c] at h
      obtain ⟨h1, h2, _⟩ := gapFrom_le r (i + 1) (t + b) k (fun x hx => hb x (List.mem_cons_of_mem _ hx)) h
      exact ⟨by omega, by rw [List.length_cons]; omega, b, rfl, .inr (Int.le_refl _)⟩
/-- where there is a gap, some balance is below the last threshold -/
theorem gapFrom_low {g : Int} (hg : 1 ≤ g) : ∀ (ms : List Int) (i : Nat) (t : Int) (k : Nat), 0 ≤ t → (∀ x ∈ ms, 0 ≤ x) → gapFrom g i t ms = some k → ∃ b ∈ ms, b < R g (i + ms.length)
  | [], _, _, _, _, _, h => by simp [gapFrom] at h
  | b :: r, i, t, k, ht, hb, h => by
    unfold gapFrom at h
    by_cases c : t + b < R g (i + 1)
    · refine ⟨b, List.mem_cons_self, ?_⟩
      have := R_up hg (i + 1) (i + (b :: r).length) (by rw [List.length_cons]; omega)
      omega
    · rw [if_neg c] at h
      have hb0 := hb b List.mem_cons_self
      obtain ⟨x, hx, hl⟩ := gapFrom_low hg r (i + 1) (t + b) k (by omega) (fun x hx => hb x (List.mem_cons_of_mem _ hx)) h
      refine ⟨x, List.mem_cons_of_mem _ hx, ?_⟩
      rw [List.length_cons, show i + (r.length + 1) = i + 1 + r.length by omega]
      exact hl
theorem gap_low {g : Int} (hg : 1 ≤ g) {ns : List Int} {k : Nat} (hb : ∀ x ∈ ns, 0 ≤ x) (h : gapOf g ns = some k) : ∃ b ∈ ns, b < R g ns.length := by
  obtain ⟨b, h1, h2⟩ := gapFrom_low hg (srt ns) 0 0 k (Int.le_refl _) (fun x hx => hb x ((srt_perm ns).mem_iff.mp hx)) h
  refine ⟨b, (srt_perm ns).mem_iff.mp h1, ?_⟩
  rw [srt_len, Nat.zero_add] at h2
  exact h2
/-- what the balances lack of m, each by itself -/
def lacks (m : Int) : List Int → Nat
  | [] => 0
  | x :: r => (m - x).toNat + lacks m r
theorem lacks_set {m v : Int} : ∀ (ns : List Int) (j : Nat), j < ns.length → ns.getD j 0 < m → ns.getD j 0 < v → lacks m (ns.set j v) < lacks m ns
  | [], _, h, _, _ => absurd h (Nat.not_lt_zero _)
  | x :: r, 0, _, h1, h2 => by
    have h1 : x < m := h1
    have h2 : x < v := h2
    show (m - v).toNat + lacks m r < (m - x).toNat + lacks m r
    omega
  | x :: r, j + 1, h, h1, h2 => by
    have := lacks_set r j (by simpa using h) (by simpa using h1) (by simpa using h2)
    show (m - x).toNat + lacks m (r.set j v) < (m - x).toNat + lacks m r
    omega
theorem lacks_le {m : Int} (hm : 0 ≤ m) : ∀ ns : List Int, (∀ x ∈ ns, 0 ≤ x) → lacks m ns ≤ ns.length * m.toNat
  | [], _ => Nat.zero_le _
  | x :: r, h => by
    have h1 := lacks_le hm r (fun y hy => h y (List.mem_cons_of_mem _ hy))
    have h2 := h x List.mem_cons_self
    show (m - x).toNat + lacks m r ≤ (r.length + 1) * m.toNat
    rw [Nat.succ_mul]
    omega
/-! ### the least balance beside others -/
theorem safe_cons {g x : Int} {ns : List Int} : gapOf g (x :: ns) = none ↔ gapOf g ns = none ∧ ∀ k, k ≤ ns.length → R g (k + 1) ≤ SS ns k + x := by
  constructor
  · intro h
    have h := gap_none.mp h
    refine ⟨gap_none.mpr fun k h1 h2 => ?_, fun k hk => ?_⟩
    · obtain ⟨l, l', p, e, s⟩ := SS_is ns k h2
      have q : (l ++ (x :: l')).Perm (x :: ns) := List.perm_middle.trans (p.cons x)
      have := SS_min q
      have := h k h1 (by rw [List.length_cons]; omega)
      rw [e] at *
      omega
    · obtain ⟨l, l', p, e, s⟩ := SS_is ns k hk
      have q : ((x :: l) ++ l').Perm (x :: ns) := p.cons x
      have h3 := SS_min q
      have h4 := h (k + 1) (by omega) (by rw [List.length_cons]; omega)
      rw [List.length_cons, e, List.sum_cons, s] at h3
      omega
  · rintro ⟨h, hk⟩
    have h := gap_none.mp h
    refine gap_none.mpr fun k h1 h2 => ?_
    obtain ⟨l, l', p, e, s⟩ := SS_is (x :: ns) k h2
    rw [← s]
    rcases perm_split p with ⟨l0, p1, p2⟩ | ⟨l0, p1, p2⟩
    · have e1 := p1.length_eq
      rw [List.length_cons] at e1
      have h3 := SS_min p2
      have h4 := hk l0.length (by rw [← p2.length_eq, List.length_append]; omega)
      rw [perm_sum p1, List.sum_cons]
      rw [show l0.length + 1 = k by omega] at h4
      omega
    · have h3 := SS_min p2
      have h4 := h k h1 (by rw [← p2.length_eq, List.length_append]; omega)
      rw [e] at h3
      omega
def IsLB (g : Int) (ns : List Int) (m : Int) : Prop := (∀ k, k ≤ ns.length → R g (k + 1) ≤ SS ns k + m) ∧ ∃ k, k ≤ ns.length ∧ R g (k + 1) = SS ns k + m
theorem IsLB.safe {g m x : Int} {ns : List Int} (h : IsLB g ns m) (e : gapOf g ns = none) : gapOf g (x :: ns) = none ↔ m ≤ x := by
  rw [safe_cons]
  constructor
  · rintro ⟨_, h2⟩
    obtain ⟨k, hk, ek⟩ := h.2
    have := h2 k hk
    omega
  · intro hx
    refine ⟨e, fun k hk => ?_⟩
    have := h.1 k hk
    omega
theorem SS_zero (ns : List Int) : SS ns 0 = 0 := rfl
theorem IsLB.ge {g m : Int} {ns : List Int} (h : IsLB g ns m) : g ≤ m := by
  have := h.1 0 (Nat.zero_le _)
  rw [SS_zero, R_one] at this
  omega
theorem IsLB.uniq {g m m' : Int} {ns : List Int} (h : IsLB g ns m) (h' : IsLB g ns m') : m = m' := by
  obtain ⟨k, hk, ek⟩ := h.2
  obtain ⟨j, hj, ej⟩ := h'.2
  have := h.1 j hj
  have := h'.1 k hk
  omega
theorem IsLB.congr {g m : Int} {ns ms : List Int} (h : IsLB g ns m) (p : ns.Perm ms) : IsLB g ms m := by
  refine ⟨fun k hk => ?_, ?_⟩
  · rw [← SS_congr p]
    exact h.1 k (by rw [p.length_eq]; exact hk)
  · obtain ⟨k, hk, ek⟩ := h.2
    exact ⟨k, by rw [← p.length_eq]; exact hk, by rw [← SS_congr p]; exact ek⟩
theorem SS_nn {ns : List Int} (h : ∀ x ∈ ns, 0 ≤ x) (k : Nat) : 0 ≤ SS ns k :=
  sum_nn _ fun x hx => h x ((srt_perm ns).mem_iff.mp (List.mem_of_mem_take hx))
theorem IsLB.le {g m : Int} {ns : List Int} (h : IsLB g ns m) (hg : 1 ≤ g) (hn : ∀ x ∈ ns, 0 ≤ x) : m ≤ R g (ns.length + 1) := by
  obtain ⟨k, hk, ek⟩ := h.2
  have := SS_nn hn k
  have := R_up hg (k + 1) (ns.length + 1) (by omega)
  omega
theorem SS_all (ns : List Int) : SS ns ns.length = ns.sum := by
  unfold SS
  rw [List.take_of_length_le (by rw [srt_len]; exact Nat.le_refl _)]
  exact perm_sum (srt_perm ns)
/-- what a set without one sender leaves: the least balance is above what the others lack -/
theorem IsLB.all {g m : Int} {ns : List Int} (h : IsLB g ns m) : R g (ns.length + 1) ≤ ns.sum + m := by
  have := h.1 ns.length (Nat.le_refl _)
  rw [SS_all] at this
  exact this
theorem safe_erase {g : Int} {ns : List Int} {i : Nat} (hi : i < ns.length) (e : gapOf g ns = none) : gapOf g (ns.eraseIdx i) = none := by
  rw [gap_congr (idx_perm ns i hi)] at e
  exact (safe_cons.mp e).1
theorem IsLB.set {g m v : Int} {ns : List Int} {i : Nat} (hi : i < ns.length) (h : IsLB g (ns.eraseIdx i) m) (e : gapOf g (ns.eraseIdx i) = none) : gapOf g (ns.set i v) = none ↔ m ≤ v := by
  rw [gap_congr (set_perm ns i v hi)]
  exact h.safe e
def lbL (g : Int) (ns : List Int) : List Int := (List.range (ns.length + 1)).map fun k => R g (k + 1) - SS ns k
theorem lbL_is {g m : Int} {ns : List Int} (h1 : m ∈ lbL g ns) (h2 : ∀ y ∈ lbL g ns, y ≤ m) : IsLB g ns m := by
  refine ⟨fun k hk => ?_, ?_⟩
  · have := h2 (R g (k + 1) - SS ns k) (List.mem_map.mpr ⟨k, List.mem_range.mpr (by omega), rfl⟩)
    omega
  · obtain ⟨k, hk, rfl⟩ := List.mem_map.mp h1
    have := List.mem_range.mp hk
    exact ⟨k, by omega, by omega⟩
theorem lbL_take (g : Int) (ns : List Int) (i : Nat) (h : i ≤ ns.length) : (lbL g ns).take (i + 1) = (lbL g ns).take i ++ [R g (i + 1) - SS ns i] := by
  unfold lbL
  rw [← List.map_take, ← List.map_take, List.take_range, List.take_range, Nat.min_eq_left (by omega), Nat.min_eq_left (by omega), List.range_succ, List.map_append]
  rfl
theorem own_cons (ns : List Int) (i : Nat) (h : i ≤ ns.length) : ((0 : Int) :: own ns).getD i 0 = SS ns i := by
  cases i with
  | zero => rfl
  | succ i => exact own_at ns i h
def sp_least_beside (K : PySem.W.Frag) : Sp := fun vs H Q _ => ∃ (p : Addr) (ns : List Int) (g : Int), vs = [.ref p, .int g] ∧ (SqL K H p (ns.map V.int) ∨ SqT K H p (ns.map V.int)) ∧ ns.length ≤ 40 ∧ 1 ≤ g ∧
  ∀ m H', Kp [] H H' → IsLB g ns m → Q (.int m) H'
theorem ok_least_beside {f : Addr} {fd : FuncData} {k : Nat} (F : Fun K "least_beside" "least_beside" s_least_beside f fd) (m_max : mg "max" = none) (m_zip : mg "zip" = none) (m_len : mg "len" = none)
    (C_sums : Cl P w K mg base CX0 1 "sums" 1 (sp_sums K)) (C_thresholds : Cl P w K mg base CX0 1 "thresholds" 2 (sp_thresholds K)) :
    FnG P w K mg base CX0 (k + 2) f fd ["others", "budget"] (sp_least_beside K) := by
  refine ok0 F sc_least_beside (fun vs H Q E h => ?_) (fun cdv A outer s H vs Q E gd hr h => ?_)
  · obtain ⟨p, ns, g, rfl, _⟩ := h
    rfl
  · obtain ⟨p, ns, g, rfl, hp, hl, hg, q⟩ := h
    have ol : (own ns).length = ns.length := by
      unfold own
      rw [psums_len, srt_len]
    refine ⟨_, (pss_cons (ps_set (i := 2) sc_least_beside.nd rfl (.inl rfl) (pe_cl C_sums (hr.mono (by omega)) gd pass0 (by rfl) (pa_cons (pv 0) pa_nil)))
      (pss_cons (ps_set (i := 3) sc_least_beside.nd rfl (.inl rfl) (pe_ti (pa_cons pe_int (StX.pa_star (pv 2) pa_nil))))
      (pss_one (ps_ret (pe_callB (cr_maxK (K := K) rfl rfl) (by rfl) m_max (by decide +kernel) (pa_cons (pe_lcW (own := [("need", 4), ("have", 5)]) (g := (gTup K 2 (gCons (gName 4) (gCons (gName 5) gNil)))) rfl sc_least_beside.nd (RZ.pi_zipA (by rfl) m_zip (pa_cons (pe_cl C_thresholds (hr.mono (by omega)) gd pass0 (by rfl) (pa_cons (pe_callB (call_len_seqK (K := K) rfl) (by rfl) m_len (by decide +kernel) (pa_cons (pv 3) pa_nil)) (pa_cons (pv 1) pa_nil))) (pa_cons (pv 3) pa_nil))) (blkOk_by (own := [("need", 4), ("have", 5)]) (N := ["others", "budget", "least", "held", "need", "have"]) (sc := defScope s_least_beside) (by decide +kernel)) (fun _ _ _ _ _ => (pg_tup rfl (pgs_cons (pg_name (i := 4) sc_least_beside.nd rfl (.inl rfl)) (pgs_cons (pg_name (i := 5) sc_least_beside.nd rfl (.inl rfl)) pgs_nil)))) (fun _ _ _ _ _ => pts_nil) (fun _ _ _ _ _ => (pe_op op_sub (pv 4) (pv 5)))) pa_nil)))))), ?_⟩
    refine ⟨_, rfl, p, ns, rfl, hp, hl, fun t H1 k1 h1 => ?_⟩
    refine ⟨_, rfl, t, _, rfl, .inl h1, 0 :: own ns, by simp, by rw [List.length_cons]; exact Nat.le_trans (show (own ns).length + 1 ≤ 41 by omega) (Nat.le_of_ble_eq_true rfl), fun u H2 nu k2 h2 => ?_⟩
    have k2 := k1.trans k2
    refine ⟨_, rfl, u, _, rfl, .inr (sqT h2), _, rfl, ns.length + 1, g, ?_, by omega, fun r H3 nr k3 hr3 => ?_⟩
    · rw [List.length_map, List.length_cons, ol]
      rfl
    have h3 := k3.at0 h2
    have k3 := k2.trans k3
    refine ⟨_, rfl, r, u, _, _, rfl, .inr ⟨sqT hr3, sqT h3, _, _, _, walk_zipT (ns := rows g (ns.length + 1)) (ms := 0 :: own ns) (n := ns.length + 1) (by rw [rows_len, List.length_cons, ol]; omega), small1000 (by omega), fun D H4 nD k4 hD => ?_⟩⟩
    refine ⟨fun i acc H5 => ∃ rs : List Int, acc = rs.map V.int ∧ rs = (lbL g ns).take i ∧ Kp [] H H5 ∧ SqT K H5 r ((rows g (ns.length + 1)).map V.int) ∧ SqT K H5 u (((0 : Int) :: own ns).map V.int), ⟨[], rfl, rfl, k3.trans k4, sqT (k4.at0 hr3), sqT (k4.at0 h3)⟩, fun i acc H5 _ ⟨_, _, _, _, a, b⟩ => ⟨a, b⟩, ?_, ?_⟩
    · rintro i acc x H5 H6 hi ⟨rs, ea, er, k5, tp, td⟩ hD2 ⟨T, rfl, nT, kT, hT⟩
      have hD3 := kT.at0 hD2
      refine ⟨T, _, rfl, sqT hT, rfl, _, _, rfl, _, _, rfl, rfl, rfl, yesT ?_⟩
      refine ⟨_, rfl, _, rfl, _, _, rfl, rfl, hD3, fun H7 m7 h7 => ?_⟩
      refine ⟨rs ++ [_], by rw [List.map_append, ea]; rfl, ?_, (k5.trans kT).md (.inl (k3.free0 nD)) m7, m7.kp.tup1 hD3 (kT.tup0 tp), m7.kp.tup1 hD3 (kT.tup0 td)⟩
      rw [lbL_take g ns i (by omega), er, rows_get g _ i hi, own_cons ns i (by omega)]
    rintro acc H5 _ hD2 ⟨rs, ea, er, k5, _, _⟩
    subst ea
    have ll : (lbL g ns).length = ns.length + 1 := by simp [lbL]
    rw [List.take_of_length_le (by omega)] at er
    subst er
    exact ⟨D, _, rfl, sqL hD2, by omega, fun m h1 h2 => q m H5 k5 (lbL_is h1 h2)⟩
def qLam (x : Str) : Str := (x ++ ".<locals>.") ++ "<lambda>"
/-! ### the dearest first -/
def byPr (ws : List Int) (i : Int) : Int × Int := (-(ws.getD i.toNat 0), i)
def sp_dearest_first (K : PySem.W.Frag) (T : List (Addr × Str)) : Sp := fun vs H Q _ => ∃ (p : Addr) (ws : List Int), vs = [.ref p] ∧ SqT K H p (ws.map V.int) ∧ ws.length ≤ 1000 ∧ Tabs T H ∧
  ∀ l H' (ms : List Int), Kt T H H' → Nt H l → H' l = some (.lst (ms.map V.int)) → ms.Perm (upto ws.length) → ms.Pairwise (KLe (byPr ws)) → Q (.ref l) H'
theorem up_mem {n : Nat} {i : Int} : i ∈ upto n ↔ 0 ≤ i ∧ i < (n : Int) := by
  unfold upto
  rw [List.mem_map]
  constructor
  · rintro ⟨a, ha, rfl⟩
    have := List.mem_range.mp ha
    omega
  · rintro ⟨h1, h2⟩
    exact ⟨i.toNat, List.mem_range.mpr (by omega), by omega⟩
theorem ok_dearest_first {f c pt : Addr} {fd : FuncData} {k : Nat} {T : List (Addr × Str)} (F : Fun K "dearest_first" "dearest_first" s_dearest_first f fd) (hcd : fd.code = .ref c) (TB : TabB base mg c pt) (hmT : (pt, qLam "dearest_first") ∈ T) (huT : ∀ r ∈ T, r.1 = pt → r.2 = qLam "dearest_first") (m_sorted : mg "sorted" = none) (m_range : mg "range" = none) (m_len : mg "len" = none) :
    FnG P w K mg base CX0 (k + 4) f fd ["prices"] (sp_dearest_first K T) := by
  refine okC F hcd sc_dearest_first (fun vs H Q E h => ?_) (fun A outer s H vs Q E gd hr h => ?_)
  · obtain ⟨p, ws, rfl, _⟩ := h
    rfl
  · obtain ⟨p, ws, rfl, hp, hl, hT, q⟩ := h
    refine ⟨_, (pss_one (ps_ret (pe_sortKR (K := K) (T := T) (k := 0) (i := 1) rfl rfl TB rfl hmT huT (hr.mono (by omega)) (lam1_by (sc := defScope s_dearest_first) (by decide +kernel)) sc_dearest_first.nd rfl rfl (fun _ _ _ _ _ _ => rfl) (fun _ _ _ _ => (pe_ti (pa_cons (pe_un un_neg (pe_ix (ix_tiK (K := K) rfl) (pv 0) (pv 1) (fun _ _ => rfl))) (pa_cons (pv 1) pa_nil)))) (by rfl) m_sorted (pa_cons (pe_rgO (by rfl) m_range (pe_callB (call_len_seqK (K := K) rfl) (by rfl) m_len (by decide +kernel) (pa_cons (pv 0) pa_nil))) pa_nil)))), ?_⟩
    refine ⟨_, rfl, p, _, rfl, .inr hp, ws.length, by rw [List.length_map], hl, fun r H1 nr k1 h1 => ?_⟩
    refine ⟨r, ws.length, byPr ws, rfl, h1, hl, k1.kt.tab hT, fun H2 k2 => ⟨fun n hn H' k' => ?_, fun ms pm sm l H3 nl k3 h3 => ?_⟩⟩
    · have hn2 := up_mem.mp hn
      refine ⟨_, rfl, _, rfl, p, ws, n, rfl, rfl, k'.tup0 (k2.tup0 (k1.tup0 hp)), hn2, _, rfl, _, rfl, [_, _], rfl, Nat.le_of_ble_eq_true rfl, fun U H4 nU k4 h4 => ?_⟩
      exact ⟨k4, U, rfl, h4⟩
    · exact q l H3 ms ((k1.kt.trans k2).kp k3) ((k1.kt.trans k2).nt0 nl) h3 pm sm
theorem KLe_anti {ws : List Int} {a b : Int} (h1 : KLe (byPr ws) a b) (h2 : KLe (byPr ws) b a) : a = b := by
  unfold KLe byPr at h1 h2
  simp only at h1 h2
  omega
theorem order_uniq {ws ms ls : List Int} (p : ms.Perm ls) (h1 : ms.Pairwise (KLe (byPr ws))) (h2 : ls.Pairwise (KLe (byPr ws))) : ms = ls :=
  p.eq_of_pairwise (fun _ _ _ _ a b => KLe_anti a b) h1 h2
theorem up_nodup (n : Nat) : (upto n).Pairwise (· ≠ ·) := by
  unfold upto
  rw [List.pairwise_map]
  refine List.Pairwise.imp ?_ (List.pairwise_lt_range (n := n))
  intro a b h
  omega
theorem order_nodup {n : Nat} {ms : List Int} (p : ms.Perm (upto n)) : ms.Pairwise (· ≠ ·) := (p.pairwise_iff (fun h => Ne.symm h)).mpr (up_nodup n)
theorem order_at {n j : Nat} {ms : List Int} (p : ms.Perm (upto n)) (h : j < ms.length) : ∃ i : Nat, ms.getD j 0 = (i : Int) ∧ i < n := by
  have hm : ms.getD j 0 ∈ ms := by
    rw [List.getD_eq_getElem?_getD, List.getElem?_eq_getElem h]
    exact List.getElem_mem h
  have := up_mem.mp (p.mem_iff.mp hm)
  exact ⟨(ms.getD j 0).toNat, by omega, by omega⟩
theorem drop_getD {ms : List Int} {j : Nat} (h : j < ms.length) : ms.drop j = ms.getD j 0 :: ms.drop (j + 1) := by
  rw [List.drop_eq_getElem_cons h, List.getD_eq_getElem?_getD, List.getElem?_eq_getElem h]
  rfl
/-! ### raised: each in its turn as high as those taken ask -/
def mx (a b : Int) : Int := if b > a then b else a
theorem mx_ge (a b : Int) : a ≤ mx a b ∧ b ≤ mx a b ∧ (mx a b = a ∨ mx a b = b) := by
  unfold mx
  split <;> omega
inductive Rz (g : Int) (ns : List Int) : List Int → List Int → List Int → List Int → Prop
  | nil {tk fs : List Int} : Rz g ns [] tk fs fs
  | cons {i : Nat} {is tk cur fs : List Int} {v : Int} : i < ns.length → IsLB g tk v → Rz g ns is (tk ++ [mx (ns.getD i 0) v]) (cur.set i (mx (ns.getD i 0) v)) fs → Rz g ns ((i : Int) :: is) tk cur fs
def sp_raised (K : PySem.W.Frag) (T : List (Addr × Str)) : Sp := fun vs H Q _ => ∃ (p w : Addr) (ns ws : List Int) (g : Int), vs = [.ref p, .ref w, .int g] ∧ SqT K H p (ns.map V.int) ∧ SqT K H w (ws.map V.int) ∧ ws.length = ns.length ∧ 1 ≤ ns.length ∧ ns.length ≤ 40 ∧ 1 ≤ g ∧ Tabs T H ∧
  ∀ t H' (ms fs : List Int), Kt T H H' → Nt H t → H' t = some (.tup (fs.map V.int)) → ms.Perm (upto ns.length) → ms.Pairwise (KLe (byPr ws)) → Rz g ns ms [] ns fs → Q (.ref t) H'
theorem ok_raised {f : Addr} {fd : FuncData} {k : Nat} {T : List (Addr × Str)} (F : Fun K "raised" "raised" s_raised f fd) (m_list : mg "list" = none) (m_tuple : mg "tuple" = none) (m_max : mg "max" = none)
    (C_dearest_first : Cl P w K mg base CX0 4 "dearest_first" 1 (sp_dearest_first K T)) (C_least_beside : Cl P w K mg base CX0 2 "least_beside" 2 (sp_least_beside K)) :
    FnG P w K mg base CX0 (k + 5) f fd ["balances", "prices", "budget"] (sp_raised K T) := by
  refine ok0 F sc_raised (fun vs H Q E h => ?_) (fun cdv A outer s H vs Q E gd hr h => ?_)
  · obtain ⟨p, wa, ns, ws, g, rfl, _⟩ := h
    rfl
  · obtain ⟨p, wa, ns, ws, g, rfl, hp, hw, wl, hl1, hl, hg, hT, q⟩ := h
    refine ⟨_, (pss_cons (ps_set (i := 3) sc_raised.nd rfl (.inl rfl) (pe_callTy (call_lstTK (K := K) rfl) (by rfl) m_list (by decide +kernel) (pa_cons (pv 0) pa_nil)))
      (pss_cons (ps_set (i := 4) sc_raised.nd rfl (.inl rfl) (pe_li pa_nil))
      (pss_cons (ps_forW PassesOwn.never rfl (pi_list (pe_cl C_dearest_first (hr.mono (by omega)) gd pass0 (by rfl) (pa_cons (pv 1) pa_nil))) (pg_name (i := 5) sc_raised.nd rfl (.inl rfl))
      (pss_cons (ps_asg (pe_callB (call_max2 rfl) (by rfl) m_max (by decide +kernel) (pa_cons (pe_ix (ix_tiK (K := K) rfl) (pv 0) (pv 5) (fun _ _ => rfl)) (pa_cons (pe_cl C_least_beside (hr.mono (by omega)) gd pass0 (by rfl) (pa_cons (pv 4) (pa_cons (pv 2) pa_nil))) pa_nil))) (pg_sub (pv 3) (pv 5) set_li))
      (pss_one (ps_expr (pe_bm PySem.F.plainAttrs_list PySem.F.slot_list_append PySem.F.type_list_append mt_appI (pv 4) (pa_cons (pe_ix (ix_liK (K := K) rfl) (pv 3) (pv 5) (fun _ _ => rfl)) pa_nil))))))
      (pss_one (ps_ret (pe_callTy (call_tupLK (K := K) rfl) (by rfl) m_tuple (by decide +kernel) (pa_cons (pv 3) pa_nil))))))), ?_⟩
    refine ⟨_, rfl, p, _, rfl, hp, fun fo H1 nfo k1 h1 => ?_⟩
    refine ⟨[], rfl, Nat.zero_le _, fun ta H2 nta k2 h2 => ?_⟩
    have h12 := k2.at0 h1
    have nft : fo ≠ ta := ne_of_none h1 nta
    have zta : Nt H ta := nt0 (k1.free0 nta)
    have k2 := k1.trans k2
    refine ⟨_, rfl, wa, ws, rfl, k2.tup0 hw, by omega, k2.kt.tab hT, fun l H3 ms k3 nl h3 pm sm => ?_⟩
    have h13 := k3.atL h12
    have h23 := k3.atL h2
    have zfo : Nt H fo := nt0 nfo
    have k3 := k2.kt.trans k3
    have hp3 := k3.tup0 hp
    rw [wl] at pm
    have ml : ms.length = ns.length := by rw [pm.length_eq, upto_len]
    have nlf : l ≠ fo := fun z => by
      subst z
      obtain ⟨ps, e⟩ := nl _ h12
      exact nomatch e
    have nlt : l ≠ ta := fun z => by
      subst z
      obtain ⟨ps, e⟩ := nl _ h2
      exact nomatch e
    refine ⟨l, rfl, ⟨_, sqL h3⟩, _, _, _, walk_li (ns := ms), fun i σ H4 => ∃ (cur tk : List Int) (y5 : Option V), σ = [some (.ref p), some (.ref wa), some (.int g), some (.ref fo), some (.ref ta), y5] ∧ Kt T H H4 ∧ SqT K H4 p (ns.map V.int) ∧ IL H4 fo cur ∧ IL H4 ta tk ∧ IL H4 l ms ∧ cur.length = ns.length ∧ tk.length = i ∧ (∀ fs, Rz g ns (ms.drop i) tk cur fs → Rz g ns ms [] ns fs),
      ⟨ns, [], _, rfl, k3, hp3, h13, h23, h3, rfl, rfl, fun _ z => z⟩, fun _ _ _ _ ⟨_, _, _, _, _, _, _, _, z, _⟩ => sqL z, ?_, ?_⟩
    · rintro i x σ _ H4 hi ⟨cur, tk, y5, rfl, k4, hp4, hf4, ht4, hl4, cl, tl, hS⟩ ⟨rfl, rfl⟩
      obtain ⟨j, ej, hj⟩ := order_at pm hi
      rw [drop_getD hi, ej] at hS
      rw [ej]
      have ejn : ((j : Int)).toNat = j := by omega
      refine ⟨_, rfl, _, rfl, p, ns, _, rfl, rfl, hp4, ⟨by omega, by omega⟩, _, rfl, _, rfl, ta, tk, g, rfl, .inl (sqL ht4), by omega, hg, fun m H5 k5 hm => ?_⟩
      have hf5 := k5.at0 hf4
      have hp5 := k5.tup0 hp4
      have ht5 := k5.at0 ht4
      have hl5 := k5.at0 hl4
      have k5 := k4.kp k5
      refine ⟨_, _, rfl, _, rfl, _, rfl, fo, cur, _, _, rfl, rfl, rfl, hf5, ⟨by omega, by omega⟩, fun H6 m6 h6 => ?_⟩
      rw [ejn] at h6
      have h6 : IL H6 fo (cur.set j (mx (ns.getD j 0) m)) := h6
      have hp6 := m6.kp.tup1 hf5 hp5
      have ht6 := (m6 ta nft.symm).trans ht5
      have hl6 := (m6 l nlf).trans hl5
      have k6 := k5.md zfo hf5 m6
      refine ⟨_, rfl, .inl ⟨rfl, _, sqL ht6⟩, _, rfl, _, rfl, fo, _, _, rfl, rfl, sqL h6, ⟨by omega, by rw [List.length_set]; omega⟩, ta, tk, _, rfl, rfl, ht6, small1000 (by omega), fun H7 m7 h7 => ?_⟩
      have e7 : (cur.set j (mx (ns.getD j 0) m)).getD (j : Int).toNat 0 = mx (ns.getD j 0) m := by
        rw [ejn, List.getD_eq_getElem?_getD, List.getElem?_set_self (by omega)]
        rfl
      rw [e7] at h7
      exact ⟨_, _, _, rfl, k6.md zta ht6 m7, m7.kp.tup1 ht6 hp6, (m7 fo nft).trans h6, h7, (m7 l nlt).trans hl6, by rw [List.length_set, cl], by rw [List.length_append, tl]; rfl, fun fs z => hS fs (.cons hj hm z)⟩
    · rintro σ H4 ⟨cur, tk, y5, rfl, k4, hp4, hf4, ht4, hl4, cl, tl, hS⟩
      rw [List.drop_eq_nil_of_le (Nat.le_refl _)] at hS
      refine ⟨_, rfl, fo, _, rfl, sqL hf4, fun u H5 nu k5 h5 => ?_⟩
      exact q u H5 ms cur (k4.kp k5) (k4.nt0 nu) h5 pm sm (hS cur .nil)
theorem all_set {ns : List Int} {P : Int → Prop} {j : Nat} {v : Int} (h : ∀ x ∈ ns, P x) (hv : P v) : ∀ x ∈ ns.set j v, P x := by
  intro x hx
  rcases List.mem_or_eq_of_mem_set hx with z | z
  · exact h x z
  · rw [z]
    exact hv
theorem all_get {ns : List Int} {P : Int → Prop} {j : Nat} (h : ∀ x ∈ ns, P x) (hj : j < ns.length) : P (ns.getD j 0) := by
  rw [List.getD_eq_getElem?_getD, List.getElem?_eq_getElem hj]
  exact h _ (List.getElem_mem hj)
def Am (ns : List Int) (c : Nat) : Prop := ns.length = c ∧ ∀ x ∈ ns, 0 ≤ x ∧ x ≤ 1000000000000
/-! ### costs and values -/
/-- the sum of w * (b - a) -/
def dot : List Int → List Int → List Int → Int
  | w :: ws, x :: xs, y :: ys => w * (y - x) + dot ws xs ys
  | _, _, _ => 0
theorem dot_swap : ∀ ws xs ys : List Int, dot ws ys xs = - dot ws xs ys
  | [], _, _ => by simp [dot]
  | _ :: _, [], _ => by cases ‹List Int› <;> simp [dot]
  | _ :: _, _ :: _, [] => by simp [dot]
  | w :: ws, x :: xs, y :: ys => by
    show w * (x - y) + dot ws ys xs = -(w * (y - x) + dot ws xs ys)
    rw [dot_swap ws xs ys, show x - y = -(y - x) by omega, Int.mul_neg]
    omega
theorem dot_take : ∀ (ws xs ys : List Int) (i : Nat), i < ws.length → i < xs.length → i < ys.length →
    dot (ws.take (i + 1)) (xs.take (i + 1)) (ys.take (i + 1)) = dot (ws.take i) (xs.take i) (ys.take i) + ws.getD i 0 * (ys.getD i 0 - xs.getD i 0)
  | w :: ws, x :: xs, y :: ys, 0, _, _, _ => by
    show w * (y - x) + dot [] [] [] = dot [] [] [] + w * (y - x)
    simp [dot]
  | w :: ws, x :: xs, y :: ys, i + 1, h1, h2, h3 => by
    show w * (y - x) + dot (ws.take (i + 1)) (xs.take (i + 1)) (ys.take (i + 1)) = w * (y - x) + dot (ws.take i) (xs.take i) (ys.take i) + ws.getD i 0 * (ys.getD i 0 - xs.getD i 0)
    rw [dot_take ws xs ys i (by simpa using h1) (by simpa using h2) (by simpa using h3)]
    omega
theorem dot_abs : ∀ (ws xs ys : List Int), (∀ x ∈ ws, 0 ≤ x ∧ x ≤ 1000000000000) → (∀ x ∈ xs, 0 ≤ x ∧ x ≤ 1000000000000) → (∀ x ∈ ys, 0 ≤ x ∧ x ≤ 1000000000000) →
    -((ws.length : Int) * 1000000000000000000000000) ≤ dot ws xs ys ∧ dot ws xs ys ≤ (ws.length : Int) * 1000000000000000000000000
  | [], _, _, _, _, _ => by simp [dot]
  | _ :: ws, [], _, _, _, _ => by
    simp only [dot, List.length_cons]
    omega
  | _ :: ws, _ :: _, [], _, _, _ => by
    simp only [dot, List.length_cons]
    omega
  | w :: ws, x :: xs, y :: ys, h1, h2, h3 => by
    have ih := dot_abs ws xs ys (fun z hz => h1 z (List.mem_cons_of_mem _ hz)) (fun z hz => h2 z (List.mem_cons_of_mem _ hz)) (fun z hz => h3 z (List.mem_cons_of_mem _ hz))
    have a1 := h1 w List.mem_cons_self
    have a2 := h2 x List.mem_cons_self
    have a3 := h3 y List.mem_cons_self
    have b1 : w * (y - x) ≤ 1000000000000 * 1000000000000 := by
      have := Int.mul_le_mul_of_nonneg_left (show y - x ≤ 1000000000000 by omega) a1.1
      have h4 : w * 1000000000000 ≤ 1000000000000 * 1000000000000 := Int.mul_le_mul_of_nonneg_right a1.2 (by decide)
      omega
    have b2 : -(1000000000000 * 1000000000000) ≤ w * (y - x) := by
      have := Int.mul_le_mul_of_nonneg_left (show -1000000000000 ≤ y - x by omega) a1.1
      have h4 : w * 1000000000000 ≤ 1000000000000 * 1000000000000 := Int.mul_le_mul_of_nonneg_right a1.2 (by decide)
      rw [Int.mul_neg] at this
      omega
    simp only [dot, List.length_cons]
    omega
def Three (K : PySem.W.Frag) (H : Hp) (p w o : Addr) (ns ws os : List Int) (c : Nat) : Prop := SqT K H p (ns.map V.int) ∧ SqT K H w (ws.map V.int) ∧ SqT K H o (os.map V.int) ∧ ns.length = c ∧ Am ws c ∧ os.length = c ∧ c ≤ 40
def sp_raise_cost (K : PySem.W.Frag) : Sp := fun vs H Q _ => ∃ (p w o : Addr) (ns ws os : List Int) (c : Nat), vs = [.ref p, .ref w, .ref o] ∧ Three K H p w o ns ws os c ∧
  ∀ H', Kp [] H H' → Q (.int (dot ws ns os)) H'
def sp_withdrawal_value (K : PySem.W.Frag) : Sp := fun vs H Q _ => ∃ (p w o : Addr) (ns ws os : List Int) (c : Nat), vs = [.ref p, .ref w, .ref o] ∧ Three K H p w o ns ws os c ∧
  ∀ H', Kp [] H H' → Q (.int (dot ws os ns)) H'
theorem ok_raise_cost {f : Addr} {fd : FuncData} {k : Nat} (F : Fun K "raise_cost" "raise_cost" s_raise_cost f fd) (m_sum : mg "sum" = none) (m_zip : mg "zip" = none) :
    FnG P w K mg base CX0 (k + 1) f fd ["balances", "prices", "other"] (sp_raise_cost K) := by
  refine ok0 F sc_raise_cost (fun vs H Q E h => ?_) (fun cdv A outer s H vs Q E gd hr h => ?_)
  · obtain ⟨p, q, o, ns, ws, os, c, rfl, _⟩ := h
    rfl
  · obtain ⟨p, d, o, ns, ws, os, c, rfl, ⟨hp, hd, ho, e1, ⟨e2, hw⟩, e3, hc⟩, q⟩ := h
    refine ⟨_, (pss_one (ps_ret (pe_callB (cr_sumK (K := K) rfl rfl) (by rfl) m_sum (by decide +kernel) (pa_cons (pe_lcW (own := [("before", 3), ("price", 4), ("after", 5)]) (g := (gTup K 3 (gCons (gName 3) (gCons (gName 4) (gCons (gName 5) gNil))))) rfl sc_raise_cost.nd (pi_z3 (K := K) false false false rfl (by rfl) m_zip (pa_cons (pv 0) (pa_cons (pv 1) (pa_cons (pv 2) pa_nil)))) (blkOk_by (own := [("before", 3), ("price", 4), ("after", 5)]) (N := ["balances", "prices", "other", "before", "price", "after"]) (sc := defScope s_raise_cost) (by decide +kernel)) (fun _ _ _ _ _ => (pg_tup rfl (pgs_cons (pg_name (i := 3) sc_raise_cost.nd rfl (.inl rfl)) (pgs_cons (pg_name (i := 4) sc_raise_cost.nd rfl (.inl rfl)) (pgs_cons (pg_name (i := 5) sc_raise_cost.nd rfl (.inl rfl)) pgs_nil))))) (fun _ _ _ _ _ => pts_nil) (fun _ _ _ _ _ => (pe_op op_mul (pv 4) (pe_op op_sub (pv 5) (pv 3))))) pa_nil)))), ?_⟩
    refine ⟨_, rfl, _, rfl, _, rfl, p, _, d, _, o, _, rfl, hp, hd, ho, _, _, _, walk_z3 (ns := ns) (ms := ws) (ls := os) (n := c) (by omega), small1000 (by omega), fun D H1 nD k1 hD => ?_⟩
    refine ⟨fun i acc H2 => ∃ rs : List Int, acc = rs.map V.int ∧ rs.sum = dot (ws.take i) (ns.take i) (os.take i) ∧ Kp [] H H2 ∧ SqT K H2 p (ns.map V.int) ∧ SqT K H2 d (ws.map V.int) ∧ SqT K H2 o (os.map V.int), ⟨[], rfl, rfl, k1, k1.tup0 hp, k1.tup0 hd, k1.tup0 ho⟩, fun i acc H2 _ ⟨_, _, _, _, a, b, c⟩ => ⟨a, b, c⟩, ?_, ?_⟩
    · rintro i acc x H2 H3 hi ⟨rs, ea, er, k2, tp, td, to⟩ hD2 ⟨T, rfl, nT, kT, hT⟩
      have hD3 := kT.at0 hD2
      refine ⟨T, _, rfl, sqT hT, rfl, _, _, rfl, _, _, rfl, _, _, rfl, rfl, rfl, yesT ?_⟩
      refine ⟨_, rfl, _, rfl, _, rfl, _, _, rfl, rfl, _, _, rfl, rfl, ?_, hD3, fun H4 m4 h4 => ?_⟩
      · have hb := all_get hw (show i < ws.length by omega)
        exact .inl ⟨by omega, by omega⟩
      refine ⟨rs ++ [_], by rw [List.map_append, ea]; rfl, ?_, (k2.trans kT).md (.inl nD) m4, m4.kp.tup1 hD3 (kT.tup0 tp), m4.kp.tup1 hD3 (kT.tup0 td), m4.kp.tup1 hD3 (kT.tup0 to)⟩
      rw [dot_take ws ns os i (by omega) (by omega) (by omega), ← er]
      simp
    rintro acc H2 _ hD2 ⟨rs, ea, er, k2, _, _, _⟩
    subst ea
    rw [List.take_of_length_le (by omega), List.take_of_length_le (by omega), List.take_of_length_le (by omega)] at er
    refine ⟨D, _, rfl, sqL hD2, ?_⟩
    rw [er]
    exact q H2 k2
theorem ok_withdrawal_value {f : Addr} {fd : FuncData} {k : Nat} (F : Fun K "withdrawal_value" "withdrawal_value" s_withdrawal_value f fd) (m_sum : mg "sum" = none) (m_zip : mg "zip" = none) :
    FnG P w K mg base CX0 (k + 1) f fd ["balances", "values", "other"] (sp_withdrawal_value K) := by
  refine ok0 F sc_withdrawal_value (fun vs H Q E h => ?_) (fun cdv A outer s H vs Q E gd hr h => ?_)
  · obtain ⟨p, q, o, ns, ws, os, c, rfl, _⟩ := h
    rfl
  · obtain ⟨p, d, o, ns, ws, os, c, rfl, ⟨hp, hd, ho, e1, ⟨e2, hw⟩, e3, hc⟩, q⟩ := h
    refine ⟨_, (pss_one (ps_ret (pe_callB (cr_sumK (K := K) rfl rfl) (by rfl) m_sum (by decide +kernel) (pa_cons (pe_lcW (own := [("before", 3), ("value", 4), ("after", 5)]) (g := (gTup K 3 (gCons (gName 3) (gCons (gName 4) (gCons (gName 5) gNil))))) rfl sc_withdrawal_value.nd (pi_z3 (K := K) false false false rfl (by rfl) m_zip (pa_cons (pv 0) (pa_cons (pv 1) (pa_cons (pv 2) pa_nil)))) (blkOk_by (own := [("before", 3), ("value", 4), ("after", 5)]) (N := ["balances", "values", "other", "before", "value", "after"]) (sc := defScope s_withdrawal_value) (by decide +kernel)) (fun _ _ _ _ _ => (pg_tup rfl (pgs_cons (pg_name (i := 3) sc_withdrawal_value.nd rfl (.inl rfl)) (pgs_cons (pg_name (i := 4) sc_withdrawal_value.nd rfl (.inl rfl)) (pgs_cons (pg_name (i := 5) sc_withdrawal_value.nd rfl (.inl rfl)) pgs_nil))))) (fun _ _ _ _ _ => pts_nil) (fun _ _ _ _ _ => (pe_op op_mul (pv 4) (pe_op op_sub (pv 3) (pv 5))))) pa_nil)))), ?_⟩
    refine ⟨_, rfl, _, rfl, _, rfl, p, _, d, _, o, _, rfl, hp, hd, ho, _, _, _, walk_z3 (ns := ns) (ms := ws) (ls := os) (n := c) (by omega), small1000 (by omega), fun D H1 nD k1 hD => ?_⟩
    refine ⟨fun i acc H2 => ∃ rs : List Int, acc = rs.map V.int ∧ rs.sum = dot (ws.take i) (os.take i) (ns.take i) ∧ Kp [] H H2 ∧ SqT K H2 p (ns.map V.int) ∧ SqT K H2 d (ws.map V.int) ∧ SqT K H2 o (os.map V.int), ⟨[], rfl, rfl, k1, k1.tup0 hp, k1.tup0 hd, k1.tup0 ho⟩, fun i acc H2 _ ⟨_, _, _, _, a, b, c⟩ => ⟨a, b, c⟩, ?_, ?_⟩
    · rintro i acc x H2 H3 hi ⟨rs, ea, er, k2, tp, td, to⟩ hD2 ⟨T, rfl, nT, kT, hT⟩
      have hD3 := kT.at0 hD2
      refine ⟨T, _, rfl, sqT hT, rfl, _, _, rfl, _, _, rfl, _, _, rfl, rfl, rfl, yesT ?_⟩
      refine ⟨_, rfl, _, rfl, _, rfl, _, _, rfl, rfl, _, _, rfl, rfl, ?_, hD3, fun H4 m4 h4 => ?_⟩
      · have hb := all_get hw (show i < ws.length by omega)
        exact .inl ⟨by omega, by omega⟩
      refine ⟨rs ++ [_], by rw [List.map_append, ea]; rfl, ?_, (k2.trans kT).md (.inl nD) m4, m4.kp.tup1 hD3 (kT.tup0 tp), m4.kp.tup1 hD3 (kT.tup0 td), m4.kp.tup1 hD3 (kT.tup0 to)⟩
      rw [dot_take ws os ns i (by omega) (by omega) (by omega), ← er]
      simp
    rintro acc H2 _ hD2 ⟨rs, ea, er, k2, _, _, _⟩
    subst ea
    rw [List.take_of_length_le (by omega), List.take_of_length_le (by omega), List.take_of_length_le (by omega)] at er
    refine ⟨D, _, rfl, sqL hD2, ?_⟩
    rw [er]
    exact q H2 k2
/-! ### the first weak set -/
def byBal (ns : List Int) (i : Int) : Int × Int := (ns.getD i.toNat 0, i)
/-- the k first senders in ascending order of (balance, index), ascending -/
def IsWeak (ns : List Int) (k : Nat) (W : List Int) : Prop := W.Pairwise (· < ·) ∧ ∃ ms : List Int, ms.Perm (upto ns.length) ∧ ms.Pairwise (KLe (byBal ns)) ∧ W.Perm (ms.take k)
def sp_poorest_first (K : PySem.W.Frag) (T : List (Addr × Str)) : Sp := fun vs H Q _ => ∃ (p q : Addr) (ns ix : List Int), vs = [.ref p, .ref q] ∧ SqT K H p (ns.map V.int) ∧ SqL K H q (ix.map V.int) ∧ ix.length ≤ 1000 ∧ (∀ i ∈ ix, 0 ≤ i ∧ i < (ns.length : Int)) ∧ Tabs T H ∧
  ∀ l H' (ms : List Int), Kt T H H' → Nt H l → H' l = some (.lst (ms.map V.int)) → ms.Perm ix → ms.Pairwise (KLe (byBal ns)) → Q (.ref l) H'
def sp_weak_set (K : PySem.W.Frag) (T : List (Addr × Str)) : Sp := fun vs H Q _ => ∃ (p : Addr) (ns : List Int) (g : Int), vs = [.ref p, .int g] ∧ SqT K H p (ns.map V.int) ∧ 1 ≤ ns.length ∧ ns.length ≤ 40 ∧ 1 ≤ g ∧ Tabs T H ∧
  (gapOf g ns = none → ∀ H', Kp [] H H' → Q .non H') ∧ ∀ k, gapOf g ns = some k → ∀ t H' (W : List Int), Kt T H H' → SqT K H' t (W.map V.int) → IsWeak ns k W → Q (.ref t) H'
theorem ok_poorest_first {f c pt : Addr} {fd : FuncData} {k : Nat} {T : List (Addr × Str)} (F : Fun K "poorest_first" "poorest_first" s_poorest_first f fd) (hcd : fd.code = .ref c) (TB : TabB base mg c pt) (hmT : (pt, qLam "poorest_first") ∈ T) (huT : ∀ r ∈ T, r.1 = pt → r.2 = qLam "poorest_first") (m_sorted : mg "sorted" = none) :
    FnG P w K mg base CX0 (k + 4) f fd ["balances", "senders"] (sp_poorest_first K T) := by
  refine okC F hcd sc_poorest_first (fun vs H Q E h => ?_) (fun A outer s H vs Q E gd hr h => ?_)
  · obtain ⟨p, q, ns, ix, rfl, _⟩ := h
    rfl
  · obtain ⟨p, q, ns, ix, rfl, hp, hq, hl, hb, hT, w⟩ := h
    refine ⟨_, (pss_one (ps_ret (pe_sortK (K := K) (T := T) (k := 0) (i := 2) rfl rfl TB rfl hmT huT (hr.mono (by omega)) (lam1_by (sc := defScope s_poorest_first) (by decide +kernel)) sc_poorest_first.nd rfl rfl (fun _ _ _ _ _ _ => rfl) (fun _ _ _ _ => (pe_ti (pa_cons (pe_ix (ix_tiK (K := K) rfl) (pv 0) (pv 2) (fun _ _ => rfl)) (pa_cons (pv 2) pa_nil)))) (by rfl) m_sorted (pa_cons (pv 1) pa_nil)))), ?_⟩
    refine ⟨_, rfl, q, ix, byBal ns, rfl, hq, hl, hT, fun H2 k2 => ⟨fun n hn H' k' => ?_, fun ms pm sm l H3 nl k3 h3 => ?_⟩⟩
    · have hn2 := hb n hn
      refine ⟨_, rfl, _, rfl, p, ns, n, rfl, rfl, k'.tup0 (k2.tup0 hp), hn2, _, rfl, [_, _], rfl, Nat.le_of_ble_eq_true rfl, fun U H4 nU k4 h4 => ?_⟩
      exact ⟨k4, U, rfl, h4⟩
    · exact w l H3 ms (k2.kp k3) (k2.nt0 nl) h3 pm sm
theorem upto_nodup (n : Nat) : (upto n).Pairwise (· < ·) := by
  unfold upto
  rw [List.pairwise_map]
  refine List.Pairwise.imp ?_ (List.pairwise_lt_range (n := n))
  intro a b h
  omega
theorem upto_mem {n : Nat} {i : Int} : i ∈ upto n ↔ 0 ≤ i ∧ i < (n : Int) := by
  unfold upto
  rw [List.mem_map]
  constructor
  · rintro ⟨a, ha, rfl⟩
    have := List.mem_range.mp ha
    omega
  · rintro ⟨h1, h2⟩
    exact ⟨i.toNat, List.mem_range.mpr (by omega), by omega⟩
theorem perm_lt {a b : List Int} (p : a.Perm b) (hb : b.Pairwise (· ≠ ·)) (ha : a.Pairwise (· ≤ ·)) : a.Pairwise (· < ·) := by
  have hn : a.Pairwise (· ≠ ·) := (p.pairwise_iff (fun h => Ne.symm h)).mpr hb
  exact (ha.and hn).imp fun {x y} h => by omega
theorem ok_weak_set {f : Addr} {fd : FuncData} {k : Nat} {T : List (Addr × Str)} (F : Fun K "weak_set" "weak_set" s_weak_set f fd) (m_list : mg "list" = none) (m_range : mg "range" = none) (m_len : mg "len" = none) (m_tuple : mg "tuple" = none) (m_sorted : mg "sorted" = none)
    (C_gap : Cl P w K mg base CX0 2 "gap" 2 (sp_gap K)) (C_poorest_first : Cl P w K mg base CX0 4 "poorest_first" 2 (sp_poorest_first K T)) :
    FnG P w K mg base CX0 (k + 5) f fd ["balances", "budget"] (sp_weak_set K T) := by
  refine ok0 F sc_weak_set (fun vs H Q E h => ?_) (fun cdv A outer s H vs Q E gd hr h => ?_)
  · obtain ⟨p, ns, g, rfl, _⟩ := h
    rfl
  · obtain ⟨p, ns, g, rfl, hp, hl1, hl, hg, hT, w0, w1⟩ := h
    refine ⟨_, (pss_cons (ps_set (i := 2) sc_weak_set.nd rfl (.inl rfl) (pe_cl C_gap (hr.mono (by omega)) gd pass0 (by rfl) (pa_cons (pv 0) (pa_cons (pv 1) pa_nil))))
      (pss_cons (ps_if (pt_cmpR op_isN (pv 2) pe_non (nomark _))
      (pss_one (ps_ret pe_non))
      pss_nil)
      (pss_cons (ps_set (i := 3) sc_weak_set.nd rfl (.inl rfl) (pe_cl C_poorest_first (hr.mono (by omega)) gd pass0 (by rfl) (pa_cons (pv 0) (pa_cons (pe_listUp rfl (by rfl) m_list (by rfl) m_range (pe_callB (call_len_seqK (K := K) rfl) (by rfl) m_len (by decide +kernel) (pa_cons (pv 0) pa_nil))) pa_nil))))
      (pss_one (ps_ret (pe_callTy (call_tupLK (K := K) rfl) (by rfl) m_tuple (by decide +kernel) (pa_cons (pe_callB (cr_srtLK (K := K) rfl) (by rfl) m_sorted (by decide +kernel) (pa_cons (pe_slice (sl_liToK (K := K) rfl) (pv 3) po_none (po_some (pe_ix (ix_tiK (K := K) rfl) (pv 2) pe_int (fun _ _ => rfl)))) pa_nil)) pa_nil))))))), ?_⟩
    refine ⟨_, rfl, _, rfl, p, ns, g, rfl, hp, hl1, hl, hg, fun r H1 k1 hd => ?_⟩
    have hp1 := k1.tup0 hp
    unfold gapD at hd
    cases eg : gapOf g ns with
    | none =>
      rw [eg] at hd
      cases hd
      refine ⟨_, rfl, rfl, _, rfl, ?_⟩
      refine (show if decide (V.non = V.non) = true then _ else _ from ifYes rfl ?_)
      exact w0 eg H1 k1
    | some kk =>
      have hk := gap_range eg
      rw [eg] at hd
      obtain ⟨t, rfl, ht⟩ : ∃ t, r = .ref t ∧ SqT K H1 t (([(kk : Int), SS ns kk, R g kk] : List Int).map V.int) := by
        cases hd with
        | tup sq al =>
          cases al with
          | cons x1 al =>
            cases x1
            cases al with
            | cons x2 al =>
              cases x2
              cases al with
              | cons x3 al =>
                cases x3
                cases al
                exact ⟨_, rfl, sq⟩
      refine ⟨_, rfl, rfl, _, rfl, ?_⟩
      refine (show if decide (V.ref t = V.non) = true then _ else _ from ifNo (fun z => nomatch z) ?_)
      refine ⟨_, rfl, _, rfl, p, _, rfl, .inr hp1, ns.length, ?_, by omega, fun u H2 nu k2 h2 => ?_⟩
      · rw [List.length_map]
      have kk2 := k1.trans k2
      refine ⟨p, u, ns, upto ns.length, rfl, kk2.tup0 hp, sqL h2, by rw [upto_len]; omega, fun i hi => upto_mem.mp hi, hT.ext fun b o e => kk2.at0 e, fun l H3 ms k3 nl h3 pm sm => ?_⟩
      have ht3 := k3.tup0 (k2.tup0 ht)
      refine ⟨_, rfl, _, rfl, t, [(kk : Int), SS ns kk, R g kk], _, rfl, rfl, ht3, ⟨by decide, show (0 : Int) < ((3 : Nat) : Int) by decide⟩, _, rfl, l, ms, _, rfl, rfl, rfl, sqL h3, show (0 : Int) ≤ (kk : Int) by omega, fun s4 H4 n4 k4 h4 => ?_⟩
      have h4 : H4 s4 = some (.lst ((ms.take ((kk : Int)).toNat).map V.int)) := h4
      rw [show ((kk : Int)).toNat = kk by omega] at h4
      refine ⟨s4, ms.take kk, rfl, sqL h4, fun W pW sW s5 H5 n5 k5 h5 => ?_⟩
      refine ⟨s5, _, rfl, sqL h5, fun s6 H6 n6 k6 h6 => ?_⟩
      have kt : Kt T H H6 := ((kk2.kt (T := T)).trans k3).kp ((k4.trans k5).trans k6)
      refine w1 kk eg s6 H6 W kt (sqT h6) ⟨perm_lt pW ?_ sW, ms, pm, sm, pW⟩
      have hnd : ms.Pairwise (· ≠ ·) := (pm.pairwise_iff (fun h => Ne.symm h)).mpr ((upto_nodup ns.length).imp fun {a b} h => by omega)
      exact hnd.sublist (List.take_sublist _ _)
/-! ### safe balances, the general weak_set -/
def sp_require_safe (K : PySem.W.Frag) (T : List (Addr × Str)) : Sp := fun vs H Q _ => ∃ (p : Addr) (ns : List Int) (g : Int), vs = [.ref p, .int g] ∧ SqT K H p (ns.map V.int) ∧ 1 ≤ ns.length ∧ ns.length ≤ 40 ∧ 1 ≤ g ∧ gapOf g ns = none ∧ Tabs T H ∧ ∀ H', Kp [] H H' → Q .non H'
theorem ok_require_safe {f : Addr} {fd : FuncData} {k : Nat} {T : List (Addr × Str)} (F : Fun K "require_safe" "require_safe" s_require_safe f fd)
    (C_weak_set : Cl P w K mg base CX0 5 "weak_set" 2 (sp_weak_set K T)) :
    FnG P w K mg base CX0 (k + 6) f fd ["balances", "budget"] (sp_require_safe K T) := by
  refine ok0 F sc_require_safe (fun vs H Q E h => ?_) (fun cdv A outer s H vs Q E gd hr h => ?_)
  · obtain ⟨p, ns, g, rfl, _⟩ := h
    rfl
  · obtain ⟨p, ns, g, rfl, hp, hl1, hl, hg, eg, hT, q⟩ := h
    refine ⟨_, (pss_cons (ps_set (i := 2) sc_require_safe.nd rfl (.inl rfl) (pe_cl C_weak_set (hr.mono (by omega)) gd pass0 (by rfl) (pa_cons (pv 0) (pa_cons (pv 1) pa_nil))))
      (pss_one (ps_if (pt_cmpR op_notN (pv 2) pe_non (nomark _))
      (pss_one ps_never)
      pss_nil))), ?_⟩
    refine ⟨_, rfl, _, rfl, p, ns, g, rfl, hp, hl1, hl, hg, hT, fun _ H1 k1 => ?_, fun k e => by rw [eg] at e; cases e⟩
    refine ⟨_, rfl, rfl, _, rfl, ?_⟩
    refine (show if (!decide (V.non = V.non)) = true then _ else _ from iteNS rfl ?_)
    exact q H1 k1
/-! ### withdrawn: each in its turn as low as the others let it -/
inductive Wd (g : Int) : List Int → List Int → List Int → Prop
  | nil {ns : List Int} : Wd g [] ns ns
  | cons {i : Nat} {is ns fs : List Int} {v : Int} : i < ns.length → IsLB g (ns.eraseIdx i) v → Wd g is (ns.set i v) fs → Wd g ((i : Int) :: is) ns fs
def sp_withdrawn (K : PySem.W.Frag) (T : List (Addr × Str)) : Sp := fun vs H Q _ => ∃ (p w : Addr) (ns ws : List Int) (g : Int), vs = [.ref p, .ref w, .int g] ∧ SqT K H p (ns.map V.int) ∧ SqT K H w (ws.map V.int) ∧ ws.length = ns.length ∧ 1 ≤ ns.length ∧ ns.length ≤ 40 ∧ 1 ≤ g ∧ gapOf g ns = none ∧ Tabs T H ∧
  ∀ t H' (ms fs : List Int), Kt T H H' → Nt H t → H' t = some (.tup (fs.map V.int)) → ms.Perm (upto ns.length) → ms.Pairwise (KLe (byPr ws)) → Wd g ms ns fs → Q (.ref t) H'
theorem erase_cut' (ns : List Int) (i : Nat) : ns.take i ++ ns.drop (i + 1) = ns.eraseIdx i := (List.eraseIdx_eq_take_drop_succ ns i).symm
theorem ok_withdrawn {f : Addr} {fd : FuncData} {k : Nat} {T : List (Addr × Str)} (F : Fun K "withdrawn" "withdrawn" s_withdrawn f fd) (m_list : mg "list" = none) (m_tuple : mg "tuple" = none)
    (C_require_safe : Cl P w K mg base CX0 6 "require_safe" 2 (sp_require_safe K T)) (C_dearest_first : Cl P w K mg base CX0 4 "dearest_first" 1 (sp_dearest_first K T)) (C_least_beside : Cl P w K mg base CX0 2 "least_beside" 2 (sp_least_beside K)) :
    FnG P w K mg base CX0 (k + 7) f fd ["balances", "values", "budget"] (sp_withdrawn K T) := by
  refine ok0 F sc_withdrawn (fun vs H Q E h => ?_) (fun cdv A outer s H vs Q E gd hr h => ?_)
  · obtain ⟨p, wa, ns, ws, g, rfl, _⟩ := h
    rfl
  · obtain ⟨p, wa, ns, ws, g, rfl, hp, hw, wl, hl1, hl, hg, eg, hT, q⟩ := h
    refine ⟨_, (pss_cons (ps_expr (pe_cl C_require_safe (hr.mono (by omega)) gd pass0 (by rfl) (pa_cons (pv 0) (pa_cons (pv 2) pa_nil))))
      (pss_cons (ps_set (i := 3) sc_withdrawn.nd rfl (.inl rfl) (pe_callTy (call_lstTK (K := K) rfl) (by rfl) m_list (by decide +kernel) (pa_cons (pv 0) pa_nil)))
      (pss_cons (ps_forW PassesOwn.never rfl (pi_list (pe_cl C_dearest_first (hr.mono (by omega)) gd pass0 (by rfl) (pa_cons (pv 1) pa_nil))) (pg_name (i := 4) sc_withdrawn.nd rfl (.inl rfl))
      (pss_one (ps_asg (pe_cl C_least_beside (hr.mono (by omega)) gd pass0 (by rfl) (pa_cons (pe_op op_catI (pe_slice (sl_liToK (K := K) rfl) (pv 3) po_none (po_some (pv 4))) (pe_slice (sl_liFrom (K := K) rfl) (pv 3) (po_some (pe_op op_add (pv 4) pe_int)) po_none)) (pa_cons (pv 2) pa_nil))) (pg_sub (pv 3) (pv 4) set_li))))
      (pss_one (ps_ret (pe_callTy (call_tupLK (K := K) rfl) (by rfl) m_tuple (by decide +kernel) (pa_cons (pv 3) pa_nil))))))), ?_⟩
    refine ⟨_, rfl, _, rfl, p, ns, g, rfl, hp, hl1, hl, hg, eg, hT, fun H1 k1 => ?_⟩
    refine ⟨_, rfl, p, _, rfl, k1.tup0 hp, fun fo H2 nfo k2 h2 => ?_⟩
    have k2 := k1.trans k2
    refine ⟨_, rfl, wa, ws, rfl, k2.tup0 hw, by omega, k2.kt.tab hT, fun l H3 ms k3 nl h3 pm sm => ?_⟩
    have h23 := k3.atL h2
    have zfo : Nt H fo := nt0 (k1.free0 nfo)
    have k3 := k2.kt.trans k3
    rw [wl] at pm
    have ml : ms.length = ns.length := by rw [pm.length_eq, upto_len]
    have nlf : l ≠ fo := fun z => by
      subst z
      obtain ⟨ps, e⟩ := nl _ h2
      exact nomatch e
    refine ⟨l, rfl, ⟨_, sqL h3⟩, _, _, _, walk_li (ns := ms), fun i σ H4 => ∃ (cur : List Int) (y4 : Option V), σ = [some (.ref p), some (.ref wa), some (.int g), some (.ref fo), y4] ∧ Kt T H H4 ∧ IL H4 fo cur ∧ IL H4 l ms ∧ cur.length = ns.length ∧ (∀ fs, Wd g (ms.drop i) cur fs → Wd g ms ns fs),
      ⟨ns, _, rfl, k3, h23, h3, rfl, fun _ z => z⟩, fun _ _ _ _ ⟨_, _, _, _, _, z, _⟩ => sqL z, ?_, ?_⟩
    · rintro i x σ _ H4 hi ⟨cur, y4, rfl, k4, hf4, hl4, cl, hS⟩ ⟨rfl, rfl⟩
      obtain ⟨j, ej, hj⟩ := order_at pm hi
      rw [drop_getD hi, ej] at hS
      rw [ej]
      have ejn : ((j : Int)).toNat = j := by omega
      have ejn2 : ((j : Int) + 1).toNat = j + 1 := by omega
      refine ⟨_, rfl, _, rfl, _, rfl, fo, cur, _, rfl, rfl, rfl, sqL hf4, by omega, fun u H5 nu k5 h5 => ?_⟩
      refine ⟨_, rfl, _, rfl, _, _, rfl, rfl, _, rfl, fo, cur, _, rfl, rfl, rfl, sqL (k5.at0 hf4), by omega, fun v H6 nv k6 h6 => ?_⟩
      refine ⟨u, v, _, _, rfl, rfl, k6.at0 h5, h6, ?_, fun r H7 nr k7 h7 => ?_⟩
      · rw [List.length_take, List.length_drop]
        exact Nat.le_trans (show _ ≤ 80 by omega) (Nat.le_of_ble_eq_true rfl)
      rw [ejn, ejn2, erase_cut'] at h7
      have k7 := (k5.trans k6).trans k7
      refine ⟨_, rfl, r, _, g, rfl, .inl (sqL h7), by rw [List.length_eraseIdx]; split <;> omega, hg, fun m H8 k8 hm => ?_⟩
      have k8 := k7.trans k8
      have hf8 := k8.at0 hf4
      have hl8 := k8.at0 hl4
      refine ⟨_, rfl, _, rfl, fo, cur, _, _, rfl, rfl, rfl, hf8, ⟨by omega, by omega⟩, fun H9 m9 h9 => ?_⟩
      rw [ejn] at h9
      exact ⟨cur.set j m, _, rfl, (k4.kp k8).md zfo hf8 m9, h9, (m9 l nlf).trans hl8, by rw [List.length_set, cl], fun fs z => hS fs (.cons (by omega) hm z)⟩
    · rintro σ H4 ⟨cur, y4, rfl, k4, hf4, hl4, cl, hS⟩
      rw [List.drop_eq_nil_of_le (Nat.le_refl _)] at hS
      refine ⟨_, rfl, fo, _, rfl, sqL hf4, fun u H5 nu k5 h5 => ?_⟩
      exact q u H5 ms cur (k4.kp k5) (k4.nt0 nu) h5 pm sm (hS cur .nil)
/-! ### isint, of anything -/
def sp_is_integer (K : PySem.W.Frag) : Sp := fun vs H Q _ => ∃ v : V, vs = [v] ∧ Kn K H v ∧ Q (.bl (isI v)) H
theorem ok_is_integer {f : Addr} {fd : FuncData} {k : Nat} (F : Fun K "is_integer" "is_integer" s_is_integer f fd) (m_isinstance : mg "isinstance" = none) (m_int : mg "int" = none) (m_bool : mg "bool" = none) :
    FnG P w K mg base CX0 (k + 1) f fd ["thing"] (sp_is_integer K) := by
  refine ok0 F sc_is_integer (fun vs H Q E h => ?_) (fun cdv A outer s H vs Q E gd hr h => ?_)
  · obtain ⟨i, rfl, _⟩ := h
    rfl
  · obtain ⟨v, rfl, ⟨c, b1, b2, ty, k1, k2, e⟩, q⟩ := h
    refine ⟨_, (pss_one (ps_ret (pe_and (pe_callB (call_isiB (K := K) rfl) (by rfl) m_isinstance (by decide +kernel) (pa_cons (pv 0) (pa_cons (pe_bltn (v := .ty "int") (by rfl) m_int rfl rfl) pa_nil))) (pe_one (pe_not (pe_callB (call_isiB (K := K) rfl) (by rfl) m_isinstance (by decide +kernel) (pa_cons (pv 0) (pa_cons (pe_bltn (v := .ty "bool") (by rfl) m_bool rfl rfl) pa_nil)))))))), ?_⟩
    refine ⟨_, rfl, _, _, _, _, rfl, ty, k1, _, rfl, ?_⟩
    cases b1 with
    | false =>
      refine iteF ?_
      rw [← e] at q
      exact q
    | true =>
      refine iteT ?_
      refine ⟨_, rfl, _, _, _, _, rfl, ty, k2, _, rfl, ?_⟩
      rw [← e] at q
      exact q
def sp_is_between (K : PySem.W.Frag) : Sp := fun vs H Q _ => ∃ i a b : Int, vs = [.int i, .int a, .int b] ∧ Q (.bl (decide (a ≤ i ∧ i ≤ b))) H
theorem ok_is_between {f : Addr} {fd : FuncData} {k : Nat} (F : Fun K "is_between" "is_between" s_is_between f fd)
    (C_is_integer : Cl P w K mg base CX0 1 "is_integer" 1 (sp_is_integer K)) :
    FnG P w K mg base CX0 (k + 2) f fd ["thing", "least", "most"] (sp_is_between K) := by
  refine ok0 F sc_is_between (fun vs H Q E h => ?_) (fun cdv A outer s H vs Q E gd hr h => ?_)
  · obtain ⟨i, a, b, rfl, _⟩ := h
    rfl
  · obtain ⟨i, a, b, rfl, q⟩ := h
    refine ⟨_, (pss_one (ps_ret (pe_and (pe_cl C_is_integer (hr.mono (by omega)) gd pass0 (by rfl) (pa_cons (pv 0) pa_nil)) (pe_one (pe_chain op_le op_le (pv 1) (pv 0) (pv 2)))))), ?_⟩
    refine ⟨_, rfl, .int i, rfl, .int i, _, rfl, iteT ?_⟩
    refine ⟨_, rfl, _, rfl, _, _, rfl, rfl, _, rfl, ite2 (fun e => ?_) (fun e => ?_)⟩
    · have e' := of_decide_eq_true e
      refine ⟨_, rfl, _, _, rfl, rfl, ?_⟩
      show Q (.bl (decide (i ≤ b))) H
      have : decide (i ≤ b) = decide (a ≤ i ∧ i ≤ b) := decide_eq_decide.mpr ⟨fun h => ⟨e', h⟩, fun h => h.2⟩
      rw [this]
      exact q
    · have : decide (a ≤ i ∧ i ≤ b) = false := decide_eq_false (fun h => e (decide_eq_true h.1))
      rw [this] at q
      exact q
/-! ### grants -/
def sp_require_sender (K : PySem.W.Frag) : Sp := fun vs H Q _ => ∃ (p : Addr) (ns : List Int) (i : Nat), vs = [.ref p, .int (i : Int)] ∧ SqT K H p (ns.map V.int) ∧ i < ns.length ∧ Q .non H
theorem ok_require_sender {f : Addr} {fd : FuncData} {k : Nat} (F : Fun K "require_sender" "require_sender" s_require_sender f fd) (m_len : mg "len" = none)
    (C_is_between : Cl P w K mg base CX0 2 "is_between" 3 (sp_is_between K)) :
    FnG P w K mg base CX0 (k + 3) f fd ["balances", "sender"] (sp_require_sender K) := by
  refine ok0 F sc_require_sender (fun vs H Q E h => ?_) (fun cdv A outer s H vs Q E gd hr h => ?_)
  · obtain ⟨p, ns, i, rfl, _⟩ := h
    rfl
  · obtain ⟨p, ns, i, rfl, hp, hi, q⟩ := h
    refine ⟨_, (pss_one (ps_if (pt_not (pt_val (pe_cl C_is_between (hr.mono (by omega)) gd pass0 (by rfl) (pa_cons (pv 1) (pa_cons pe_int (pa_cons (pe_op op_sub (pe_callB (call_len_seqK (K := K) rfl) (by rfl) m_len (by decide +kernel) (pa_cons (pv 0) pa_nil)) pe_int) pa_nil))))))
      (pss_one ps_never)
      pss_nil)), ?_⟩
    refine ⟨_, rfl, _, rfl, p, _, rfl, .inr hp, _, _, rfl, rfl, _, _, _, rfl, ?_⟩
    rw [List.length_map, decide_eq_true (show (0 : Int) ≤ (i : Int) ∧ (i : Int) ≤ (ns.length : Int) - 1 by omega)]
    exact ⟨_, rfl, iteF q⟩
def sp_after_grant (K : PySem.W.Frag) : Sp := fun vs H Q _ => ∃ (p : Addr) (ns : List Int) (i : Nat) (g : Int), vs = [.ref p, .int (i : Int), .int g] ∧ SqT K H p (ns.map V.int) ∧ ns.length ≤ 40 ∧ i < ns.length ∧
  ∀ q H', H q = none → Kp [] H H' → H' q = some (.tup ((granted ns i g).map V.int)) → Q (.ref q) H'
theorem granted_take {ns : List Int} {i : Nat} {g : Int} (hi : i < ns.length) (j : Nat) (hj : j < ns.length) : (granted ns i g).take (j + 1) = (granted ns i g).take j ++ [if (j : Int) = (i : Int) then ns.getD j 0 + g else ns.getD j 0] := by
  have e : (granted ns i g)[j]? = some (if (j : Int) = (i : Int) then ns.getD j 0 + g else ns.getD j 0) := by
    unfold granted
    rw [List.getElem?_set]
    by_cases c : i = j
    · subst c
      simp [hi]
    · rw [if_neg c, if_neg (by omega), List.getElem?_eq_getElem hj, List.getD_eq_getElem?_getD, List.getElem?_eq_getElem hj]
      rfl
  rw [List.take_add_one, e]
  rfl
def sp_spare_at (K : PySem.W.Frag) : Sp := fun vs H Q _ => ∃ (p : Addr) (ns : List Int) (g : Int) (i : Nat), vs = [.ref p, .int g, .int (i : Int)] ∧ SqT K H p (ns.map V.int) ∧ ns.length ≤ 40 ∧ i < ns.length ∧ 1 ≤ g ∧
  ∀ m H', Kp [] H H' → IsLB g (ns.eraseIdx i) m → Q (.int (ns.getD i 0 - m)) H'
theorem erase_cut (ns : List Int) (i : Nat) : ns.take i ++ ns.drop (i + 1) = ns.eraseIdx i := (List.eraseIdx_eq_take_drop_succ ns i).symm
theorem ok_spare_at {f : Addr} {fd : FuncData} {k : Nat} (F : Fun K "spare_at" "spare_at" s_spare_at f fd)
    (C_least_beside : Cl P w K mg base CX0 2 "least_beside" 2 (sp_least_beside K)) :
    FnG P w K mg base CX0 (k + 3) f fd ["balances", "budget", "sender"] (sp_spare_at K) := by
  refine ok0 F sc_spare_at (fun vs H Q E h => ?_) (fun cdv A outer s H vs Q E gd hr h => ?_)
  · obtain ⟨p, ns, g, i, rfl, _⟩ := h
    rfl
  · obtain ⟨p, ns, g, i, rfl, hp, hl, hi, hg, q⟩ := h
    have ei : ((i : Int)).toNat = i := by omega
    have ei2 : ((i : Int) + 1).toNat = i + 1 := by omega
    refine ⟨_, (pss_one (ps_ret (pe_op op_sub (pe_ix (ix_tiK (K := K) rfl) (pv 0) (pv 2) (fun _ _ => rfl)) (pe_cl C_least_beside (hr.mono (by omega)) gd pass0 (by rfl) (pa_cons (pe_op (op_catTI (K := K) rfl) (pe_slice (sl_tiTo (K := K) rfl) (pv 0) po_none (po_some (pv 2))) (pe_slice (sl_tiFrom (K := K) rfl) (pv 0) (po_some (pe_op op_add (pv 2) pe_int)) po_none)) (pa_cons (pv 1) pa_nil)))))), ?_⟩
    refine ⟨_, rfl, _, rfl, p, ns, _, rfl, rfl, hp, ⟨by omega, by omega⟩, ?_⟩
    refine ⟨_, rfl, _, rfl, _, rfl, p, ns, _, rfl, rfl, rfl, hp, by omega, fun u H1 _ k1 h1 => ?_⟩
    refine ⟨_, rfl, _, rfl, _, _, rfl, rfl, _, rfl, p, ns, _, rfl, rfl, rfl, k1.tup0 hp, by omega, fun v H2 k2 h2 => ?_⟩
    refine ⟨u, v, _, _, rfl, rfl, k2.tup0 h1, h2, ?_, fun r H3 k3 h3 => ?_⟩
    · rw [List.length_take, List.length_drop]
      exact Nat.le_trans (show _ ≤ 80 by omega) (Nat.le_of_ble_eq_true rfl)
    rw [ei, ei2, erase_cut] at h3
    refine ⟨_, rfl, r, _, g, rfl, .inr h3, by rw [List.length_eraseIdx]; split <;> omega, hg, fun m H4 k4 hm => ?_⟩
    refine ⟨_, _, rfl, rfl, ?_⟩
    rw [ei]
    exact q m H4 (((k1.trans k2).trans k3).trans k4) hm
def sp_spare (K : PySem.W.Frag) (T : List (Addr × Str)) : Sp := fun vs H Q _ => ∃ (p : Addr) (ns : List Int) (g : Int) (i : Nat), vs = [.ref p, .int g, .int (i : Int)] ∧ SqT K H p (ns.map V.int) ∧ ns.length ≤ 40 ∧ i < ns.length ∧ 1 ≤ g ∧ gapOf g ns = none ∧ Tabs T H ∧
  ∀ m H', Kp [] H H' → IsLB g (ns.eraseIdx i) m → Q (.int (ns.getD i 0 - m)) H'
theorem ok_spare {f : Addr} {fd : FuncData} {k : Nat} {T : List (Addr × Str)} (F : Fun K "spare" "spare" s_spare f fd)
    (C_require_safe : Cl P w K mg base CX0 6 "require_safe" 2 (sp_require_safe K T)) (C_require_sender : Cl P w K mg base CX0 3 "require_sender" 2 (sp_require_sender K)) (C_spare_at : Cl P w K mg base CX0 3 "spare_at" 3 (sp_spare_at K)) :
    FnG P w K mg base CX0 (k + 7) f fd ["balances", "budget", "sender"] (sp_spare K T) := by
  refine ok0 F sc_spare (fun vs H Q E h => ?_) (fun cdv A outer s H vs Q E gd hr h => ?_)
  · obtain ⟨p, ns, g, i, rfl, _⟩ := h
    rfl
  · obtain ⟨p, ns, g, i, rfl, hp, hl, hi, hg, eg, hT, q⟩ := h
    refine ⟨_, (pss_cons (ps_expr (pe_cl C_require_safe (hr.mono (by omega)) gd pass0 (by rfl) (pa_cons (pv 0) (pa_cons (pv 1) pa_nil))))
      (pss_cons (ps_expr (pe_cl C_require_sender (hr.mono (by omega)) gd pass0 (by rfl) (pa_cons (pv 0) (pa_cons (pv 2) pa_nil))))
      (pss_one (ps_ret (pe_cl C_spare_at (hr.mono (by omega)) gd pass0 (by rfl) (pa_cons (pv 0) (pa_cons (pv 1) (pa_cons (pv 2) pa_nil)))))))), ?_⟩
    refine ⟨_, rfl, _, rfl, p, ns, g, rfl, hp, by omega, hl, hg, eg, hT, fun H1 k1 => ?_⟩
    refine ⟨_, rfl, _, rfl, p, ns, i, rfl, k1.tup0 hp, hi, ?_⟩
    refine ⟨_, rfl, _, rfl, _, rfl, p, ns, g, i, rfl, k1.tup0 hp, hl, hi, hg, fun m H2 k2 hm => ?_⟩
    exact q m H2 (k1.trans k2) hm
/-- us are the spares of ns -/
def IsSp (g : Int) (ns us : List Int) : Prop := us.length = ns.length ∧ ∀ i, i < ns.length → IsLB g (ns.eraseIdx i) (ns.getD i 0 - us.getD i 0)
def sp_spares (K : PySem.W.Frag) (T : List (Addr × Str)) : Sp := fun vs H Q _ => ∃ (p : Addr) (ns : List Int) (g : Int), vs = [.ref p, .int g] ∧ SqT K H p (ns.map V.int) ∧ 1 ≤ ns.length ∧ ns.length ≤ 40 ∧ 1 ≤ g ∧ gapOf g ns = none ∧ Tabs T H ∧
  ∀ q H' (us : List Int), H q = none → Kp [] H H' → H' q = some (.tup (us.map V.int)) → IsSp g ns us → Q (.ref q) H'
theorem ok_spares {f : Addr} {fd : FuncData} {k : Nat} {T : List (Addr × Str)} (F : Fun K "spares" "spares" s_spares f fd) (m_tuple : mg "tuple" = none) (m_range : mg "range" = none) (m_len : mg "len" = none)
    (C_require_safe : Cl P w K mg base CX0 6 "require_safe" 2 (sp_require_safe K T)) (C_spare_at : Cl P w K mg base CX0 3 "spare_at" 3 (sp_spare_at K)) :
    FnG P w K mg base CX0 (k + 7) f fd ["balances", "budget"] (sp_spares K T) := by
  refine ok0 F sc_spares (fun vs H Q E h => ?_) (fun cdv A outer s H vs Q E gd hr h => ?_)
  · obtain ⟨p, ns, g, rfl, _⟩ := h
    rfl
  · obtain ⟨p, ns, g, rfl, hp, hl1, hl, hg, eg, hT, q⟩ := h
    refine ⟨_, (pss_cons (ps_expr (pe_cl C_require_safe (hr.mono (by omega)) gd pass0 (by rfl) (pa_cons (pv 0) (pa_cons (pv 1) pa_nil))))
      (pss_one (ps_ret (pe_callTy (call_tupLK (K := K) rfl) (by rfl) m_tuple (by decide +kernel) (pa_cons (pe_lcW (own := [("sender", 2)]) (g := (gName 2)) rfl sc_spares.nd (pi_range1 (by rfl) m_range (pa_cons (pe_callB (call_len_seqK (K := K) rfl) (by rfl) m_len (by decide +kernel) (pa_cons (pv 0) pa_nil)) pa_nil)) (blkOk_by (own := [("sender", 2)]) (N := ["balances", "budget", "sender"]) (sc := defScope s_spares) (by decide +kernel)) (fun _ _ _ _ _ => (pg_name (i := 2) sc_spares.nd rfl (.inl rfl))) (fun _ _ _ _ _ => pts_nil) (fun _ _ _ _ _ => (pe_cl C_spare_at (hr.mono (by omega)) gd pass0 (by rfl) (pa_cons (pv 0) (pa_cons (pv 1) (pa_cons (pv 2) pa_nil)))))) pa_nil))))), ?_⟩
    refine ⟨_, rfl, _, rfl, p, ns, g, rfl, hp, hl1, hl, hg, eg, hT, fun H1 k1 => ?_⟩
    have en : ((ns.map V.int).length : Int).toNat = ns.length := by rw [List.length_map]; omega
    refine ⟨_, rfl, p, _, rfl, .inr (k1.tup0 hp), _, rfl, by omega, by rw [List.length_map]; omega, _, _, _, walk_rg, small1000 (by omega), fun D H2 nD k2 hD => ?_⟩
    have zD : H D = none := k1.free0 nD
    refine ⟨fun i acc H3 => ∃ us : List Int, acc = us.map V.int ∧ us.length = i ∧ (∀ j, j < i → IsLB g (ns.eraseIdx j) (ns.getD j 0 - us.getD j 0)) ∧ Kp [] H H3 ∧ SqT K H3 p (ns.map V.int), ⟨[], rfl, rfl, fun j hj => absurd hj (Nat.not_lt_zero _), k1.trans k2, k2.tup0 (k1.tup0 hp)⟩, fun _ _ _ _ _ => trivial, ?_, ?_⟩
    · rintro i acc x _ H3 hi ⟨us, ea, el, hu, k3, hp3⟩ hD3 ⟨rfl, rfl⟩
      rw [en] at hi
      refine ⟨rfl, yesT ?_⟩
      refine ⟨_, rfl, _, rfl, _, rfl, p, ns, g, i, ?_, hp3, hl, hi, hg, fun m H4 k4 hm => ?_⟩
      · rw [show (0 : Int) + (i : Int) = (i : Int) by omega]
        rfl
      have hD4 := k4.at0 hD3
      refine ⟨hD4, fun H5 m5 h5 => ?_⟩
      refine ⟨us ++ [_], by rw [List.map_append, ea]; rfl, by rw [List.length_append, el]; rfl, fun j hj => ?_, (k3.trans k4).md (.inl zD) m5, m5.kp.tup1 hD4 (k4.tup0 hp3)⟩
      by_cases e : j = i
      · subst e
        rw [show (us ++ [ns.getD j 0 - m]).getD j 0 = ns.getD j 0 - m by rw [List.getD_eq_getElem?_getD, List.getElem?_append_right (by omega), el]; simp]
        rw [show ns.getD j 0 - (ns.getD j 0 - m) = m by omega]
        exact hm
      · rw [show (us ++ [ns.getD i 0 - m]).getD j 0 = us.getD j 0 by rw [List.getD_eq_getElem?_getD, List.getElem?_append_left (by omega), ← List.getD_eq_getElem?_getD]]
        exact hu j (by omega)
    rintro acc H3 _ hD3 ⟨us, ea, el, hu, k3, hp3⟩
    subst ea
    rw [en] at el hu
    refine ⟨D, _, rfl, sqL hD3, fun t H4 nt k4 h4 => ?_⟩
    exact q t H4 us (k3.free0 nt) (k3.trans k4) h4 ⟨el, hu⟩
def sp_total_spare (K : PySem.W.Frag) (T : List (Addr × Str)) : Sp := fun vs H Q _ => ∃ (p : Addr) (ns : List Int) (g : Int), vs = [.ref p, .int g] ∧ SqT K H p (ns.map V.int) ∧ 1 ≤ ns.length ∧ ns.length ≤ 40 ∧ 1 ≤ g ∧ gapOf g ns = none ∧ Tabs T H ∧
  ∀ H', Kp [] H H' → Q (.int (ns.sum - R g ns.length)) H'
theorem ok_total_spare {f : Addr} {fd : FuncData} {k : Nat} {T : List (Addr × Str)} (F : Fun K "total_spare" "total_spare" s_total_spare f fd) (m_sum : mg "sum" = none) (m_len : mg "len" = none)
    (C_require_safe : Cl P w K mg base CX0 6 "require_safe" 2 (sp_require_safe K T)) (C_threshold : Cl P w K mg base CX0 2 "threshold" 2 (sp_threshold K)) :
    FnG P w K mg base CX0 (k + 7) f fd ["balances", "budget"] (sp_total_spare K T) := by
  refine ok0 F sc_total_spare (fun vs H Q E h => ?_) (fun cdv A outer s H vs Q E gd hr h => ?_)
  · obtain ⟨p, ns, g, rfl, _⟩ := h
    rfl
  · obtain ⟨p, ns, g, rfl, hp, hl1, hl, hg, eg, hT, q⟩ := h
    refine ⟨_, (pss_cons (ps_expr (pe_cl C_require_safe (hr.mono (by omega)) gd pass0 (by rfl) (pa_cons (pv 0) (pa_cons (pv 1) pa_nil))))
      (pss_one (ps_ret (pe_op op_sub (pe_callB (cr_sumTK (K := K) rfl rfl) (by rfl) m_sum (by decide +kernel) (pa_cons (pv 0) pa_nil)) (pe_cl C_threshold (hr.mono (by omega)) gd pass0 (by rfl) (pa_cons (pe_callB (call_len_seqK (K := K) rfl) (by rfl) m_len (by decide +kernel) (pa_cons (pv 0) pa_nil)) (pa_cons (pv 1) pa_nil))))))), ?_⟩
    refine ⟨_, rfl, _, rfl, p, ns, g, rfl, hp, hl1, hl, hg, eg, hT, fun H1 k1 => ?_⟩
    have hp1 := k1.tup0 hp
    refine ⟨_, rfl, p, ns, rfl, hp1, _, rfl, p, _, rfl, .inr hp1, _, rfl, ns.length, g, ?_, by omega, fun H2 k2 => ?_⟩
    · rw [List.length_map]
      rfl
    exact ⟨_, _, rfl, rfl, q H2 (k1.trans k2)⟩
def sp_entry (K : PySem.W.Frag) (T : List (Addr × Str)) : Sp := fun vs H Q _ => ∃ (p : Addr) (ns : List Int) (g : Int), vs = [.ref p, .int g] ∧ SqT K H p (ns.map V.int) ∧ 1 ≤ ns.length ∧ ns.length ≤ 40 ∧ 1 ≤ g ∧ gapOf g ns = none ∧ Tabs T H ∧
  ∀ m H', Kp [] H H' → IsLB g ns m → Q (.int m) H'
theorem ok_entry {f : Addr} {fd : FuncData} {k : Nat} {T : List (Addr × Str)} (F : Fun K "entry" "entry" s_entry f fd)
    (C_require_safe : Cl P w K mg base CX0 6 "require_safe" 2 (sp_require_safe K T)) (C_least_beside : Cl P w K mg base CX0 2 "least_beside" 2 (sp_least_beside K)) :
    FnG P w K mg base CX0 (k + 7) f fd ["balances", "budget"] (sp_entry K T) := by
  refine ok0 F sc_entry (fun vs H Q E h => ?_) (fun cdv A outer s H vs Q E gd hr h => ?_)
  · obtain ⟨p, ns, g, rfl, _⟩ := h
    rfl
  · obtain ⟨p, ns, g, rfl, hp, hl1, hl, hg, eg, hT, q⟩ := h
    refine ⟨_, (pss_cons (ps_expr (pe_cl C_require_safe (hr.mono (by omega)) gd pass0 (by rfl) (pa_cons (pv 0) (pa_cons (pv 1) pa_nil))))
      (pss_one (ps_ret (pe_cl C_least_beside (hr.mono (by omega)) gd pass0 (by rfl) (pa_cons (pv 0) (pa_cons (pv 1) pa_nil)))))), ?_⟩
    refine ⟨_, rfl, _, rfl, p, ns, g, rfl, hp, hl1, hl, hg, eg, hT, fun H1 k1 => ?_⟩
    exact ⟨_, rfl, _, rfl, p, ns, g, rfl, .inr (k1.tup0 hp), hl, hg, fun m H2 k2 hm => q m H2 (k1.trans k2) hm⟩
/-- b is the greatest budget: b is none or good, b + 1 is not good -/
def IsGB (ns : List Int) (b : Int) : Prop := 0 ≤ b ∧ (0 < b → gapOf b ns = none) ∧ gapOf (b + 1) ns ≠ none
def sp_greatest_budget (K : PySem.W.Frag) : Sp := fun vs H Q _ => ∃ (p : Addr) (ns : List Int), vs = [.ref p] ∧ SqT K H p (ns.map V.int) ∧ 1 ≤ ns.length ∧ ns.length ≤ 40 ∧ (∀ x ∈ ns, 0 ≤ x ∧ x ≤ 1000000000000) ∧
  ∀ b H', Kp [] H H' → IsGB ns b → b ≤ 1000000000000 → Q (.int b) H'
theorem low_gap {ns : List Int} {m : Int} (hm : m ∈ ns) : gapOf (m + 1) ns ≠ none := by
  intro z
  have := safe_ge z m hm
  omega
theorem ok_greatest_budget {f : Addr} {fd : FuncData} {k : Nat} (F : Fun K "greatest_budget" "greatest_budget" s_greatest_budget f fd) (m_min : mg "min" = none)
    (C_is_safe : Cl P w K mg base CX0 3 "is_safe" 2 (sp_is_safe K)) :
    FnG P w K mg base CX0 (k + 4) f fd ["balances"] (sp_greatest_budget K) := by
  refine ok0 F sc_greatest_budget (fun vs H Q E h => ?_) (fun cdv A outer s H vs Q E gd hr h => ?_)
  · obtain ⟨p, ns, rfl, _⟩ := h
    rfl
  · obtain ⟨p, ns, rfl, hp, hl1, hl, hb, q⟩ := h
    refine ⟨_, (pss_cons (ps_set (i := 1) sc_greatest_budget.nd rfl (.inl rfl) pe_int)
      (pss_cons (ps_set (i := 2) sc_greatest_budget.nd rfl (.inl rfl) (pe_callB (cr_minTK (K := K) rfl rfl) (by rfl) m_min (by decide +kernel) (pa_cons (pv 0) pa_nil)))
      (pss_cons (ps_while PassesOwn.never (pt_cmpR op_lt (pv 1) (pv 2) (nomark _))
      (pss_cons (ps_set (i := 3) sc_greatest_budget.nd rfl (.inl rfl) (pe_op op_fdiv (pe_op op_add (pe_op op_add (pv 1) (pv 2)) pe_int) pe_int))
      (pss_one (ps_if (pt_val (pe_cl C_is_safe (hr.mono (by omega)) gd pass0 (by rfl) (pa_cons (pv 0) (pa_cons (pv 3) pa_nil))))
      (pss_one (ps_set (i := 1) sc_greatest_budget.nd rfl (.inl rfl) (pv 3)))
      (pss_one (ps_set (i := 2) sc_greatest_budget.nd rfl (.inl rfl) (pe_op op_sub (pv 3) pe_int)))))))
      (pss_one (ps_ret (pv 1)))))), ?_⟩
    refine ⟨_, rfl, p, ns, rfl, hp, by omega, fun mn hm1 hm2 => ?_⟩
    have hmb := hb mn hm1
    refine ⟨fun m σ H1 => ∃ (lo hi : Int) (y3 : Option V), σ = [some (.ref p), some (.int lo), some (.int hi), y3] ∧ Kp [] H H1 ∧ SqT K H1 p (ns.map V.int) ∧ 0 ≤ lo ∧ lo ≤ hi ∧ hi ≤ 1000000000000 ∧ (0 < lo → gapOf lo ns = none) ∧ gapOf (hi + 1) ns ≠ none ∧ m = (hi - lo).toNat,
      ⟨_, 0, mn, _, rfl, Kp.refl, hp, Int.le_refl _, hmb.1, hmb.2, fun z => absurd z (Int.lt_irrefl _), low_gap hm1, rfl⟩, ?_⟩
    rintro m σ H1 ⟨lo, hi, y3, rfl, k1, hp1, l0, l1, l2, g1, g2, em⟩
    refine ⟨_, rfl, _, rfl, _, _, rfl, rfl, _, rfl, ite2 (fun e => ?_) (fun e => ?_)⟩
    · have e' := of_decide_eq_true e
      refine ⟨fun σ' H' => ∃ (lo' hi' : Int) (y3 : Option V), σ' = [some (.ref p), some (.int lo'), some (.int hi'), y3] ∧ Kp [] H H' ∧ SqT K H' p (ns.map V.int) ∧ 0 ≤ lo' ∧ lo' ≤ hi' ∧ hi' ≤ 1000000000000 ∧ (0 < lo' → gapOf lo' ns = none) ∧ gapOf (hi' + 1) ns ≠ none ∧ (hi' - lo').toNat < (hi - lo).toNat, ?_, ?_⟩
      · rintro σ' H' ⟨lo', hi', y, rfl, a1, a2, a3, a4, a5, a6, a7, a8⟩
        exact ⟨_, by omega, lo', hi', y, rfl, a1, a2, a3, a4, a5, a6, a7, rfl⟩
      refine ⟨_, rfl, _, rfl, _, _, rfl, rfl, _, _, rfl, rfl, _, _, rfl, rfl, ?_, ?_⟩
      · exact ⟨by decide, by decide⟩
      have hmid : lo < (lo + hi + 1) / 2 ∧ (lo + hi + 1) / 2 ≤ hi := by omega
      refine ⟨_, rfl, _, rfl, p, ns, _, rfl, hp1, hl1, hl, by omega, fun H2 k2 => ?_⟩
      have hp2 := k2.tup0 hp1
      cases eg : gapOf ((lo + hi + 1) / 2) ns with
      | none => exact ⟨_, rfl, iteT ⟨_, rfl, (lo + hi + 1) / 2, hi, _, rfl, k1.trans k2, hp2, by omega, by omega, l2, fun _ => eg, g2, by omega⟩⟩
      | some kk =>
        have g3 : gapOf ((lo + hi + 1) / 2 - 1 + 1) ns ≠ none := by
          rw [show (lo + hi + 1) / 2 - 1 + 1 = (lo + hi + 1) / 2 by omega, eg]
          exact fun z => nomatch z
        exact ⟨_, rfl, iteF ⟨_, rfl, _, _, rfl, rfl, lo, (lo + hi + 1) / 2 - 1, _, rfl, k1.trans k2, hp2, l0, by omega, by omega, g1, g3, by omega⟩⟩
    · have e' : ¬ lo < hi := fun z => e (decide_eq_true z)
      have : lo = hi := by omega
      subst this
      exact ⟨_, rfl, q lo H1 k1 ⟨l0, g1, g2⟩ l2⟩
/-! ### the slack of a set of senders -/
def selSum (ns W : List Int) : Int := (W.map fun i : Int => ns.getD i.toNat 0).sum
def sp_slack (K : PySem.W.Frag) : Sp := fun vs H Q _ => ∃ (p t : Addr) (ns W : List Int) (g : Int), vs = [.ref p, .int g, .ref t] ∧ SqT K H p (ns.map V.int) ∧ SqT K H t (W.map V.int) ∧ W.length ≤ 40 ∧ (∀ i ∈ W, 0 ≤ i ∧ i < (ns.length : Int)) ∧ ∀ H', Kp [] H H' → Q (.int (selSum ns W - R g W.length)) H'
theorem ok_slack {f : Addr} {fd : FuncData} {k : Nat} (F : Fun K "slack" "slack" s_slack f fd) (m_sum : mg "sum" = none) (m_len : mg "len" = none)
    (C_threshold : Cl P w K mg base CX0 2 "threshold" 2 (sp_threshold K)) :
    FnG P w K mg base CX0 (k + 3) f fd ["balances", "budget", "senders"] (sp_slack K) := by
  refine ok0 F sc_slack (fun vs H Q E h => ?_) (fun cdv A outer s H vs Q E gd hr h => ?_)
  · obtain ⟨p, t, ns, W, g, rfl, _⟩ := h
    rfl
  · obtain ⟨p, t, ns, W, g, rfl, hp, ht, hl, hW, q⟩ := h
    refine ⟨_, (pss_one (ps_ret (pe_op op_sub (pe_callB (cr_sumK (K := K) rfl rfl) (by rfl) m_sum (by decide +kernel) (pa_cons (pe_lcW (own := [("at", 3)]) (g := (gName 3)) rfl sc_slack.nd (pi_tup (pv 2)) (blkOk_by (own := [("at", 3)]) (N := ["balances", "budget", "senders", "at"]) (sc := defScope s_slack) (by decide +kernel)) (fun _ _ _ _ _ => (pg_name (i := 3) sc_slack.nd rfl (.inl rfl))) (fun _ _ _ _ _ => pts_nil) (fun _ _ _ _ _ => (pe_ix (ix_tiK (K := K) rfl) (pv 0) (pv 3) (fun _ _ => rfl)))) pa_nil)) (pe_cl C_threshold (hr.mono (by omega)) gd pass0 (by rfl) (pa_cons (pe_callB (call_len_seqK (K := K) rfl) (by rfl) m_len (by decide +kernel) (pa_cons (pv 2) pa_nil)) (pa_cons (pv 1) pa_nil)))))), ?_⟩
    refine ⟨_, rfl, t, rfl, ⟨_, ht⟩, _, _, _, walk_ti (ns := W), small1000 (by omega), fun D H1 nD k1 hD => ?_⟩
    refine ⟨fun i acc H2 => acc = ((W.take i).map fun i : Int => ns.getD i.toNat 0).map V.int ∧ Kp [] H H2 ∧ SqT K H2 p (ns.map V.int) ∧ SqT K H2 t (W.map V.int), ⟨rfl, k1, k1.tup0 hp, k1.tup0 ht⟩, fun _ _ _ _ ⟨_, _, _, z⟩ => z, ?_, ?_⟩
    · rintro i acc x _ H2 hi ⟨ea, k2, hp2, ht2⟩ hD2 ⟨rfl, rfl⟩
      have hi2 : i < W.length := hi
      have hWi := all_get hW hi2
      refine ⟨rfl, yesT ?_⟩
      refine ⟨_, rfl, _, rfl, p, ns, _, rfl, rfl, hp2, hWi, hD2, fun H3 m3 h3 => ?_⟩
      refine ⟨?_, k2.md (.inl nD) m3, m3.kp.tup1 hD2 hp2, m3.kp.tup1 hD2 ht2⟩
      rw [List.take_add_one, List.getElem?_eq_getElem hi2, List.map_append, List.map_append, ea, List.getD_eq_getElem?_getD (l := W), List.getElem?_eq_getElem hi2]
      rfl
    rintro acc H2 _ hD2 ⟨ea, k2, hp2, ht2⟩
    rw [List.take_of_length_le (Nat.le_refl _)] at ea
    subst ea
    refine ⟨D, _, rfl, sqL hD2, _, rfl, t, _, rfl, .inr ht2, _, rfl, W.length, g, ?_, by omega, fun H3 k3 => ?_⟩
    · rw [List.length_map]
      rfl
    exact ⟨_, _, rfl, rfl, q H3 (k2.trans k3)⟩
def GoodS (n : Nat) (W : List Int) : Prop := W ≠ [] ∧ W.length ≤ 40 ∧ W.Pairwise (· < ·) ∧ ∀ i ∈ W, 0 ≤ i ∧ i < (n : Int)
theorem asc_next {W : List Int} (h : W.Pairwise (· < ·)) (i : Nat) (hi : i + 1 < W.length) : W.getD i 0 < W.getD (i + 1) 0 := by
  rw [List.getD_eq_getElem?_getD, List.getElem?_eq_getElem (by omega), List.getD_eq_getElem?_getD, List.getElem?_eq_getElem hi]
  exact List.pairwise_iff_getElem.mp h i (i + 1) (by omega) hi (by omega)
/-! ### sets of senders (good ones), told -/
def sp_is_senders (K : PySem.W.Frag) : Sp := fun vs H Q _ => ∃ (t : Addr) (W : List Int) (n : Nat), vs = [.ref t, .int (n : Int)] ∧ SqT K H t (W.map V.int) ∧ GoodS n W ∧ ∀ H', Kp [] H H' → Q (.bl true) H'
theorem ok_is_senders {f : Addr} {fd : FuncData} {k : Nat} (F : Fun K "is_senders" "is_senders" s_is_senders f fd) (m_isinstance : mg "isinstance" = none) (m_tuple : mg "tuple" = none) (m_len : mg "len" = none) (m_all : mg "all" = none) (m_zip : mg "zip" = none)
    (C_is_between : Cl P w K mg base CX0 2 "is_between" 3 (sp_is_between K)) :
    FnG P w K mg base CX0 (k + 3) f fd ["thing", "count"] (sp_is_senders K) := by
  refine ok0 F sc_is_senders (fun vs H Q E h => ?_) (fun cdv A outer s H vs Q E gd hr h => ?_)
  · obtain ⟨t, W, n, rfl, _⟩ := h
    rfl
  · obtain ⟨t, W, n, rfl, ht, ⟨hne, hl, hasc, hW⟩, q⟩ := h
    have hpos : 0 < W.length := List.length_pos_iff.mpr hne
    refine ⟨_, (pss_cons (ps_if (PW.pt (pw_or (pt_not (pt_val (pe_callB (call_isiB (K := K) rfl) (by rfl) m_isinstance (by decide +kernel) (pa_cons (pv 0) (pa_cons (pe_bltn (v := .ty "tuple") (by rfl) m_tuple rfl rfl) pa_nil))))) (pw_or1 (pt_cmpR op_eq (pe_callB (call_len_seqK (K := K) rfl) (by rfl) m_len (by decide +kernel) (pa_cons (pv 0) pa_nil)) pe_int (nomark _)))))
      (pss_one (ps_ret pe_bl))
      pss_nil)
      (pss_cons (ps_if (pt_not (pt_val (pe_callB (cr_allK (K := K) rfl rfl) (by rfl) m_all (by decide +kernel) (pa_cons (pe_lcW (own := [("part", 4)]) (g := (gName 4)) rfl sc_is_senders.nd (pi_tup (pv 0)) (blkOk_by (own := [("part", 4)]) (N := ["thing", "count", "low", "high", "part"]) (sc := defScope s_is_senders) (by decide +kernel)) (fun _ _ _ _ _ => (pg_name (i := 4) sc_is_senders.nd rfl (.inl rfl))) (fun _ _ _ _ _ => pts_nil) (fun _ _ _ _ _ => (pe_cl C_is_between (hr.mono (by omega)) gd pass0 (by rfl) (pa_cons (pv 4) (pa_cons pe_int (pa_cons (pe_op op_sub (pv 1) pe_int) pa_nil)))))) pa_nil))))
      (pss_one (ps_ret pe_bl))
      pss_nil)
      (pss_one (ps_ret (pe_callB (cr_allK (K := K) rfl rfl) (by rfl) m_all (by decide +kernel) (pa_cons (pe_lcW (own := [("low", 2), ("high", 3)]) (g := (gTup K 2 (gCons (gName 2) (gCons (gName 3) gNil)))) rfl sc_is_senders.nd (RZ.pi_zipA (by rfl) m_zip (pa_cons (pv 0) (pa_cons (pe_slice (sl_tiFrom (K := K) rfl) (pv 0) (po_some pe_int) po_none) pa_nil))) (blkOk_by (own := [("low", 2), ("high", 3)]) (N := ["thing", "count", "low", "high", "part"]) (sc := defScope s_is_senders) (by decide +kernel)) (fun _ _ _ _ _ => (pg_tup rfl (pgs_cons (pg_name (i := 2) sc_is_senders.nd rfl (.inl rfl)) (pgs_cons (pg_name (i := 3) sc_is_senders.nd rfl (.inl rfl)) pgs_nil)))) (fun _ _ _ _ _ => pts_nil) (fun _ _ _ _ _ => (pe_cmpR op_lt (pv 2) (pv 3) (nomark _)))) pa_nil)))))), ?_⟩
    refine ⟨_, rfl, _, _, _, _, rfl, ty_tup ht, kit_tt, _, rfl, iteF ?_⟩
    refine ⟨_, rfl, t, _, rfl, .inr ht, rfl, _, rfl, ?_⟩
    rw [List.length_map]
    refine ifNo (fun z => ?_) ?_
    · have := V.int.inj z
      omega
    -- all within
    refine ⟨_, rfl, t, rfl, ⟨_, ht⟩, _, _, _, walk_ti (ns := W), small1000 (by omega), fun D H1 nD k1 hD => ?_⟩
    refine ⟨fun i acc H2 => acc = (List.replicate i true).map V.bl ∧ Kp [] H H2 ∧ SqT K H2 t (W.map V.int), ⟨rfl, k1, k1.tup0 ht⟩, fun _ _ _ _ ⟨_, _, z⟩ => z, ?_, ?_⟩
    · rintro i acc x _ H2 hi ⟨ea, k2, ht2⟩ hD2 ⟨rfl, rfl⟩
      have hWi := all_get hW (show i < W.length from hi)
      refine ⟨rfl, yesT ?_⟩
      refine ⟨_, rfl, _, rfl, _, _, rfl, rfl, _, _, _, rfl, hD2, fun H3 m3 h3 => ?_⟩
      refine ⟨?_, k2.md (.inl nD) m3, m3.kp.tup1 hD2 ht2⟩
      rw [ea, decide_eq_true (by omega), List.replicate_succ', List.map_append]
      rfl
    rintro acc H2 _ hD2 ⟨ea, k2, ht2⟩
    subst ea
    refine ⟨D, List.replicate _ true, rfl, sqL hD2, _, rfl, ?_⟩
    rw [show (List.replicate W.length true).all id = true by simp]
    refine iteF ?_
    -- ascending
    refine ⟨_, rfl, _, rfl, _, rfl, t, W, _, rfl, rfl, rfl, ht2, by decide, fun u H3 k3 h3 => ?_⟩
    have ht3 := k3.tup0 ht2
    have k3 := k2.trans k3
    refine ⟨t, u, _, _, rfl, .inr ⟨ht3, h3, _, _, _, walk_zipT (ns := W) (ms := W.drop (1 : Int).toNat) (n := W.length - 1) (by rw [List.length_drop, show (1 : Int).toNat = 1 from rfl]; omega), small1000 (by omega), fun D2 H4 nD2 k4 hD2' => ?_⟩⟩
    have zD2 : H D2 = none := k3.free0 nD2
    refine ⟨fun r acc H5 => acc = (List.replicate r true).map V.bl ∧ Kp [] H H5 ∧ SqT K H5 t (W.map V.int) ∧ SqT K H5 u ((W.drop (1 : Int).toNat).map V.int), ⟨rfl, k3.trans k4, k4.tup0 ht3, k4.tup0 h3⟩, fun _ _ _ _ ⟨_, _, x1, x2⟩ => ⟨x1, x2⟩, ?_, ?_⟩
    · rintro r acc x H5 H6 hr ⟨ea, k5, ht5, hu5⟩ hD5 ⟨T, rfl, nT, kT, hT⟩
      have hD6 := kT.at0 hD5
      have e1 : (W.drop (1 : Int).toNat).getD r 0 = W.getD (r + 1) 0 := by
        rw [List.getD_eq_getElem?_getD, List.getElem?_drop, show (1 : Int).toNat + r = r + 1 by rw [show (1 : Int).toNat = 1 from rfl]; omega, ← List.getD_eq_getElem?_getD]
      have e2 := asc_next hasc r (by omega)
      refine ⟨T, _, rfl, sqT hT, rfl, _, _, rfl, _, _, rfl, rfl, rfl, yesT ?_⟩
      refine ⟨_, rfl, _, rfl, _, _, rfl, rfl, hD6, fun H7 m7 h7 => ?_⟩
      refine ⟨?_, (k5.trans kT).md (.inl zD2) m7, m7.kp.tup1 hD6 (kT.tup0 ht5), m7.kp.tup1 hD6 (kT.tup0 hu5)⟩
      rw [e1]
      show acc ++ [V.bl (decide (W.getD r 0 < W.getD (r + 1) 0))] = _
      rw [ea, decide_eq_true e2, List.replicate_succ', List.map_append]
      rfl
    · rintro acc H5 _ hD5 ⟨ea, k5, ht5, hu5⟩
      subst ea
      refine ⟨D2, List.replicate _ true, rfl, sqL hD5, ?_⟩
      rw [show (List.replicate (W.length - 1) true).all id = true by simp]
      exact q H5 k5
def sp_is_weak_set (K : PySem.W.Frag) : Sp := fun vs H Q _ => ∃ (p t : Addr) (ns W : List Int) (g : Int), vs = [.ref p, .int g, .ref t] ∧ SqT K H p (ns.map V.int) ∧ SqT K H t (W.map V.int) ∧ GoodS ns.length W ∧ ∀ H', Kp [] H H' → Q (.bl (decide (selSum ns W - R g W.length < 0))) H'
/-! ### the law's hand of digits: a list of three ints -/
def Hand (H : Hp) (a : Addr) (n : Nat) : Prop := ∃ g s c : Int, IL H a [g, s, c] ∧ 0 ≤ g ∧ 0 ≤ s ∧ s < 2147483647 ∧ 0 ≤ c ∧ c ≤ (n : Int)
theorem Hand.mono {H : Hp} {a : Addr} {m n : Nat} (h : Hand H a m) (hn : m ≤ n) : Hand H a n := by
  obtain ⟨g, s, c, h, a1, a2, a3, a4, a5⟩ := h
  exact ⟨g, s, c, h, a1, a2, a3, a4, by omega⟩
theorem Hand.at {H H' : Hp} {a : Addr} {n : Nat} (h : Hand H a n) (e : ∀ o, H a = some o → H' a = some o) : Hand H' a n := by
  obtain ⟨g, s, c, h, r⟩ := h
  exact ⟨g, s, c, e _ h, r⟩
theorem Hand.kp0 {H H' : Hp} {a : Addr} {n : Nat} (h : Hand H a n) (k : Kp [] H H') : Hand H' a n := h.at fun _ e => k.at0 e
theorem Hand.md {H H' : Hp} {a p : Addr} {n : Nat} (h : Hand H a n) (m : Md p H H') (ne : a ≠ p) : Hand H' a n := h.at fun _ e => (m a ne).trans e
theorem Hand.ne {H : Hp} {a p : Addr} {n : Nat} (h : Hand H a n) (z : H p = none) : a ≠ p := by
  obtain ⟨g, s, c, h, r⟩ := h
  exact ne_of_none h z
theorem Hand.tup {K : PySem.W.Frag} {H H' : Hp} {a p : Addr} {n : Nat} {xs : List V} (h : Hand H a n) (k : Kp [a] H H') (t : SqT K H p xs) : SqT K H' p xs := by
  obtain ⟨g, s, c, h, r⟩ := h
  exact k.tup1 h t
def sp_l_take (K : PySem.W.Frag) : Sp := fun vs H Q _ => ∃ (a : Addr) (n : Nat) (m : Int), vs = [.ref a, .int m] ∧ Hand H a n ∧ n ≤ 2 ^ 48 ∧ 1 ≤ m ∧ m < 2 ^ 62 ∧
  ∀ d H', Kp [a] H H' → Hand H' a (n + 1) → 0 ≤ d → d < m → Q (.int d) H'
theorem log_ok {j : Int} (h : 1 ≤ j) (h2 : j < 2 ^ 62) : CDivW 0 j :=
  wide_div (i := 0) (b := 62) (by omega) (by omega) (by decide) (by decide)
theorem ok__law_take {f : Addr} {fd : FuncData} {k : Nat} (F : Fun K "_law_take" "_law_take" s__law_take f fd) :
    FnG P w K mg base CX0 (k + 1) f fd ["_law_hand_here", "_law_many"] (sp_l_take K) := by
  refine ok0 F sc__law_take (fun vs H Q E h => ?_) (fun cdv A outer s H vs Q E gd hr h => ?_)
  · obtain ⟨a, n, m, rfl, _⟩ := h
    rfl
  · obtain ⟨a, n, m, rfl, ⟨g, s, c, h0, hg, hs, hs2, hc, hc2⟩, hn, hm, hm2, q⟩ := h
    refine ⟨_, (pss_cons (ps_if (pt_cmpR op_gt (pe_ix (ix_lvK (K := K) rfl) (pv 0) pe_int (fun _ _ => rfl)) pe_int (nomark _))
      (pss_cons (ps_set (i := 2) sc__law_take.nd rfl (.inl rfl) (pe_op op_mod (pe_ix (ix_lvK (K := K) rfl) (pv 0) pe_int (fun _ _ => rfl)) (pv 1)))
      (pss_cons (ps_asg (pe_op op_fdivW (pe_ix (ix_lvK (K := K) rfl) (pv 0) pe_int (fun _ _ => rfl)) (pv 1)) (pg_sub (pv 0) pe_int set_li))
      (pss_one (ps_ret (pv 2)))))
      pss_nil)
      (pss_cons (ps_asg (pe_op op_add (pe_ix (ix_lvK (K := K) rfl) (pv 0) pe_int (fun _ _ => rfl)) pe_int) (pg_sub (pv 0) pe_int set_li))
      (pss_cons (ps_set (i := 3) sc__law_take.nd rfl (.inl rfl) (pe_ix (ix_lvK (K := K) rfl) (pe_li (pa_cons pe_int (pa_cons pe_int (pa_cons pe_int (pa_cons pe_int (pa_cons pe_int pa_nil)))))) (pe_op op_mod (pe_ix (ix_lvK (K := K) rfl) (pv 0) pe_int (fun _ _ => rfl)) pe_int) (fun _ _ => rfl)))
      (pss_cons (ps_set (i := 4) sc__law_take.nd rfl (.inl rfl) (pe_op op_mod (pe_op op_pow (pe_op op_add (pe_ix (ix_lvK (K := K) rfl) (pv 0) pe_int (fun _ _ => rfl)) (pe_op op_mul pe_int (pe_ix (ix_lvK (K := K) rfl) (pv 0) pe_int (fun _ _ => rfl)))) pe_int) (pv 3)))
      (pss_one (ps_ret (pe_op op_mod (pe_op op_fdivW (pe_op op_mod (pe_op op_mul (pv 4) (pe_op op_add (pe_op op_mod (pv 4) pe_int) (pe_ix (ix_lvK (K := K) rfl) (pv 0) pe_int (fun _ _ => rfl)))) (pv 3)) pe_int) (pv 1)))))))), ?_⟩
    have g0 : ∀ x y z : Int, Get [x, y, z] 0 x := fun _ _ _ => ⟨by decide, rfl⟩
    have g1 : ∀ x y z : Int, Get [x, y, z] 1 y := fun _ _ _ => ⟨by decide, rfl⟩
    have g2 : ∀ x y z : Int, Get [x, y, z] 2 z := fun _ _ _ => ⟨by decide, rfl⟩
    refine ⟨_, rfl, a, _, _, _, rfl, rfl, sqL h0, g0 g s c, _, _, rfl, rfl, _, rfl, ite2 (fun e => ?_) (fun e => ?_)⟩
    · have e' : 0 < g := of_decide_eq_true e
      have hm0 : 0 < m := by omega
      refine ⟨_, rfl, a, _, _, _, rfl, rfl, sqL h0, g0 g s c, _, rfl, _, _, rfl, rfl, hm0, ?_⟩
      refine ⟨_, rfl, a, _, _, _, rfl, rfl, sqL h0, g0 g s c, _, rfl, _, _, rfl, rfl, log_ok hm hm2, ?_⟩
      refine ⟨_, rfl, a, [g, s, c], _, _, rfl, rfl, rfl, h0, (show (0 : Int) ≤ 0 ∧ (0 : Int) < 3 by decide), fun H1 m1 h1 => ?_⟩
      refine ⟨_, rfl, q (g % m) H1 m1.kp ⟨g / m, s, c, h1, Int.ediv_nonneg hg (by omega), hs, hs2, hc, by omega⟩ (Int.emod_nonneg _ (by omega)) (Int.emod_lt_of_pos _ (by omega))⟩
    · refine ⟨_, rfl, a, _, _, _, rfl, rfl, sqL h0, g2 g s c, _, _, rfl, rfl, ?_⟩
      refine ⟨_, rfl, a, [g, s, c], _, _, rfl, rfl, rfl, h0, (show (0 : Int) ≤ 2 ∧ (2 : Int) < 3 by decide), fun H1 m1 h1 => ?_⟩
      have h1 : IL H1 a [g, s, c + 1] := h1
      refine ⟨[_, _, _, _, _], rfl, by decide, fun p H2 np k2 h2 => ?_⟩
      have h1 : IL H2 a [g, s, c + 1] := k2.at0 h1
      refine ⟨_, rfl, a, _, _, _, rfl, rfl, sqL h1, g2 _ _ _, _, _, rfl, rfl, by show (0 : Int) < 5; decide, ?_⟩
      obtain ⟨pr, gp, hp, hp2⟩ : ∃ pr, Get [2147483647, 2147483629, 2147483587, 2147483579, 2147483563] ((c + 1) % 5) pr ∧ 0 < pr ∧ pr ≤ 2147483647 := by
        have : (c + 1) % 5 = 0 ∨ (c + 1) % 5 = 1 ∨ (c + 1) % 5 = 2 ∨ (c + 1) % 5 = 3 ∨ (c + 1) % 5 = 4 := by omega
        rcases this with z | z | z | z | z <;> rw [z] <;> exact ⟨_, ⟨by decide, rfl⟩, by decide, by decide⟩
      refine ⟨p, _, _, pr, rfl, rfl, sqL h2, gp, ?_⟩
      refine ⟨_, rfl, a, _, _, _, rfl, rfl, sqL h1, g1 _ _ _, _, rfl, a, _, _, _, rfl, rfl, sqL h1, g2 _ _ _, _, _, rfl, rfl, .inl ⟨by decide, by decide⟩, _, _, rfl, rfl, _, _, rfl, rfl, ⟨by decide, by decide, ?_⟩, _, rfl, _, _, rfl, rfl, hp, ?_⟩
      · show (s + 7919 * (c + 1)).natAbs < 2 ^ 64
        omega
      generalize hdr : (s + 7919 * (c + 1)) ^ (3 : Int).toNat % pr = dr
      have hd : 0 ≤ dr ∧ dr < pr := by
        subst hdr
        exact ⟨Int.emod_nonneg _ (by omega), Int.emod_lt_of_pos _ hp⟩
      have hm0 : 0 < m := by omega
      refine ⟨_, rfl, _, rfl, _, _, rfl, rfl, by show (0 : Int) < 1009; decide, _, rfl, a, _, _, _, rfl, rfl, sqL h1, g2 _ _ _, _, _, rfl, rfl, _, _, rfl, rfl, .inl ⟨by omega, by omega⟩, _, rfl, _, _, rfl, rfl, hp, _, _, rfl, rfl, log_ok (j := 11) (by decide) (by decide), _, rfl, _, _, rfl, rfl, hm0, ?_⟩
      exact q _ H2 (m1.kp.trans k2.wide) ⟨g, s, c + 1, h1, hg, hs, hs2, by omega, by omega⟩ (Int.emod_nonneg _ (by omega)) (Int.emod_lt_of_pos _ (by omega))
/-- what changes at an own object alone has changed nothing that stood before -/
theorem Kp.own {H H1 H2 : Hp} {a : Addr} (k : Kp [] H H1) (z : H a = none) (k2 : Kp [a] H1 H2) : Kp [] H H2 :=
  fun b o _ e => k2.at1 (ne_of_none e z) (k.at0 e)
/-! ### a choice out of a list or a tuple -/
abbrev Cal (P : Program) (w : World) (K : PySem.W.Frag) (mg : Str → Option Value) (base : Heap) (k : Nat) (x : Str) (n : Nat) (sp : PySem.W.Frag → Sp) : Prop :=
  Cl P w K mg base CX0 k x n (sp K)
def Seq (K : PySem.W.Frag) (H : Hp) (p : Addr) (xs : List V) : Prop := SqL K H p xs ∨ SqT K H p xs
theorem Kp.sq {K : PySem.W.Frag} {H H' : Hp} {a p : Addr} {n : Nat} {xs : List V} (k : Kp [a] H H') (hd : Hand H a n) (ne : p ≠ a) (h : Seq K H p xs) : Seq K H' p xs := by
  rcases h with h | h
  · exact .inl (k.lst1 ne h)
  · exact .inr (hd.tup k h)
def sp_l_of (K : PySem.W.Frag) : Sp := fun vs H Q _ => ∃ (a p : Addr) (n : Nat) (xs : List V), vs = [.ref a, .ref p] ∧ Hand H a n ∧ n ≤ 2 ^ 48 ∧ p ≠ a ∧ Seq K H p xs ∧ 0 < xs.length ∧ xs.length ≤ 1000 ∧
  ∀ v H', Kp [a] H H' → Hand H' a (n + 1) → v ∈ xs → Q v H'
theorem ok__law_of {f : Addr} {fd : FuncData} {k : Nat} (F : Fun K "_law_of" "_law_of" s__law_of f fd) (m_len : mg "len" = none) (C_l_take : Cal P w K mg base 1 "_law_take" 2 sp_l_take) :
    FnG P w K mg base CX0 (k + 2) f fd ["_law_hand_here", "_law_some"] (sp_l_of K) := by
  refine ok0 F sc__law_of (fun vs H Q E h => ?_) (fun cdv A outer s H vs Q E gd hr h => ?_)
  · obtain ⟨a, p, n, xs, rfl, _⟩ := h
    rfl
  · obtain ⟨a, p, n, xs, rfl, hd, hn, ne, hq, h0, h1, q⟩ := h
    have hr1 := hr.mono (show 1 ≤ k + 1 by omega)
    refine ⟨_, (pss_one (ps_ret (pe_ix ix_seq (pv 1) (pe_cl C_l_take (hr.mono (by omega)) gd pass0 (by rfl) (pa_cons (pv 0) (pa_cons (pe_callB (call_len_seqK (K := K) rfl) (by rfl) m_len (by decide +kernel) (pa_cons (pv 1) pa_nil)) pa_nil))) (fun _ _ => rfl)))), ?_⟩
    refine ⟨_, rfl, _, rfl, _, rfl, _, _, rfl, hq, a, n, _, rfl, hd, hn, by omega, by omega, fun d H1 k1 hd1 d0 d1 => ?_⟩
    have hq1 := k1.sq hd ne hq
    have e : ((d.toNat : Nat) : Int) = d := by omega
    have hg : xs[d.toNat]? = some (xs[d.toNat]'(by omega)) := List.getElem?_eq_getElem _
    have ha := atI_nat hg
    rw [e] at ha
    have hm := List.getElem_mem (l := xs) (n := d.toNat) (by omega)
    rcases hq1 with hq1 | hq1
    · exact .inl ⟨p, xs, d, _, rfl, rfl, hq1, ha, q _ H1 k1 hd1 hm⟩
    · exact .inr (.inl ⟨p, xs, d, _, rfl, rfl, hq1, ha, q _ H1 k1 hd1 hm⟩)
/-! ### a hand made of a cell of the script -/
def sp_l_hand (K : PySem.W.Frag) : Sp := fun vs H Q _ => ∃ (a : Addr) (ns : List Int) (k : Int), vs = [.ref a, .int k] ∧ SqL K H a (ns.map V.int) ∧ 0 ≤ k ∧ k ≤ 1000 ∧
  ∀ p H', H p = none → Kp [] H H' → Hand H' p 0 → Q (.ref p) H'
theorem abs_nn (i : Int) : 0 ≤ (if i < 0 then -i else i) := by
  by_cases h : i < 0
  · rw [if_pos h]; omega
  · rw [if_neg h]; omega
theorem big_pos : (0 : Int) < 10 ^ 60 * 10 ^ 60 * 10 ^ 60 := by decide +kernel
theorem big_lt : (10 : Int) ^ 60 * 10 ^ 60 * 10 ^ 60 < 2 ^ 700 := by decide +kernel
theorem ok__law_hand {f : Addr} {fd : FuncData} {k : Nat} (F : Fun K "_law_hand" "_law_hand" s__law_hand f fd) (m_len : mg "len" = none) (m_abs : mg "abs" = none) (m_int : mg "int" = none) :
    FnG P w K mg base CX0 (k + 1) f fd ["_law_script", "_law_k"] (sp_l_hand K) := by
  refine ok0 F sc__law_hand (fun vs H Q E h => ?_) (fun cdv A outer s H vs Q E gd hr h => ?_)
  · obtain ⟨a, ns, k, rfl, _⟩ := h
    rfl
  · obtain ⟨a, ns, k, rfl, hq, h0, h1, q⟩ := h
    refine ⟨_, (pss_cons (ps_set (i := 2) sc__law_hand.nd rfl (.inl rfl) (pe_ifI (pt_cmpR op_lt (pv 1) (pe_callB (call_len_seqK (K := K) rfl) (by rfl) m_len (by decide +kernel) (pa_cons (pv 0) pa_nil)) (nomark _)) (pe_ix (ix_liK (K := K) rfl) (pv 0) (pv 1) (fun _ _ => rfl)) pe_int))
      (pss_cons (ps_set (i := 3) sc__law_hand.nd rfl (.inl rfl) (pe_op op_mulW (pe_op op_mod (pe_callB call_abs (by rfl) m_abs (by decide +kernel) (pa_cons (pv 2) pa_nil)) (pe_op op_mulW (pe_op op_mulW (pe_op op_pow pe_int pe_int) (pe_op op_pow pe_int pe_int)) (pe_op op_pow pe_int pe_int))) (pe_callTy call_int1 (by rfl) m_int (by decide +kernel) (pa_cons (pe_cmpR op_ge (pe_callB call_abs (by rfl) m_abs (by decide +kernel) (pa_cons (pv 2) pa_nil)) (pe_op op_pow pe_int pe_int) (nomark _)) pa_nil))))
      (pss_one (ps_ret (pe_li (pa_cons (pv 3) (pa_cons (pe_op op_mod (pe_op op_mul (pe_op op_add (pe_op op_add (pe_op op_mod (pv 2) pe_int) (pe_op op_mul pe_int (pv 1))) pe_int) pe_int) pe_int) (pa_cons pe_int pa_nil)))))))), ?_⟩
    refine ⟨fun _ => True, ⟨_, rfl, _, rfl, a, _, rfl, .inl hq, _, _, rfl, rfl, _, rfl, ite2 (fun e => ?_) (fun e => ?_)⟩, fun cell _ => ?_⟩
    · have e' := of_decide_eq_true e
      rw [List.length_map] at e'
      exact ⟨_, rfl, _, rfl, a, ns, _, rfl, rfl, hq, ⟨h0, e'⟩, _, rfl, rfl, trivial⟩
    · exact ⟨_, rfl, rfl, trivial⟩
    have hB : (0 : Int) < 10 ^ (60 : Int).toNat * 10 ^ (60 : Int).toNat * 10 ^ (60 : Int).toNat := big_pos
    have hB2 : (10 : Int) ^ (60 : Int).toNat * 10 ^ (60 : Int).toNat * 10 ^ (60 : Int).toNat < 2 ^ 700 := big_lt
    have p10 : CPow 10 60 := ⟨by decide, by decide, by decide⟩
    have p18 : CPow 10 18 := ⟨by decide, by decide, by decide⟩
    have w1 : CMulW ((10 : Int) ^ (60 : Int).toNat) ((10 : Int) ^ (60 : Int).toNat) := by unfold CMulW; decide +kernel
    have w2 : CMulW ((10 : Int) ^ (60 : Int).toNat * (10 : Int) ^ (60 : Int).toNat) ((10 : Int) ^ (60 : Int).toNat) := by unfold CMulW; decide +kernel
    refine ⟨_, rfl, _, rfl, _, _, rfl, rfl, p10, _, _, rfl, rfl, p10, _, _, rfl, rfl, w1, _, _, rfl, rfl, p10, _, _, rfl, rfl, w2, _, _, rfl, rfl, hB, ?_⟩
    have hm := Int.emod_nonneg (if cell < 0 then -cell else cell) (Int.ne_of_gt hB)
    have hm2 := Int.emod_lt_of_pos (if cell < 0 then -cell else cell) hB
    refine ⟨_, rfl, _, rfl, _, _, rfl, rfl, p18, _, _, rfl, rfl, .inr ⟨_, rfl, _, _, rfl, rfl, wide_mul (a := 700) (b := 2) ?_ ?_ (by decide) (by decide) (by decide), ?_⟩⟩
    · have h3 := Int.lt_trans hm2 hB2
      have h2 : ((2 ^ 700 : Nat) : Int) = 2 ^ 700 := by decide +kernel
      omega
    · have z : ∀ b : Bool, (if b = true then (1 : Int) else 0).natAbs < 2 ^ 2 := by
        intro b
        cases b <;> decide
      exact z _
    have hk : ∀ b : Bool, 0 ≤ (if b = true then (1 : Int) else 0) := by
      intro b
      cases b <;> decide
    refine ⟨_, rfl, _, rfl, _, _, rfl, rfl, by show (0 : Int) < 2147483629; decide, _, rfl, _, _, rfl, rfl, .inl ⟨by decide, by decide⟩, _, _, rfl, rfl, _, _, rfl, rfl, _, _, rfl, rfl, .inr ⟨by decide, by decide⟩, _, _, rfl, rfl, by show (0 : Int) < 2147483647; decide, ?_⟩
    refine ⟨[_, _, _], rfl, (by decide : 3 ≤ sizeLine), fun p H1 np k1 h1 => ?_⟩
    exact q p H1 np k1 ⟨_, _, _, h1, Int.mul_nonneg hm (hk _), Int.emod_nonneg _ (by decide), Int.emod_lt_of_pos _ (by decide), by decide, by decide⟩
/-! ### the law's own thresholds -/
def sp_l_rows (K : PySem.W.Frag) : Sp := fun vs H Q _ => ∃ (n : Nat) (g : Int), vs = [.int (n : Int), .int g] ∧ n ≤ 1000 ∧
  ∀ p H', H p = none → Kp [] H H' → IL H' p (rows g n) → Q (.ref p) H'
theorem ok__law_rows {f : Addr} {fd : FuncData} {k : Nat} (F : Fun K "_law_rows" "_law_rows" s__law_rows f fd) (m_len : mg "len" = none) :
    FnG P w K mg base CX0 (k + 1) f fd ["_law_count", "_law_rate"] (sp_l_rows K) := by
  refine ok0 F sc__law_rows (fun vs H Q E h => ?_) (fun cdv A outer s H vs Q E gd hr h => ?_)
  · obtain ⟨n, g, rfl, _⟩ := h
    rfl
  · obtain ⟨n, g, rfl, hn, q⟩ := h
    refine ⟨_, (pss_cons (ps_set (i := 2) sc__law_rows.nd rfl (.inl rfl) (pe_li (pa_cons (pv 1) pa_nil)))
      (pss_cons (ps_while PassesOwn.never (pt_cmpR op_lt (pe_callB (call_len_seqK (K := K) rfl) (by rfl) m_len (by decide +kernel) (pa_cons (pv 2) pa_nil)) (pv 0) (nomark _))
      (pss_one (ps_expr (pe_bm PySem.F.plainAttrs_list PySem.F.slot_list_append PySem.F.type_list_append mt_appI (pv 2) (pa_cons (pe_op op_add (pe_op op_add (pe_ix (ix_leK (K := K) rfl) (pv 2) (pe_un un_neg pe_int) (fun _ _ => rfl)) (pe_op op_fdiv (pe_op op_sub (pe_ix (ix_leK (K := K) rfl) (pv 2) (pe_un un_neg pe_int) (fun _ _ => rfl)) pe_int) (pe_callB (call_len_seqK (K := K) rfl) (by rfl) m_len (by decide +kernel) (pa_cons (pv 2) pa_nil)))) (pv 1)) pa_nil)))))
      (pss_one (ps_ret (pe_slice (sl_liToK (K := K) rfl) (pv 2) po_none (po_some (pv 0))))))), ?_⟩
    refine ⟨_, rfl, [_], rfl, (by decide : 1 ≤ sizeLine), fun p H1 np k1 h1 => ?_⟩
    refine ⟨fun m σ H2 => ∃ (ns : List Int) (j : Nat), σ = [some (.int (n : Int)), some (.int g), some (.ref p)] ∧ Kp [] H H2 ∧ IL H2 p ns ∧ ns = rows g j ∧ 1 ≤ j ∧ j ≤ 1001 ∧ (j ≤ n ∨ j = 1) ∧ m = n - j, ⟨_, _, 1, rfl, k1, h1, rfl, by omega, by omega, by omega, rfl⟩, ?_⟩
    rintro m σ H2 ⟨ns, j, rfl, k2, h2, en, j1, j2, j3, em⟩
    have hlen : ns.length = j := by rw [en, rows_len]
    refine ⟨_, rfl, p, _, rfl, .inl (sqL h2), _, rfl, _, _, rfl, rfl, _, rfl, ite2 (fun e => ?_) (fun e => ?_)⟩
    · have e' := of_decide_eq_true e
      rw [List.length_map, hlen] at e'
      refine ⟨fun σ' H' => ∃ (ns : List Int), σ' = [some (.int (n : Int)), some (.int g), some (.ref p)] ∧ Kp [] H H' ∧ IL H' p ns ∧ ns = rows g (j + 1), ?_, ?_⟩
      · rintro σ' H' ⟨ms, rfl, k3, h3, e3⟩
        exact ⟨n - (j + 1), by omega, ms, j + 1, rfl, k3, h3, e3, by omega, by omega, by omega, rfl⟩
      have hj : ns.getD (ns.length - 1) 0 = R g j := by
        rw [hlen, en, rows_get g j (j - 1) (by omega)]
        congr 1
        omega
      refine ⟨_, rfl, .inl ⟨rfl, _, sqL h2⟩, _, rfl, _, rfl, p, ns, _, rfl, rfl, sqL h2, ⟨rfl, by omega⟩, _, rfl, _, rfl, p, ns, _, rfl, rfl, sqL h2, ⟨rfl, by omega⟩, _, _, rfl, rfl, _, rfl, p, _, rfl, .inl (sqL h2), _, _, rfl, rfl, ⟨?_, ?_⟩, _, _, rfl, rfl, _, rfl, _, _, rfl, rfl, _, _, _, rfl, rfl, h2, ?_, fun H3 m3 h3 => ?_⟩
      · rw [List.length_map]; omega
      · rw [List.length_map]; omega
      · rw [hlen]; exact Nat.lt_of_le_of_lt j2 (by decide)
      refine ⟨_, rfl, k2.md (.inl np) m3, h3, ?_⟩
      rw [List.length_map, hj, hlen, rows_succ, en, R_succ g j (by omega)]
      congr 2
      omega
    · have e' : ¬ (ns.length : Int) < n := fun z => e (decide_eq_true (by rw [List.length_map]; exact z))
      refine ⟨_, rfl, _, rfl, _, rfl, p, ns, _, rfl, rfl, rfl, sqL h2, by omega, fun t H3 nt k3 h3 => ?_⟩
      refine q t H3 (k2.free0 nt) (k2.trans k3) ?_
      rw [show ((n : Int).toNat) = n by omega, en, rows_take g j n (by omega)] at h3
      exact h3
/-! ### the items of a list or a tuple of ints in a drawn order -/
theorem erase_perm : ∀ (ns : List Int) (i : Nat), i < ns.length → (ns.getD i 0 :: ns.eraseIdx i).Perm ns
  | [], _, h => absurd h (Nat.not_lt_zero _)
  | _ :: _, 0, _ => .refl _
  | n :: r, i + 1, h => by
    show (r.getD i 0 :: n :: r.eraseIdx i).Perm (n :: r)
    exact (List.Perm.swap n _ _).trans ((erase_perm r i (Nat.lt_of_succ_lt_succ h)).cons n)
def sp_l_mixed (K : PySem.W.Frag) : Sp := fun vs H Q _ => ∃ (a p : Addr) (n : Nat) (ns : List Int), vs = [.ref a, .ref p] ∧ Hand H a n ∧ n + ns.length ≤ 2 ^ 48 ∧ Seq K H p (ns.map V.int) ∧ ns.length ≤ 1000 ∧
  ∀ q H' ms, Kp [a] H H' → H q = none → Hand H' a (n + ns.length) → IL H' q ms → ms.Perm ns → Q (.ref q) H'
theorem ok__law_mixed {f : Addr} {fd : FuncData} {k : Nat} (F : Fun K "_law_mixed" "_law_mixed" s__law_mixed f fd) (m_list : mg "list" = none) (m_len : mg "len" = none)
    (C_l_take : Cl P w K mg base CX0 1 "_law_take" 2 (sp_l_take K)) :
    FnG P w K mg base CX0 (k + 2) f fd ["_law_hand_here", "_law_some"] (sp_l_mixed K) := by
  refine ok0 F sc__law_mixed (fun vs H Q E h => ?_) (fun cdv A outer s H vs Q E gd hr h => ?_)
  · obtain ⟨a, p, n, ns, rfl, _⟩ := h
    rfl
  · obtain ⟨a, p, n, ns, rfl, hd, hn, hq, hlen, q⟩ := h
    refine ⟨_, (pss_cons (ps_par (by rfl) sc__law_mixed.nd (i := 2) (j := 3) rfl rfl (by decide) rfl rfl (pa_cons (pe_callTy (call_lstSK (K := K) rfl) (by rfl) m_list (by decide +kernel) (pa_cons (pv 1) pa_nil)) (pa_cons (pe_li pa_nil) pa_nil)) (by rfl))
      (pss_cons (ps_while PassesOwn.never (pt_cmpR (op_neLIK (K := K) rfl hr) (pv 2) (pe_li pa_nil) (nomark _))
      (pss_one (ps_expr (pe_bm PySem.F.plainAttrs_list PySem.F.slot_list_append PySem.F.type_list_append mt_appI (pv 3) (pa_cons (pe_bm PySem.F.plainAttrs_list PySem.F.slot_list_pop PySem.F.type_list_pop mt_popI (pv 2) (pa_cons (pe_cl C_l_take (hr.mono (by omega)) gd pass0 (by rfl) (pa_cons (pv 0) (pa_cons (pe_callB (call_len_seqK (K := K) rfl) (by rfl) m_len (by decide +kernel) (pa_cons (pv 2) pa_nil)) pa_nil))) pa_nil)) pa_nil)))))
      (pss_one (ps_ret (pv 3))))), ?_⟩
    refine ⟨_, rfl, p, _, rfl, hq, fun l H1 nl k1 h1 => ?_⟩
    have hd1 := hd.kp0 k1
    refine ⟨[], rfl, Nat.zero_le _, fun f H2 nf k2 h2 => ?_⟩
    have hd2 := hd1.kp0 k2
    have zf : H f = none := k1.free0 nf
    have nla : l ≠ a := fun z => hd.ne nl z.symm
    have nfa : f ≠ a := fun z => hd1.ne nf z.symm
    have nlf : l ≠ f := ne_of_none h1 nf
    have h1 : IL H2 l ns := k2.at0 h1
    refine ⟨_, _, rfl, ?_⟩
    refine ⟨fun m σ H3 => ∃ (ls fs : List Int) (j : Nat), σ = [some (.ref a), some (.ref p), some (.ref l), some (.ref f)] ∧ Kp [a] H H3 ∧ Hand H3 a (n + j) ∧ IL H3 l ls ∧ IL H3 f fs ∧ (fs ++ ls).Perm ns ∧ j + ls.length = ns.length ∧ m = ls.length,
      ⟨_, ns, [], 0, rfl, k1.wide.trans k2.wide, hd2, h1, h2, .refl _, by omega, rfl⟩, ?_⟩
    rintro m σ H3 ⟨ls, fs, j, rfl, k3, hd3, hl, hf, pm, ej, em⟩
    refine ⟨_, rfl, [], rfl, Nat.zero_le _, fun e H4 ne4 k4 h4 => ?_⟩
    have hl := k4.at0 hl
    have hf := k4.at0 hf
    have hd4 := hd3.kp0 k4
    have k4 := k3.trans k4.wide
    refine ⟨l, e, ls, [], rfl, rfl, sqL hl, sqL h4, _, rfl, ite2 (fun c => ?_) (fun c => ?_)⟩
    · have c' : ls ≠ [] := fun z => by
        rw [z] at c
        simp at c
      have hpos : 0 < ls.length := List.length_pos_iff.mpr c'
      have plen := pm.length_eq
      rw [List.length_append] at plen
      refine ⟨fun σ' H' => ∃ (ls' fs' : List Int), σ' = [some (.ref a), some (.ref p), some (.ref l), some (.ref f)] ∧ Kp [a] H H' ∧ Hand H' a (n + (j + 1)) ∧ IL H' l ls' ∧ IL H' f fs' ∧ (fs' ++ ls').Perm ns ∧ ls'.length + 1 = ls.length, ?_, ?_⟩
      · rintro σ' H' ⟨ls', fs', rfl, a1, a2, a3, a4, a5, a6⟩
        exact ⟨ls'.length, by omega, ls', fs', j + 1, rfl, a1, a2, a3, a4, a5, by omega, rfl⟩
      refine ⟨_, rfl, .inl ⟨rfl, _, sqL hf⟩, _, rfl, .inl ⟨rfl, _, sqL hl⟩, _, rfl, _, rfl, l, _, rfl, .inl (sqL hl), a, n + j, _, rfl, hd4, by omega, ?_, ?_, fun d H5 k5 hd5 d0 d1 => ?_⟩
      · rw [List.length_map]; omega
      · rw [List.length_map]; omega
      rw [List.length_map] at d1
      have hl5 := k5.at1 nla hl
      have hf5 := k5.at1 nfa hf
      refine ⟨l, ls, d, rfl, rfl, hl5, ⟨d0, d1⟩, by omega, fun H6 m6 h6 => ?_⟩
      have hf6 := (m6 f nlf.symm).trans hf5
      have hd6 := hd5.md m6 nla.symm
      refine ⟨f, fs, _, rfl, rfl, hf6, ?_, fun H7 m7 h7 => ?_⟩
      · exact small1000 (by omega)
      have hd7 := hd6.md m7 nfa.symm
      have hl7 := (m7 l nlf).trans h6
      have ez : d.toNat < ls.length := by omega
      refine ⟨_, _, rfl, ((k4.trans k5).md (.inl nl) m6).md (.inl zf) m7, hd7, hl7, h7, ?_, ?_⟩
      · refine List.Perm.trans ?_ pm
        rw [List.append_assoc]
        exact List.Perm.append_left fs (erase_perm ls d.toNat ez)
      · rw [List.length_eraseIdx_of_lt ez]
        omega
    · have c' : ls = [] := by
        cases ls with
        | nil => rfl
        | cons x r => exact absurd (by simp) c
      subst c'
      rw [List.append_nil] at pm
      have ej : j = ns.length := by simpa using ej
      subst ej
      exact ⟨_, rfl, q f H4 fs k4 zf hd4 hf pm⟩
def sp_l_gap (K : PySem.W.Frag) : Sp := fun vs H Q _ => ∃ (p : Addr) (ns : List Int) (g : Int), vs = [.ref p, .int g] ∧ Seq K H p (ns.map V.int) ∧ ns.length ≤ 1000 ∧
  ∀ H', Kp [] H H' → Q (optV (gapOf g ns)) H'
theorem ok__law_gap {f : Addr} {fd : FuncData} {k : Nat} (F : Fun K "_law_gap" "_law_gap" s__law_gap f fd) (m_enumerate : mg "enumerate" = none) (m_zip : mg "zip" = none) (m_sorted : mg "sorted" = none) (m_len : mg "len" = none)
    (C_l_rows : Cl P w K mg base CX0 1 "_law_rows" 2 (sp_l_rows K)) :
    FnG P w K mg base CX0 (k + 2) f fd ["_law_held", "_law_rate"] (sp_l_gap K) := by
  refine ok0 F sc__law_gap (fun vs H Q E h => ?_) (fun cdv A outer s H vs Q E gd hr h => ?_)
  · obtain ⟨p, ns, g, rfl, _⟩ := h
    rfl
  · obtain ⟨p, ns, g, rfl, hq, hlen, q⟩ := h
    refine ⟨_, (pss_cons (ps_set (i := 2) sc__law_gap.nd rfl (.inl rfl) pe_int)
      (pss_cons (ps_forW PassesOwn.never rfl (pi_ez (by rfl) m_enumerate (by rfl) m_zip (pa_cons (pe_callB (cr_srtK (K := K) rfl) (by rfl) m_sorted (by decide +kernel) (pa_cons (pv 0) pa_nil)) (pa_cons (pe_cl C_l_rows (hr.mono (by omega)) gd pass0 (by rfl) (pa_cons (pe_callB (call_len_seqK (K := K) rfl) (by rfl) m_len (by decide +kernel) (pa_cons (pv 0) pa_nil)) (pa_cons (pv 1) pa_nil))) pa_nil))) (pg_tup rfl (pgs_cons (pg_name (i := 3) sc__law_gap.nd rfl (.inl rfl)) (pgs_cons (pg_tup rfl (pgs_cons (pg_name (i := 4) sc__law_gap.nd rfl (.inl rfl)) (pgs_cons (pg_name (i := 5) sc__law_gap.nd rfl (.inl rfl)) pgs_nil))) pgs_nil)))
      (pss_cons (ps_set (i := 2) sc__law_gap.nd rfl (.inl rfl) (pe_op op_add (pv 2) (pv 4)))
      (pss_one (ps_if (pt_cmpR op_lt (pv 2) (pv 5) (nomark _))
      (pss_one (ps_ret (pe_op op_add (pv 3) pe_int)))
      pss_nil))))
      (pss_one (ps_ret pe_non)))), ?_⟩
    refine ⟨_, rfl, p, ns, rfl, hq, fun ms pm sm t H1 nt k1 h1 => ?_⟩
    have em := srt_eq pm sm
    have ml := pm.length_eq
    have hq1 : Seq K H1 p (ns.map V.int) := by
      rcases hq with hq | hq
      · exact .inl (k1.lst0 hq)
      · exact .inr (k1.tup0 hq)
    refine ⟨_, rfl, p, _, rfl, hq1, _, rfl, ns.length, g, ?_, hlen, fun r H2 nr k2 h2 => ?_⟩
    · rw [List.length_map]
      rfl
    have h1 := k2.at0 h1
    refine ⟨t, r, _, _, rfl, sqL h1, sqL h2, _, _, _, walk_ez (ns := ms) (ms := rows g ns.length) (n := ms.length) (by rw [rows_len, ml]; omega),
      fun i σ H3 => ∃ (y3 y4 y5 : Option V) (tot : Int), σ = [some (.ref p), some (.int g), some (.int tot), y3, y4, y5] ∧ Kp [] H H3 ∧ IL H3 t ms ∧ IL H3 r (rows g ns.length) ∧ gapOf g ns = gapFrom g i tot (ms.drop i),
      ⟨_, _, _, _, rfl, k1.trans k2, h1, h2, by unfold gapOf; rw [em]; rfl⟩, fun i σ H3 _ ⟨_, _, _, _, _, _, a, b, _⟩ => ⟨sqL a, sqL b⟩, ?_, ?_⟩
    · rintro i x σ H3 H4 hi ⟨y3, y4, y5, tot, rfl, k3, ht, hr3, eg⟩ ⟨T, U, rfl, nU, kT, hU, hT⟩
      rw [rows_get g ns.length i (by omega)] at hU
      rw [gap_step hi] at eg
      refine ⟨T, _, rfl, sqT hT, rfl, _, _, rfl, _, _, rfl, U, _, rfl, sqT hU, rfl, _, _, rfl, _, _, rfl, rfl, rfl, ?_⟩
      refine ⟨_, rfl, _, rfl, _, _, rfl, rfl, ?_⟩
      refine ⟨_, rfl, _, rfl, _, _, rfl, rfl, _, rfl, ite2 (fun e => ?_) (fun e => ?_)⟩
      · rw [if_pos (of_decide_eq_true e)] at eg
        have w := q H4 (k3.trans kT)
        rw [eg] at w
        exact ⟨_, rfl, _, _, rfl, rfl, w⟩
      · rw [if_neg (fun z => e (decide_eq_true z))] at eg
        exact ⟨_, _, _, _, rfl, k3.trans kT, kT.at0 ht, kT.at0 hr3, eg⟩
    · rintro σ H3 ⟨y3, y4, y5, tot, rfl, k3, ht, hr3, eg⟩
      rw [List.drop_eq_nil_of_le (Nat.le_refl _)] at eg
      have w := q H3 k3
      rw [eg] at w
      exact w
/-! ### balances near the thresholds -/
def sp_l_near (K : PySem.W.Frag) : Sp := fun vs H Q _ => ∃ (a : Addr) (n : Nat) (c : Nat) (g : Int), vs = [.ref a, .int (c : Int), .int g] ∧ Hand H a n ∧ n ≤ 2 ^ 47 ∧ 1 ≤ c ∧ c ≤ 40 ∧ 1 ≤ g ∧ g ≤ 1000000 ∧
  ∀ q H' (ms : List Int), Kp [a] H H' → H q = none → Hand H' a (n + 400) → H' q = some (.tup (ms.map V.int)) → ms.length = c → (∀ x ∈ ms, 0 ≤ x ∧ x ≤ 2000000000) → Q (.ref q) H'
theorem ok__law_near {f : Addr} {fd : FuncData} {k : Nat} (F : Fun K "_law_near" "_law_near" s__law_near f fd) (m_range : mg "range" = none) (m_max : mg "max" = none) (m_tuple : mg "tuple" = none)
    (C_l_take : Cl P w K mg base CX0 1 "_law_take" 2 (sp_l_take K)) (C_l_of : Cl P w K mg base CX0 2 "_law_of" 2 (sp_l_of K)) (C_l_rows : Cl P w K mg base CX0 1 "_law_rows" 2 (sp_l_rows K)) (C_l_mixed : Cl P w K mg base CX0 2 "_law_mixed" 2 (sp_l_mixed K)) :
    FnG P w K mg base CX0 (k + 3) f fd ["_law_hand_here", "_law_count", "_law_rate"] (sp_l_near K) := by
  refine ok0 F sc__law_near (fun vs H Q E h => ?_) (fun cdv A outer s H vs Q E gd hr h => ?_)
  · obtain ⟨a, n, c, g, rfl, _⟩ := h
    rfl
  · obtain ⟨a, n, c, g, rfl, hd, hn, hc1, hc, hg, hg2, q⟩ := h
    refine ⟨_, (pss_cons (ps_set (i := 3) sc__law_near.nd rfl (.inr rfl) (pe_op op_catI (pe_li (pa_cons pe_int pa_nil)) (pe_cl C_l_rows (hr.mono (by omega)) gd pass0 (by rfl) (pa_cons (pv 1) (pa_cons (pv 2) pa_nil)))))
      (pss_cons (ps_set (i := 4) sc__law_near.nd rfl (.inl rfl) (pe_cl C_l_mixed (hr.mono (by omega)) gd pass0 (by rfl) (pa_cons (pv 0) (pa_cons (pe_lcW (own := [("_law_k", 10)]) (g := (gName 10)) rfl sc__law_near.nd (pi_range1 (by rfl) m_range (pa_cons (pv 1) pa_nil)) (blkOk_by (own := [("_law_k", 10)]) (N := ["_law_hand_here", "_law_count", "_law_rate", "_law_rows_here", "_law_found", "_law_turn", "_law_giver", "_law_taker", "_law_portion", "_law_at", "_law_k"]) (sc := defScope s__law_near) (by decide +kernel)) (fun _ _ _ _ _ => (pg_name (i := 10) sc__law_near.nd rfl (.inl rfl))) (fun _ _ _ _ _ => pts_nil) (fun _ _ _ _ _ => (pe_op op_sub (pe_ix (ix_liK (K := K) rfl) (pv 3) (pe_op op_add (pv 10) pe_int) (fun _ _ => rfl)) (pe_ix (ix_liK (K := K) rfl) (pv 3) (pv 10) (fun _ _ => rfl))))) pa_nil))))
      (pss_cons (ps_forW PassesOwn.never rfl (pi_range1 (by rfl) m_range (pa_cons (pe_cl C_l_take (hr.mono (by omega)) gd pass0 (by rfl) (pa_cons (pv 0) (pa_cons (pe_op op_add (pe_op op_mul pe_int (pv 1)) pe_int) pa_nil))) pa_nil)) (pg_name (i := 5) sc__law_near.nd rfl (.inl rfl))
      (pss_cons (ps_par (by rfl) sc__law_near.nd (i := 6) (j := 7) rfl rfl (by decide) rfl rfl (pa_cons (pe_cl C_l_take (hr.mono (by omega)) gd pass0 (by rfl) (pa_cons (pv 0) (pa_cons (pv 1) pa_nil))) (pa_cons (pe_cl C_l_take (hr.mono (by omega)) gd pass0 (by rfl) (pa_cons (pv 0) (pa_cons (pv 1) pa_nil))) pa_nil)) (by rfl))
      (pss_cons (ps_set (i := 8) sc__law_near.nd rfl (.inl rfl) (pe_cl C_l_of (hr.mono (by omega)) gd pass0 (by rfl) (pa_cons (pv 0) (pa_cons (pe_li (pa_cons pe_int (pa_cons pe_int (pa_cons pe_int (pa_cons pe_int (pa_cons pe_int pa_nil)))))) pa_nil))))
      (pss_one (ps_if (pt_cmpR op_ge (pe_ix (ix_liK (K := K) rfl) (pv 4) (pv 6) (fun _ _ => rfl)) (pv 8) (nomark _))
      (pss_cons (ps_asg (pe_op op_sub (pe_ix (ix_liK (K := K) rfl) (pv 4) (pv 6) (fun _ _ => rfl)) (pv 8)) (pg_sub (pv 4) (pv 6) set_li))
      (pss_one (ps_asg (pe_op op_add (pe_ix (ix_liK (K := K) rfl) (pv 4) (pv 7) (fun _ _ => rfl)) (pv 8)) (pg_sub (pv 4) (pv 7) set_li))))
      pss_nil)))))
      (pss_cons (ps_forW PassesOwn.never rfl (pi_range1 (by rfl) m_range (pa_cons (pv 1) pa_nil)) (pg_name (i := 9) sc__law_near.nd rfl (.inl rfl))
      (pss_one (ps_asg (pe_callB (call_max2 rfl) (by rfl) m_max (by decide +kernel) (pa_cons pe_int (pa_cons (pe_op op_add (pe_ix (ix_liK (K := K) rfl) (pv 4) (pv 9) (fun _ _ => rfl)) (pe_cl C_l_of (hr.mono (by omega)) gd pass0 (by rfl) (pa_cons (pv 0) (pa_cons (pe_li (pa_cons pe_int (pa_cons pe_int (pa_cons pe_int (pa_cons pe_int (pa_cons pe_int (pa_cons pe_int (pa_cons pe_int (pa_cons pe_int (pa_cons (pe_un un_neg pe_int) (pa_cons (pv 2) pa_nil))))))))))) pa_nil)))) pa_nil))) (pg_sub (pv 4) (pv 9) set_li))))
      (pss_one (ps_ret (pe_callTy (call_tupLK (K := K) rfl) (by rfl) m_tuple (by decide +kernel) (pa_cons (pv 4) pa_nil)))))))), ?_⟩
    -- rows_here = [0] + rows
    refine ⟨[_], rfl, by decide, fun z H1 nz k1 h1 => ?_⟩
    refine ⟨_, rfl, _, rfl, c, g, rfl, by omega, fun r H2 nr k2 h2 => ?_⟩
    refine ⟨z, r, _, _, rfl, rfl, k2.at0 h1, h2, ?_, fun y H3 ny k3 h3 => ?_⟩
    · rw [rows_len]
      exact Nat.le_trans (show 1 + c ≤ 1001 by omega) (by decide)
    have h3 : IL H3 y (0 :: rows g c) := h3
    have k3 := (k1.trans k2).trans k3
    have hd3 := hd.kp0 k3
    have zy : H y = none := (k1.trans k2).free0 ny
    -- the steps
    refine ⟨_, rfl, _, rfl, _, rfl, by omega, by omega, _, _, _, walk_rg, ?_, fun D H4 nD k4 hD => ?_⟩
    · exact small1000 (by omega)
    have ec : ((c : Int)).toNat = c := by omega
    rw [ec]
    have zD : H D = none := k3.free0 nD
    refine ⟨fun i acc H5 => ∃ ns : List Int, acc = ns.map V.int ∧ ns.length = i ∧ (∀ x ∈ ns, 0 ≤ x ∧ x ≤ 1600000000) ∧ Kp [] H H5 ∧ IL H5 y (0 :: rows g c), ⟨[], rfl, rfl, (fun x hx => nomatch hx), k3.trans k4, k4.at0 h3⟩, fun _ _ _ _ _ => trivial, ?_, ?_⟩
    · rintro i acc x H5 _ hi ⟨ns, ea, en, hb, k5, h5⟩ hD5 ⟨rfl, rfl⟩
      refine ⟨rfl, yesT ?_⟩
      have e1 : (0 :: rows g c).getD (0 + (i : Int) + 1).toNat 0 = R g (i + 1) := by
        rw [show (0 + (i : Int) + 1).toNat = i + 1 by omega]
        exact rows_get g c i hi
      have e0 : (0 :: rows g c).getD (0 + (i : Int)).toNat 0 = R g i := by
        rw [show (0 + (i : Int)).toNat = i by omega]
        cases i with
        | zero => rfl
        | succ j => exact rows_get g c j (by omega)
      have lenZ : (0 :: rows g c).length = c + 1 := by rw [List.length_cons, rows_len]
      refine ⟨_, rfl, _, rfl, _, _, rfl, rfl, y, 0 :: rows g c, _, rfl, rfl, sqL h5, ⟨by omega, by rw [lenZ]; omega⟩, _, rfl, _, rfl, y, 0 :: rows g c, _, rfl, rfl, sqL h5, ⟨by omega, by rw [lenZ]; omega⟩, _, _, rfl, rfl, hD5, fun H6 m6 h6 => ?_⟩
      refine ⟨ns ++ [_], by rw [List.map_append, ea]; rfl, by rw [List.length_append, en]; rfl, ?_, k5.md (.inl zD) m6, (m6 y (ne_of_none h3 nD)).trans h5⟩
      intro x hx
      rcases List.mem_append.mp hx with w | w
      · exact hb x w
      · rw [List.mem_singleton.mp w, e1, e0]
        have hs := R_mono hg 0 i (by omega)
        rw [R_one, R_zero] at hs
        have hle := R_le hg (i + 1)
        have hnn := R_nn hg i
        have h2 : (((i + 1 : Nat) : Int) * ((i + 1 : Nat) : Int)) ≤ 40 * 40 := Int.mul_le_mul (by omega) (by omega) (by omega) (by omega)
        have h3 : g * (((i + 1 : Nat) : Int) * ((i + 1 : Nat) : Int)) ≤ 1000000 * (40 * 40) := Int.mul_le_mul hg2 h2 (Int.mul_nonneg (by omega) (by omega)) (by omega)
        omega
    rintro acc H5 _ hD5 ⟨ns, ea, en, hb, k5, h5⟩
    subst ea
    have hd5 := hd.kp0 k5
    -- mixed
    refine ⟨a, D, n, ns, rfl, hd5, by omega, .inl (sqL hD5), by omega, fun p H6 ms k6 np hd6 h6 pm => ?_⟩
    have k6 := k5.wide.trans k6
    have zp : H p = none := k5.free0 np
    have npa : p ≠ a := fun w => hd5.ne np w.symm
    have ml : ms.length = c := by rw [pm.length_eq, en]
    have mb : ∀ x ∈ ms, 0 ≤ x ∧ x ≤ 1600000000 := fun x hx => hb x (pm.mem_iff.mp hx)
    rw [en] at hd6
    -- the transfers
    refine ⟨_, rfl, _, rfl, _, _, rfl, rfl, .inl ⟨by decide, by decide⟩, _, _, rfl, rfl, a, _, _, rfl, hd6, by omega, by omega, by omega, fun d H7 k7 hd7 d0 d1 => ?_⟩
    have h7 := k7.at1 npa h6
    have k7 := k6.trans k7
    refine ⟨_, rfl, by omega, by omega, _, _, _, walk_rg, fun i σ H8 => ∃ (ns : List Int) (y5 y6 y7 y8 y9 y10 : Option V), σ = [some (.ref a), some (.int (c : Int)), some (.int g), some (.ref y), some (.ref p), y5, y6, y7, y8, y9, y10] ∧ Kp [a] H H8 ∧ Hand H8 a (n + c + 1 + 3 * i) ∧ IL H8 p ns ∧ ns.length = c ∧ ∀ x ∈ ns, 0 ≤ x ∧ x ≤ 1600000000 + 3 * (i : Int),
      ⟨ms, _, _, _, _, _, _, rfl, k7, hd7, h7, ml, fun x hx => by have := mb x hx; omega⟩, fun _ _ _ _ _ => trivial, ?_, ?_⟩
    · rintro i x σ H8 _ hi ⟨ns, y5, y6, y7, y8, y9, y10, rfl, k8, hd8, h8, nl, nb⟩ ⟨rfl, rfl⟩
      -- giver, taker
      refine ⟨_, rfl, _, rfl, a, _, _, rfl, hd8, by omega, by omega, by omega, fun d1 H9 k9 hd9 d10 d11 => ?_⟩
      have h9 := k9.at1 npa h8
      refine ⟨_, rfl, _, rfl, a, _, _, rfl, hd9, by omega, by omega, by omega, fun d2 H10 k10 hd10 d20 d21 => ?_⟩
      have h10 := k10.at1 npa h9
      refine ⟨_, _, rfl, ?_⟩
      -- amount
      refine ⟨_, rfl, [_, _, _, _, _], rfl, Nat.le_of_ble_eq_true rfl, fun b H11 nb11 k11 h11 => ?_⟩
      have hd11 := hd10.kp0 k11
      refine ⟨a, b, _, _, rfl, hd11, by omega, fun w => hd10.ne nb11 w.symm, .inl (sqL h11), Nat.le_of_ble_eq_true rfl, Nat.le_of_ble_eq_true rfl, fun v H12 k12 hd12 hv => ?_⟩
      obtain ⟨am, ha, rfl⟩ := List.mem_map.mp hv
      have ha1 : 1 ≤ am ∧ am ≤ 3 := by simp at ha; omega
      have h12 := k12.at1 npa (k11.at0 h10)
      have kk := k8.trans (k9.trans (k10.trans (k11.wide.trans k12)))
      -- the transfer
      refine ⟨_, rfl, _, rfl, p, ns, _, rfl, rfl, sqL h12, ⟨d10, by omega⟩, _, rfl, _, _, rfl, rfl, _, rfl, ite2 (fun e => ?_) (fun e => ?_)⟩
      · have e' : am ≤ ns.getD d1.toNat 0 := of_decide_eq_true e
        refine ⟨_, rfl, _, rfl, p, ns, _, rfl, rfl, sqL h12, ⟨d10, by omega⟩, _, rfl, _, _, rfl, rfl, _, rfl, _, rfl, p, ns, _, _, rfl, rfl, rfl, h12, ⟨d10, by omega⟩, fun H13 m13 h13 => ?_⟩
        have b1 : ∀ x ∈ ns.set d1.toNat (ns.getD d1.toNat 0 - am), 0 ≤ x ∧ x ≤ 1600000000 + 3 * (i : Int) := by
          refine all_set nb ?_
          have := all_get nb (j := d1.toNat) (by omega)
          omega
        have l1 : (ns.set d1.toNat (ns.getD d1.toNat 0 - am)).length = c := by rw [List.length_set, nl]
        generalize ns.set d1.toNat (ns.getD d1.toNat 0 - am) = ns1 at h13 b1 l1
        refine ⟨_, rfl, _, rfl, p, ns1, _, rfl, rfl, sqL h13, ⟨d20, by omega⟩, _, rfl, _, _, rfl, rfl, _, rfl, _, rfl, p, ns1, _, _, rfl, rfl, rfl, h13, ⟨d20, by omega⟩, fun H14 m14 h14 => ?_⟩
        refine ⟨_, _, _, _, _, _, _, rfl, (kk.md (.inl zp) m13).md (.inl zp) m14, ((hd12.md m13 npa.symm).md m14 npa.symm).mono (by omega), h14, by rw [List.length_set, l1], ?_⟩
        refine all_set (fun x hx => ?_) ?_
        · have := b1 x hx
          omega
        · have := all_get b1 (j := d2.toNat) (by omega)
          omega
      · exact ⟨ns, _, _, _, _, _, _, rfl, kk, hd12.mono (by omega), h12, nl, fun x hx => by have := nb x hx; omega⟩
    · rintro σ H8 ⟨ns, y5, y6, y7, y8, y9, y10, rfl, k8, hd8, h8, nl, nb⟩
      have hd8 := hd8.mono (show n + c + 1 + 3 * d.toNat ≤ n + 290 by omega)
      refine ⟨_, rfl, _, rfl, by omega, by omega, _, _, _, walk_rg, fun i σ H8 => ∃ (ns : List Int) (y5 y6 y7 y8 y9 y10 : Option V), σ = [some (.ref a), some (.int (c : Int)), some (.int g), some (.ref y), some (.ref p), y5, y6, y7, y8, y9, y10] ∧ Kp [a] H H8 ∧ Hand H8 a (n + 290 + i) ∧ IL H8 p ns ∧ ns.length = c ∧ ∀ x ∈ ns, 0 ≤ x ∧ x ≤ 1600000240 + 1000000 * (i : Int),
        ⟨ns, _, _, _, _, _, _, rfl, k8, hd8, h8, nl, fun x hx => by have := nb x hx; omega⟩, fun _ _ _ _ _ => trivial, ?_, ?_⟩
      · rintro i x σ H9 _ hi ⟨ns, y5, y6, y7, y8, y9, y10, rfl, k9, hd9, h9, nl, nb⟩ ⟨rfl, rfl⟩
        refine ⟨_, rfl, _, rfl, p, ns, _, rfl, rfl, sqL h9, ⟨by omega, by omega⟩, _, rfl, _, rfl, _, rfl, [_, _, _, _, _, _, _, _, _, _], rfl, Nat.le_of_ble_eq_true rfl, fun b H11 nb11 k11 h11 => ?_⟩
        have hd11 := hd9.kp0 k11
        refine ⟨a, b, _, _, rfl, hd11, by omega, fun w => hd9.ne nb11 w.symm, .inl (sqL h11), Nat.le_of_ble_eq_true rfl, Nat.le_of_ble_eq_true rfl, fun v H12 k12 hd12 hv => ?_⟩
        obtain ⟨am, ha, rfl⟩ := List.mem_map.mp hv
        have ha1 : -1 ≤ am ∧ am ≤ 1000000 := by simp at ha; omega
        have h12 := k12.at1 npa (k11.at0 h9)
        have kk := k9.trans (k11.wide.trans k12)
        refine ⟨_, _, rfl, rfl, _, _, rfl, _, rfl, _, rfl, p, ns, _, _, rfl, rfl, rfl, h12, ⟨by omega, by omega⟩, fun H14 m14 h14 => ?_⟩
        refine ⟨_, _, _, _, _, _, _, rfl, kk.md (.inl zp) m14, (hd12.md m14 npa.symm).mono (by omega), h14, by rw [List.length_set, nl], ?_⟩
        refine all_set (fun x hx => ?_) ?_
        · have := nb x hx
          omega
        · have := all_get nb (j := (0 + (i : Int)).toNat) (by omega)
          split <;> omega
      · rintro σ H9 ⟨ns, y5, y6, y7, y8, y9, y10, rfl, k9, hd9, h9, nl, nb⟩
        refine ⟨_, rfl, _, _, rfl, sqL h9, fun t H10 nt k10 h10 => ?_⟩
        refine q t H10 ns (k9.trans k10.wide) (k9.free (fun w => ?_) nt) ((hd9.kp0 k10).mono (by omega)) h10 nl fun x hx => ?_
        · exact hd9.ne nt (List.mem_singleton.mp w).symm
        · have := nb x hx
          omega
def sp_l_safe_ones (K : PySem.W.Frag) : Sp := fun vs H Q _ => ∃ (a : Addr) (n : Nat) (c : Nat) (g : Int), vs = [.ref a, .int (c : Int), .int g] ∧ Hand H a n ∧ n ≤ 2 ^ 46 ∧ 1 ≤ c ∧ c ≤ 40 ∧ 1 ≤ g ∧ g ≤ 1000000 ∧
  ∀ q H' (ms : List Int), Kp [a] H H' → H q = none → Hand H' a (n + 2 ^ 37) → H' q = some (.tup (ms.map V.int)) → ms.length = c → (∀ x ∈ ms, 0 ≤ x ∧ x ≤ 2000000002) → gapOf g ms = none → Q (.ref q) H'
theorem flat1 (x : Int) : ∀ c : Nat, (List.replicate c [x]).flatten = List.replicate c x
  | 0 => rfl
  | c + 1 => by
    rw [List.replicate_succ, List.flatten_cons, flat1 x c]
    rfl
/-! ### k73 math: budgets, credits, senders -/
theorem R_g {g g' : Int} (hg : 1 ≤ g) (h : g < g') : ∀ k, 1 ≤ k → R g k < R g' k
  | 0, h1 => absurd h1 (by omega)
  | 1, _ => by rw [R_one, R_one]; exact h
  | k + 2, _ => by
    have ih := R_g hg h (k + 1) (by omega)
    have e : R g (k + 2) = R g (k + 1) + g + (R g (k + 1) - 1) / ((k : Int) + 1) := rfl
    have e' : R g' (k + 2) = R g' (k + 1) + g' + (R g' (k + 1) - 1) / ((k : Int) + 1) := rfl
    have : (R g (k + 1) - 1) / ((k : Int) + 1) ≤ (R g' (k + 1) - 1) / ((k : Int) + 1) := Int.ediv_le_ediv (by omega) (by omega)
    omega
theorem gap_g {g g' : Int} (hg : 1 ≤ g) (h : g ≤ g') {ns : List Int} (e : gapOf g' ns = none) : gapOf g ns = none := by
  by_cases c : g = g'
  · rw [c]
    exact e
  · refine gap_none.mpr fun k h1 h2 => ?_
    have := gap_none.mp e k h1 h2
    have := R_g hg (show g < g' by omega) k h1
    omega
/-! ### what a gap tells -/
theorem gapFrom_some {g : Int} : ∀ (ms : List Int) (i : Nat) (t : Int) (k : Nat), gapFrom g i t ms = some k → ∃ m, k = i + m + 1 ∧ m < ms.length ∧ t + (ms.take (m + 1)).sum < R g (i + m + 1) ∧ ∀ j, j < m → R g (i + j + 1) ≤ t + (ms.take (j + 1)).sum
  | [], i, t, k, h => by simp [gapFrom] at h
  | b :: r, i, t, k, h => by
    unfold gapFrom at h
    by_cases c : t + b < R g (i + 1)
    · rw [if_pos c] at h
      cases h
      exact ⟨0, rfl, by simp, by simpa using c, fun j hj => absurd hj (Nat.not_lt_zero _)⟩
    · rw [if_neg c] at h
      obtain ⟨m, e, h1, h2, h3⟩ := gapFrom_some r (i + 1) (t + b) k h
      refine ⟨m + 1, by omega, by simpa using h1, ?_, fun j hj => ?_⟩
      · rw [List.take_succ_cons, List.sum_cons, show i + (m + 1) + 1 = i + 1 + m + 1 by omega]
        omega
      · cases j with
        | zero =>
          simp
          omega
        | succ j =>
          have := h3 j (by omega)
          rw [List.take_succ_cons, List.sum_cons, show i + (j + 1) + 1 = i + 1 + j + 1 by omega]
          omega
theorem gap_some {g : Int} {ns : List Int} {k : Nat} (h : gapOf g ns = some k) : 1 ≤ k ∧ k ≤ ns.length ∧ SS ns k < R g k ∧ ∀ j, 1 ≤ j → j < k → R g j ≤ SS ns j := by
  obtain ⟨m, e, h1, h2, h3⟩ := gapFrom_some _ _ _ _ h
  rw [srt_len] at h1
  subst e
  refine ⟨by omega, by omega, ?_, fun j hj hjm => ?_⟩
  · unfold SS
    rw [show 0 + m + 1 = m + 1 by omega] at h2 ⊢
    omega
  · have := h3 (j - 1) (by omega)
    rw [show 0 + (j - 1) + 1 = j by omega, show j - 1 + 1 = j by omega] at this
    unfold SS
    omega
theorem gap_le {g : Int} {ns : List Int} {j : Nat} (h1 : 1 ≤ j) (h2 : j ≤ ns.length) (h : SS ns j < R g j) : ∃ k, gapOf g ns = some k ∧ k ≤ j := by
  cases e : gapOf g ns with
  | none =>
    have := gap_none.mp e j h1 h2
    omega
  | some k =>
    refine ⟨k, rfl, ?_⟩
    obtain ⟨a, b, c, d⟩ := gap_some e
    by_cases z : k ≤ j
    · exact z
    · have := d j h1 (by omega)
      omega
/-- k of them that sum to the least are the k smallest -/
theorem Pw.snoc : ∀ {a b : List Int} {x y : Int}, Pw a b → x ≤ y → Pw (a ++ [x]) (b ++ [y])
  | [], [], _, _, .nil, h => .cons h .nil
  | _ :: _, _ :: _, _, _, .cons e r, h => .cons e (Pw.snoc r h)
/-! ### safe balances, raised by what the first gap lacks -/
def sp_l_safe_case (K : PySem.W.Frag) : Sp := fun vs H Q _ => ∃ (a : Addr) (n m : Nat), vs = [.ref a, .int (m : Int)] ∧ Hand H a n ∧ n ≤ 2 ^ 46 ∧ 1 ≤ m ∧ m ≤ 40 ∧
  ∀ t q H' (ms : List Int) (g : Int), Kp [a] H H' → H q = none → Hand H' a (n + 500) → H' t = some (.tup [.ref q, .int g]) → H' q = some (.tup (ms.map V.int)) → 1 ≤ ms.length → ms.length ≤ 40 → 1 ≤ g → g ≤ 1000000 → (∀ x ∈ ms, 0 ≤ x ∧ x ≤ 1000000000000) → gapOf g ms = none → Q (.ref t) H'
theorem ok__law_safe_case {f : Addr} {fd : FuncData} {k : Nat} (F : Fun K "_law_safe_case" "_law_safe_case" s__law_safe_case f fd) (m_list : mg "list" = none) (m_min : mg "min" = none) (m_tuple : mg "tuple" = none) (m_sum : mg "sum" = none) (m_sorted : mg "sorted" = none)
    (C_l_take : Cl P w K mg base CX0 1 "_law_take" 2 (sp_l_take K)) (C_l_of : Cl P w K mg base CX0 2 "_law_of" 2 (sp_l_of K)) (C_l_gap : Cl P w K mg base CX0 2 "_law_gap" 2 (sp_l_gap K)) (C_l_near : Cl P w K mg base CX0 3 "_law_near" 3 (sp_l_near K)) (C_l_rows : Cl P w K mg base CX0 1 "_law_rows" 2 (sp_l_rows K)) :
    FnG P w K mg base CX0 (k + 4) f fd ["_law_hand_here", "_law_most"] (sp_l_safe_case K) := by
  refine ok0 F sc__law_safe_case (fun vs H Q E h => ?_) (fun cdv A outer s H vs Q E gd hr h => ?_)
  · obtain ⟨a, n, m, rfl, _⟩ := h
    rfl
  · obtain ⟨a, n, m, rfl, hd, hn, hm1, hm, q⟩ := h
    have e6 : (10 : Int) ^ (6 : Int).toNat = 1000000 := by decide
    have e11 : (10 : Int) ^ (11 : Int).toNat = 100000000000 := by decide
    refine ⟨_, (pss_cons (ps_set (i := 2) sc__law_safe_case.nd rfl (.inl rfl) (pe_op op_add pe_int (pe_cl C_l_take (hr.mono (by omega)) gd pass0 (by rfl) (pa_cons (pv 0) (pa_cons (pv 1) pa_nil)))))
      (pss_cons (ps_ifJ (pt_cmpR op_eq (pe_cl C_l_take (hr.mono (by omega)) gd pass0 (by rfl) (pa_cons (pv 0) (pa_cons pe_int pa_nil))) pe_int (nomark _))
      (pss_one (ps_set (i := 2) sc__law_safe_case.nd rfl (.inl rfl) (pe_op op_add pe_int (pe_cl C_l_take (hr.mono (by omega)) gd pass0 (by rfl) (pa_cons (pv 0) (pa_cons pe_int pa_nil))))))
      pss_nil)
      (pss_cons (ps_set (i := 3) sc__law_safe_case.nd rfl (.inl rfl) (pe_op op_add pe_int (pe_cl C_l_take (hr.mono (by omega)) gd pass0 (by rfl) (pa_cons (pv 0) (pa_cons (pe_op op_sub (pe_op op_pow pe_int pe_int) pe_int) pa_nil)))))
      (pss_cons (ps_set (i := 4) sc__law_safe_case.nd rfl (.inr rfl) (pe_cl C_l_of (hr.mono (by omega)) gd pass0 (by rfl) (pa_cons (pv 0) (pa_cons (pe_li (pa_cons pe_int (pa_cons pe_int (pa_cons pe_int (pa_cons (pe_op op_add pe_int (pe_cl C_l_take (hr.mono (by omega)) gd pass0 (by rfl) (pa_cons (pv 0) (pa_cons pe_int pa_nil)))) (pa_cons (pv 3) (pa_cons (pe_op op_pow pe_int pe_int) pa_nil))))))) pa_nil))))
      (pss_cons (ps_set (i := 5) sc__law_safe_case.nd rfl (.inl rfl) (pe_callTy (call_lstTK (K := K) rfl) (by rfl) m_list (by decide +kernel) (pa_cons (pe_cl C_l_near (hr.mono (by omega)) gd pass0 (by rfl) (pa_cons (pv 0) (pa_cons (pv 2) (pa_cons (pv 4) pa_nil)))) pa_nil)))
      (pss_cons (ps_set (i := 6) sc__law_safe_case.nd rfl (.inl rfl) (pe_cl C_l_rows (hr.mono (by omega)) gd pass0 (by rfl) (pa_cons (pv 2) (pa_cons (pv 4) pa_nil))))
      (pss_cons (ps_while PassesOwn.never (pt_cmpR op_notN (pe_cl C_l_gap (hr.mono (by omega)) gd pass0 (by rfl) (pa_cons (pv 5) (pa_cons (pv 4) pa_nil))) pe_non (nomark _))
      (pss_cons (ps_set (i := 7) sc__law_safe_case.nd rfl (.inl rfl) (pe_cl C_l_gap (hr.mono (by omega)) gd pass0 (by rfl) (pa_cons (pv 5) (pa_cons (pv 4) pa_nil))))
      (pss_cons (ps_set (i := 8) sc__law_safe_case.nd rfl (.inl rfl) (pe_bm PySem.F.plainAttrs_list PySem.F.slot_list_index PySem.F.type_list_index (mt_indexI (K := K) rfl) (pv 5) (pa_cons (pe_callB (cr_minK (K := K) rfl rfl) (by rfl) m_min (by decide +kernel) (pa_cons (pv 5) pa_nil)) pa_nil)))
      (pss_cons (ps_set (i := 9) sc__law_safe_case.nd rfl (.inl rfl) (pe_op op_sub (pe_ix (ix_liK (K := K) rfl) (pv 6) (pe_op op_sub (pv 7) pe_int) (fun _ _ => rfl)) (pe_callB (cr_sumK (K := K) rfl rfl) (by rfl) m_sum (by decide +kernel) (pa_cons (pe_slice (sl_liToK (K := K) rfl) (pe_callB (cr_srtLK (K := K) rfl) (by rfl) m_sorted (by decide +kernel) (pa_cons (pv 5) pa_nil)) po_none (po_some (pv 7))) pa_nil))))
      (pss_one (ps_asg (pe_op op_add (pe_ix (ix_liK (K := K) rfl) (pv 5) (pv 8) (fun _ _ => rfl)) (pv 9)) (pg_sub (pv 5) (pv 8) set_li)))))))
      (pss_cons (ps_ifJ (pt_cmpR op_eq (pe_cl C_l_take (hr.mono (by omega)) gd pass0 (by rfl) (pa_cons (pv 0) (pa_cons pe_int pa_nil))) pe_int (nomark _))
      (pss_one (ps_setLcW (i := 5) (own := [("_law_one", 10)]) (g := (gName 10)) rfl sc__law_safe_case.nd rfl rfl (sw_true rfl rfl rfl (by decide +kernel)) (pi_list (pv 5)) (blkOk_by (own := [("_law_one", 10)]) (N := ["_law_hand_here", "_law_most", "_law_count", "_law_great", "_law_rate", "_law_found", "_law_rows_here", "_law_size", "_law_lowest", "_law_lacking", "_law_one"]) (sc := defScope s__law_safe_case) (by decide +kernel)) (fun _ _ _ _ _ => (pg_name (i := 10) sc__law_safe_case.nd rfl (.inl rfl))) (fun _ _ _ _ _ => pts_nil) (fun _ _ _ _ _ => (pe_op op_add (pv 10) (pe_cl C_l_of (hr.mono (by omega)) gd pass0 (by rfl) (pa_cons (pv 0) (pa_cons (pe_li (pa_cons pe_int (pa_cons pe_int (pa_cons pe_int (pa_cons (pv 4) (pa_cons (pe_op op_pow pe_int pe_int) pa_nil)))))) pa_nil)))))))
      pss_nil)
      (pss_one (ps_ret (pe_ta (pa_cons (pe_callTy (call_tupLK (K := K) rfl) (by rfl) m_tuple (by decide +kernel) (pa_cons (pv 5) pa_nil)) (pa_cons (pv 4) pa_nil))))))))))))), ?_⟩
    -- the count
    refine ⟨_, rfl, _, rfl, a, n, _, rfl, hd, by omega, by omega, by omega, fun d H1 k1 hd1 d0 d1 => ?_⟩
    refine ⟨_, _, rfl, rfl, ?_⟩
    refine ⟨fun σ' H' => ∃ (c : Int) (y3 y4 y5 y6 y7 y8 y9 y10 : Option V), σ' = [some (.ref a), some (.int (m : Int)), some (.int c), y3, y4, y5, y6, y7, y8, y9, y10] ∧ 1 ≤ c ∧ c ≤ 40 ∧ Kp [a] H H' ∧ Hand H' a (n + 3), ?_, ?_⟩
    · refine ⟨_, rfl, a, _, _, rfl, hd1, by omega, by decide, by decide, fun d' H2 k2 hd2 d0' d1' => ?_⟩
      refine ⟨rfl, _, rfl, ite2 (fun e => ?_) (fun e => ?_)⟩
      · refine ⟨_, rfl, a, _, _, rfl, hd2, by omega, by decide, by decide, fun d'' H3 k3 hd3 d0'' d1'' => ?_⟩
        exact ⟨_, _, rfl, rfl, 1 + d'', _, _, _, _, _, _, _, _, rfl, by omega, by omega, k1.trans (k2.trans k3), hd3⟩
      · exact ⟨1 + d, _, _, _, _, _, _, _, _, rfl, by omega, by omega, k1.trans k2, hd2.mono (by omega)⟩
    rintro _ H2 ⟨c0, y3, y4, y5, y6, y7, y8, y9, y10, rfl, hc1, hc, k2, hd2⟩
    obtain ⟨c, rfl⟩ : ∃ c : Nat, c0 = (c : Int) := ⟨c0.toNat, by omega⟩
    have hc1 : 1 ≤ c := by omega
    have hc : c ≤ 40 := by omega
    -- the great budget
    refine ⟨_, rfl, _, _, rfl, rfl, ⟨by decide, by decide, by decide⟩, _, _, rfl, rfl, a, _, _, rfl, hd2, by omega, by decide, by decide, fun gr H3 k3 hd3 g0 g1 => ?_⟩
    rw [e6] at g1
    refine ⟨_, _, rfl, rfl, ?_⟩
    have k3 := k2.trans k3
    -- the budget
    refine ⟨_, rfl, _, rfl, a, _, _, rfl, hd3, by omega, by decide, by decide, fun b7 H4 k4 hd4 b0 b1 => ?_⟩
    refine ⟨_, _, rfl, rfl, _, rfl, _, _, rfl, rfl, ⟨by decide, by decide, by decide⟩, [_, _, _, _, _, _], rfl, Nat.le_of_ble_eq_true rfl, fun bl H5 nbl k5 h5 => ?_⟩
    have hd5 := hd4.kp0 k5
    refine ⟨a, bl, _, _, rfl, hd5, by omega, fun z => hd4.ne nbl z.symm, .inl (sqL h5), Nat.le_of_ble_eq_true rfl, Nat.le_of_ble_eq_true rfl, fun gv H6 k6 hd6 hgv => ?_⟩
    obtain ⟨g, hgm, rfl⟩ := List.mem_map.mp hgv
    have hg12 : 1 ≤ g ∧ g ≤ 1000000 := by
      rw [e6] at hgm
      simp at hgm
      omega
    obtain ⟨hg, hg2⟩ := hg12
    have k6 := k3.trans (k4.trans (k5.wide.trans k6))
    -- near
    refine ⟨_, rfl, _, rfl, _, rfl, a, _, c, g, rfl, hd6, by omega, hc1, hc, hg, hg2, fun t H7 ms k7 nt hd7 h7 ml mb => ?_⟩
    refine ⟨t, _, rfl, sqT h7, fun p H8 np k8 h8 => ?_⟩
    have hd8 := hd7.kp0 k8
    have npa : p ≠ a := fun w => hd7.ne np w.symm
    have k7 := k6.trans k7
    have zp : H p = none := k7.free (fun w => hd7.ne np (List.mem_singleton.mp w).symm) np
    have k8 := k7.trans k8.wide
    -- rows
    refine ⟨_, rfl, _, rfl, c, g, rfl, by omega, fun r H9 nr k9 h9 => ?_⟩
    have hd9 := hd8.kp0 k9
    have h89 := k9.at0 h8
    have npr : p ≠ r := ne_of_none h8 nr
    have k9 := k8.trans k9.wide
    have hR0 := R_nn hg c
    have hR : R g c ≤ 1600000000 := by
      have h := R_le hg c
      have h2 : ((c : Int) * c) ≤ 40 * 40 := Int.mul_le_mul (by omega) (by omega) (by omega) (by omega)
      have h3 : g * ((c : Int) * c) ≤ 1000000 * (40 * 40) := Int.mul_le_mul hg2 h2 (Int.mul_nonneg (by omega) (by omega)) (by omega)
      omega
    have nra : r ≠ a := fun w => hd8.ne nr w.symm
    refine ⟨fun m' σ H3 => ∃ (ns : List Int) (y7 y8 y9 y10 : Option V), σ = [some (.ref a), some (.int (m : Int)), some (.int (c : Int)), some (.int (8 + gr)), some (.int g), some (.ref p), some (.ref r), y7, y8, y9, y10] ∧ Kp [a] H H3 ∧ Hand H3 a (n + 420) ∧ IL H3 p ns ∧ IL H3 r (rows g c) ∧ ns.length = c ∧ (∀ x ∈ ns, 0 ≤ x ∧ x ≤ 4000000000) ∧ m' = lacks (R g c) ns,
      ⟨_, ms, _, _, _, _, rfl, k9, hd9.mono (by omega), h89, h9, ml, fun x hx => by have := mb x hx; omega, rfl⟩, ?_⟩
    rintro m' σ H3 ⟨ns, y7, y8, y9, y10, rfl, k3, hd3, h3, hr3, nl, nb, em⟩
    refine ⟨_, rfl, _, rfl, p, ns, g, rfl, .inl (sqL h3), by omega, fun H4 k4 => ?_⟩
    have h4 := k4.at0 h3
    have hr4 := k4.at0 hr3
    have hd4 := hd3.kp0 k4
    have k4 := k3.trans k4.wide
    cases eg : gapOf g ns with
    | none =>
      refine ⟨rfl, _, rfl, ?_⟩
      refine (show if (!decide (V.non = V.non)) = true then _ else _ from iteNS rfl ?_)
      refine ⟨fun σ' H' => ∃ (p' : Addr) (ms' : List Int) (y7 y8 y9 y10 : Option V), σ' = [some (.ref a), some (.int (m : Int)), some (.int (c : Int)), some (.int (8 + gr)), some (.int g), some (.ref p'), some (.ref r), y7, y8, y9, y10] ∧ Kp [a] H H' ∧ Hand H' a (n + 470) ∧ IL H' p' ms' ∧ ms'.length = c ∧ (∀ x ∈ ms', 0 ≤ x ∧ x ≤ 1000000000000) ∧ gapOf g ms' = none, ?_, ?_⟩
      · refine ⟨_, rfl, a, _, _, rfl, hd4, by omega, by decide, by decide, fun d3 H5 k5 hd5 d30 d31 => ?_⟩
        have h5 := k5.at1 npa h4
        have k5 := k4.trans k5
        refine ⟨rfl, _, rfl, ite2 (fun e => ?_) (fun e => ?_)⟩
        · refine ⟨_, rfl, p, rfl, ⟨_, sqL h5⟩, _, _, _, walk_li (ns := ns), small1000 (by omega), fun D H6 nD k6 hD => ?_⟩
          have nDa : D ≠ a := fun z => hd5.ne nD z.symm
          have zD : H D = none := k5.free (fun w => nDa (List.mem_singleton.mp w)) nD
          have npD : p ≠ D := ne_of_none h5 nD
          refine ⟨fun i acc H7 => ∃ xs : List Int, acc = xs.map V.int ∧ xs.length = i ∧ (∀ x ∈ xs, 0 ≤ x ∧ x ≤ 1000000000000) ∧ Pw (ns.take i) xs ∧ Kp [a] H H7 ∧ Hand H7 a (n + 421 + i) ∧ IL H7 p ns, ⟨[], rfl, rfl, (fun x hx => nomatch hx), .nil, k5.trans k6.wide, hd5.kp0 k6, k6.at0 h5⟩, fun i acc H7 _ ⟨_, _, _, _, _, _, _, z⟩ => sqL z, ?_, ?_⟩
          · rintro i acc x _ H7 hi ⟨xs, ea, xl, xb, xw, k7, hd7, hp7⟩ hD7 ⟨rfl, rfl⟩
            have hi2 : i < ns.length := hi
            have hb := all_get nb hi2
            refine ⟨rfl, yesT ?_⟩
            refine ⟨_, rfl, _, rfl, _, rfl, _, _, rfl, rfl, ⟨by decide, by decide, by decide⟩, [_, _, _, _, _], rfl, Nat.le_of_ble_eq_true rfl, fun ol H8 nol k8 h8 => ?_⟩
            have hd8 := hd7.kp0 k8
            refine ⟨a, ol, _, _, rfl, hd8, by omega, fun z => hd7.ne nol z.symm, .inl (sqL h8), Nat.le_of_ble_eq_true rfl, Nat.le_of_ble_eq_true rfl, fun v H9 k9 hd9 hv => ?_⟩
            obtain ⟨z, hz, rfl⟩ := List.mem_map.mp hv
            have hz2 : 0 ≤ z ∧ z ≤ 100000000000 := by
              rw [e11] at hz
              simp at hz
              omega
            have hD9 := k9.at1 nDa (k8.at0 hD7)
            have hp9 := k9.at1 npa (k8.at0 hp7)
            refine ⟨_, _, rfl, rfl, hD9, fun H10 m10 h10 => ?_⟩
            refine ⟨xs ++ [ns.getD i 0 + z], by rw [List.map_append, ea]; rfl, by rw [List.length_append, xl]; rfl, fun y hy => ?_, ?_, (k7.trans (k8.wide.trans k9)).md (.inl zD) m10, (hd9.md m10 nDa.symm).mono (by omega), (m10 p npD).trans hp9⟩
            · rcases List.mem_append.mp hy with w | w
              · exact xb y w
              · rw [List.mem_singleton.mp w]
                omega
            · rw [List.take_add_one, List.getElem?_eq_getElem hi2]
              refine Pw.snoc xw ?_
              rw [List.getD_eq_getElem?_getD, List.getElem?_eq_getElem hi2]
              show _ ≤ _ + z
              simp
              omega
          rintro acc H7 _ hD7 ⟨xs, ea, xl, xb, xw, k7, hd7, hp7⟩
          subst ea
          rw [List.take_of_length_le (Nat.le_refl _)] at xw
          exact ⟨D, xs, _, _, _, _, rfl, k7, hd7.mono (by omega), hD7, by omega, xb, gap_mono xw eg⟩
        · exact ⟨p, ns, _, _, _, _, rfl, k5, hd5.mono (by omega), h5, nl, fun x hx => by have := nb x hx; omega, eg⟩
      rintro _ H5 ⟨p', ms', y7, y8, y9, y10, rfl, k5, hd5, h5, ml', mb', eg'⟩
      refine ⟨_, rfl, p', _, rfl, sqL h5, fun u H6 nu k6 h6 => ?_⟩
      refine ⟨_, rfl, Nat.le_of_ble_eq_true rfl, fun t H7 nt k7 h7 => ?_⟩
      exact q t u H7 ms' g (k5.trans (k6.trans k7).wide) (k5.free (fun w => hd5.ne nu (List.mem_singleton.mp w).symm) nu) (((hd5.kp0 k6).kp0 k7).mono (by omega)) h7 (k7.at0 h6) (by omega) (by omega) hg hg2 mb' eg'
    | some kk =>
      have hkk := gap_range eg
      have hlt := (gap_some eg).2.2.1
      refine ⟨rfl, _, rfl, ?_⟩
      refine (show if (!decide (V.int (kk : Int) = V.non)) = true then _ else _ from ?_)
      rw [decide_eq_false (fun z => nomatch z)]
      refine iteT ?_
      obtain ⟨b, hb1, hb2⟩ := gap_low hg (fun x hx => (nb x hx).1) eg
      rw [nl] at hb2
      refine ⟨fun σ' H' => ∃ (ns' : List Int) (y7 y8 y9 y10 : Option V), σ' = [some (.ref a), some (.int (m : Int)), some (.int (c : Int)), some (.int (8 + gr)), some (.int g), some (.ref p), some (.ref r), y7, y8, y9, y10] ∧ Kp [a] H H' ∧ Hand H' a (n + 420) ∧ IL H' p ns' ∧ IL H' r (rows g c) ∧ ns'.length = c ∧ (∀ x ∈ ns', 0 ≤ x ∧ x ≤ 4000000000) ∧ lacks (R g c) ns' < lacks (R g c) ns, ?_, ?_⟩
      · rintro σ' H' ⟨ns', y7, y8, y9, y10, rfl, a1, a2, a3, a4, a5, a6, a7⟩
        exact ⟨_, by omega, ns', _, _, _, _, rfl, a1, a2, a3, a4, a5, a6, rfl⟩
      refine ⟨_, rfl, _, rfl, p, ns, g, rfl, .inl (sqL h4), by omega, fun H5 k5 => ?_⟩
      rw [eg]
      have h5 := k5.at0 h4
      have hr5 := k5.at0 hr4
      have hd5 := hd4.kp0 k5
      have k5 := k4.trans k5.wide
      refine ⟨_, rfl, .inl ⟨rfl, _, sqL h5⟩, _, rfl, p, ns, rfl, sqL h5, by omega, fun mn hm1 hm2 => ?_⟩
      refine ⟨p, ns, mn, rfl, rfl, sqL h5, hm1, fun at_ ha1 ha2 _ => ?_⟩
      have hmn : mn < R g c := by
        have := hm2 b hb1
        omega
      have hmb := nb mn hm1
      have ea : ((at_ : Int)).toNat = at_ := by omega
      have ek : ((kk : Int) - 1).toNat = kk - 1 := by omega
      have ek2 : ((kk : Int)).toNat = kk := by omega
      refine ⟨_, rfl, _, rfl, _, _, rfl, rfl, r, rows g c, _, rfl, rfl, sqL hr5, ⟨by omega, by rw [rows_len]; omega⟩, ?_⟩
      refine ⟨_, rfl, p, ns, rfl, sqL h5, fun so pm sm t H6 nt k6 h6 => ?_⟩
      have eso := srt_eq pm sm
      have h56 := k6.at0 h5
      have hr6 := k6.at0 hr5
      have hd6 := hd5.kp0 k6
      have k6 := k5.trans k6.wide
      refine ⟨_, rfl, _, rfl, t, so, _, rfl, rfl, rfl, sqL h6, by omega, fun u H7 nu k7 h7 => ?_⟩
      have h57 := k7.at0 h56
      have hr7 := k7.at0 hr6
      have hd7 := hd6.kp0 k7
      have k7 := k6.trans k7.wide
      refine ⟨u, _, rfl, sqL h7, _, _, rfl, rfl, ?_⟩
      have el : (rows g c).getD ((kk : Int) - 1).toNat 0 - (so.take (kk : Int).toNat).sum = R g kk - SS ns kk := by
        rw [ek, ek2, rows_get g c (kk - 1) (by omega), eso, show kk - 1 + 1 = kk by omega]
        rfl
      have hRk := R_up hg kk c (by omega)
      have hS0 := SS_nn (fun x hx => (nb x hx).1) kk
      refine ⟨_, rfl, _, rfl, p, ns, _, rfl, rfl, sqL h57, ⟨by omega, by omega⟩, _, rfl, _, _, rfl, rfl, _, rfl, _, rfl, p, ns, _, _, rfl, rfl, rfl, h57, ⟨by omega, by omega⟩, fun H8 m8 h8 => ?_⟩
      refine ⟨_, _, _, _, _, rfl, k7.md (.inl zp) m8, hd7.md m8 npa.symm, h8, (m8 r npr.symm).trans hr7, by rw [List.length_set, nl], ?_, ?_⟩
      · refine all_set nb ?_
        rw [ea, ha2]
        omega
      · rw [ea]
        refine lacks_set ns at_ ha1 ?_ ?_
        · rw [ha2]
          exact hmn
        · omega
/-! ### drawn prices or values -/
def sp_l_amounts (K : PySem.W.Frag) : Sp := fun vs H Q _ => ∃ (a : Addr) (n : Nat) (c : Nat), vs = [.ref a, .int (c : Int)] ∧ Hand H a n ∧ n ≤ 2 ^ 47 ∧ 1 ≤ c ∧ c ≤ 40 ∧
  ∀ q H' (ms : List Int), Kp [a] H H' → Hand H' a (n + 50) → SqT K H' q (ms.map V.int) → Am ms c → Q (.ref q) H'
theorem ok__law_amounts {f : Addr} {fd : FuncData} {k : Nat} (F : Fun K "_law_amounts" "_law_amounts" s__law_amounts f fd) (m_range : mg "range" = none) (m_tuple : mg "tuple" = none)
    (C_l_take : Cl P w K mg base CX0 1 "_law_take" 2 (sp_l_take K)) (C_l_of : Cl P w K mg base CX0 2 "_law_of" 2 (sp_l_of K)) :
    FnG P w K mg base CX0 (k + 3) f fd ["_law_hand_here", "_law_count"] (sp_l_amounts K) := by
  refine ok0 F sc__law_amounts (fun vs H Q E h => ?_) (fun cdv A outer s H vs Q E gd hr h => ?_)
  · obtain ⟨a, n, c, rfl, _⟩ := h
    rfl
  · obtain ⟨a, n, c, rfl, hd, hn, hc1, hc, q⟩ := h
    refine ⟨_, (pss_cons (ps_set (i := 2) sc__law_amounts.nd rfl (.inr rfl) (pe_cl C_l_take (hr.mono (by omega)) gd pass0 (by rfl) (pa_cons (pv 0) (pa_cons pe_int pa_nil))))
      (pss_cons (ps_if (pt_cmpR op_eq (pv 2) pe_int (nomark _))
      (pss_one (ps_ret (pe_op (op_repTK (K := K) rfl) (pe_ti (pa_cons (pe_cl C_l_of (hr.mono (by omega)) gd pass0 (by rfl) (pa_cons (pv 0) (pa_cons (pe_li (pa_cons pe_int (pa_cons pe_int (pa_cons pe_int (pa_cons (pe_op op_pow pe_int pe_int) pa_nil))))) pa_nil))) pa_nil)) (pv 1))))
      pss_nil)
      (pss_cons (ps_if (pt_cmpR op_eq (pv 2) pe_int (nomark _))
      (pss_one (ps_ret (pe_callTy (call_tupLK (K := K) rfl) (by rfl) m_tuple (by decide +kernel) (pa_cons (pe_lcW (own := [("_law_at", 3)]) (g := (gName 3)) rfl sc__law_amounts.nd (pi_range1 (by rfl) m_range (pa_cons (pv 1) pa_nil)) (blkOk_by (own := [("_law_at", 3)]) (N := ["_law_hand_here", "_law_count", "_law_way", "_law_at"]) (sc := defScope s__law_amounts) (by decide +kernel)) (fun _ _ _ _ _ => (pg_name (i := 3) sc__law_amounts.nd rfl (.inl rfl))) (fun _ _ _ _ _ => pts_nil) (fun _ _ _ _ _ => (pe_cl C_l_of (hr.mono (by omega)) gd pass0 (by rfl) (pa_cons (pv 0) (pa_cons (pe_li (pa_cons pe_int (pa_cons pe_int (pa_cons (pe_op op_pow pe_int pe_int) (pa_cons (pe_op op_sub (pe_op op_pow pe_int pe_int) pe_int) pa_nil))))) pa_nil))))) pa_nil))))
      pss_nil)
      (pss_cons (ps_if (pt_cmpR op_eq (pv 2) pe_int (nomark _))
      (pss_one (ps_ret (pe_callTy (call_tupLK (K := K) rfl) (by rfl) m_tuple (by decide +kernel) (pa_cons (pe_lcW (own := [("_law_at", 3)]) (g := (gName 3)) rfl sc__law_amounts.nd (pi_range1 (by rfl) m_range (pa_cons (pv 1) pa_nil)) (blkOk_by (own := [("_law_at", 3)]) (N := ["_law_hand_here", "_law_count", "_law_way", "_law_at"]) (sc := defScope s__law_amounts) (by decide +kernel)) (fun _ _ _ _ _ => (pg_name (i := 3) sc__law_amounts.nd rfl (.inl rfl))) (fun _ _ _ _ _ => pts_nil) (fun _ _ _ _ _ => (pe_op op_mul (pv 3) (pe_op op_add pe_int (pe_cl C_l_take (hr.mono (by omega)) gd pass0 (by rfl) (pa_cons (pv 0) (pa_cons pe_int pa_nil))))))) pa_nil))))
      pss_nil)
      (pss_one (ps_ret (pe_callTy (call_tupLK (K := K) rfl) (by rfl) m_tuple (by decide +kernel) (pa_cons (pe_lcW (own := [("_law_at", 3)]) (g := (gName 3)) rfl sc__law_amounts.nd (pi_range1 (by rfl) m_range (pa_cons (pv 1) pa_nil)) (blkOk_by (own := [("_law_at", 3)]) (N := ["_law_hand_here", "_law_count", "_law_way", "_law_at"]) (sc := defScope s__law_amounts) (by decide +kernel)) (fun _ _ _ _ _ => (pg_name (i := 3) sc__law_amounts.nd rfl (.inl rfl))) (fun _ _ _ _ _ => pts_nil) (fun _ _ _ _ _ => (pe_cl C_l_take (hr.mono (by omega)) gd pass0 (by rfl) (pa_cons (pv 0) (pa_cons (pe_op op_add pe_int (pe_op op_mul pe_int (pe_op op_sub (pv 2) pe_int))) pa_nil))))) pa_nil)))))))), ?_⟩
    have e12 : (10 : Int) ^ (12 : Int).toNat = 1000000000000 := by decide
    have ec : ((c : Int)).toNat = c := by omega
    refine ⟨_, rfl, a, n, _, rfl, hd, by omega, by decide, by decide, fun way H1 k1 hd1 w0 w1 => ?_⟩
    -- a tuple that grows turn by turn
    have grow : ∀ (D : Addr) (H2 : Hp), H1 D = none → Kp [] H1 H2 → H2 D = some (.lst []) → D ≠ a ∧ H D = none := by
      intro D H2 nD _ _
      have hDa : D ≠ a := fun z => hd1.ne nD z.symm
      exact ⟨hDa, k1.free (fun w => hDa (List.mem_singleton.mp w)) nD⟩
    refine ⟨_, rfl, rfl, _, rfl, ite2 (fun e => ?_) (fun e => ?_)⟩
    · refine ⟨_, rfl, _, _, rfl, rfl, ⟨by decide, by decide, by decide⟩, [_, _, _, _], rfl, Nat.le_of_ble_eq_true rfl, fun b H2 nb k2 h2 => ?_⟩
      have hd2 := hd1.kp0 k2
      refine ⟨a, b, _, _, rfl, hd2, by omega, fun z => hd1.ne nb z.symm, .inl (sqL h2), Nat.le_of_ble_eq_true rfl, Nat.le_of_ble_eq_true rfl, fun v H3 k3 hd3 hv => ?_⟩
      obtain ⟨x, hx, rfl⟩ := List.mem_map.mp hv
      have hx1 : 0 ≤ x ∧ x ≤ 1000000000000 := by
        rw [e12] at hx
        simp at hx
        omega
      refine ⟨[_], rfl, Nat.le_of_ble_eq_true rfl, fun u H4 nu k4 h4 => ?_⟩
      refine ⟨_, rfl, u, [x], _, rfl, rfl, sqT h4, List.cons_ne_nil _ _, by omega, by omega, Nat.le_of_ble_eq_true rfl, fun p H5 k5 h5 => ?_⟩
      rw [ec, flat1] at h5
      refine q p H5 _ (((k1.trans k2.wide).trans k3).trans (k4.wide.trans k5.wide)) (((hd3.kp0 k4).kp0 k5).mono (by omega)) h5 ⟨by simp, fun y hy => ?_⟩
      rw [List.eq_of_mem_replicate hy]
      exact hx1
    refine ⟨_, rfl, rfl, _, rfl, ite2 (fun e1 => ?_) (fun e1 => ?_)⟩
    · refine ⟨_, rfl, _, rfl, by omega, by omega, _, _, _, walk_rg, small1000 (by omega), fun D H2 nD k2 hD => ?_⟩
      obtain ⟨nDa, zD⟩ := grow D H2 nD k2 hD
      refine ⟨fun i acc H3 => ∃ ns : List Int, acc = ns.map V.int ∧ Am ns i ∧ Kp [a] H H3 ∧ Hand H3 a (n + 1 + i), ⟨[], rfl, ⟨rfl, fun x hx => nomatch hx⟩, k1.trans k2.wide, hd1.kp0 k2⟩, fun _ _ _ _ _ => trivial, ?_, ?_⟩
      · rintro i acc x _ H3 hi ⟨ns, ea, en, k3, hd3⟩ hD3 ⟨rfl, rfl⟩
        refine ⟨rfl, yesT ?_⟩
        refine ⟨_, rfl, _, _, rfl, rfl, ⟨by decide, by decide, by decide⟩, _, _, rfl, rfl, ⟨by decide, by decide, by decide⟩, _, _, rfl, rfl, [_, _, _, _], rfl, Nat.le_of_ble_eq_true rfl, fun b H4 nb k4 h4 => ?_⟩
        have hd4 := hd3.kp0 k4
        refine ⟨a, b, _, _, rfl, hd4, by omega, fun z => hd3.ne nb z.symm, .inl (sqL h4), Nat.le_of_ble_eq_true rfl, Nat.le_of_ble_eq_true rfl, fun v H5 k5 hd5 hv => ?_⟩
        obtain ⟨x, hx, rfl⟩ := List.mem_map.mp hv
        have hx1 : 0 ≤ x ∧ x ≤ 1000000000000 := by
          rw [e12] at hx
          simp at hx
          omega
        refine ⟨k5.at1 nDa (k4.at0 hD3), fun H6 m6 h6 => ?_⟩
        refine ⟨ns ++ [x], by rw [List.map_append, ea]; rfl, ⟨by rw [List.length_append, en.1]; rfl, fun y hy => ?_⟩, (k3.trans (k4.wide.trans k5)).md (.inl zD) m6, (hd5.md m6 nDa.symm).mono (by omega)⟩
        rcases List.mem_append.mp hy with z | z
        · exact en.2 y z
        · rw [List.mem_singleton.mp z]
          exact hx1
      · rintro acc H3 _ hD3 ⟨ns, ea, en, k3, hd3⟩
        subst ea
        rw [ec] at en hd3
        refine ⟨D, _, rfl, sqL hD3, fun t H4 nt k4 h4 => ?_⟩
        exact q t H4 ns (k3.trans k4.wide) ((hd3.kp0 k4).mono (by omega)) (sqT h4) en
    refine ⟨_, rfl, rfl, _, rfl, ite2 (fun e2 => ?_) (fun e2 => ?_)⟩
    · refine ⟨_, rfl, _, rfl, by omega, by omega, _, _, _, walk_rg, small1000 (by omega), fun D H2 nD k2 hD => ?_⟩
      obtain ⟨nDa, zD⟩ := grow D H2 nD k2 hD
      refine ⟨fun i acc H3 => ∃ ns : List Int, acc = ns.map V.int ∧ Am ns i ∧ Kp [a] H H3 ∧ Hand H3 a (n + 1 + i), ⟨[], rfl, ⟨rfl, fun x hx => nomatch hx⟩, k1.trans k2.wide, hd1.kp0 k2⟩, fun _ _ _ _ _ => trivial, ?_, ?_⟩
      · rintro i acc x _ H3 hi ⟨ns, ea, en, k3, hd3⟩ hD3 ⟨rfl, rfl⟩
        refine ⟨rfl, yesT ?_⟩
        refine ⟨_, rfl, _, rfl, a, _, _, rfl, hd3, by omega, by decide, by decide, fun d H5 k5 hd5 d0 d1 => ?_⟩
        refine ⟨_, _, rfl, rfl, _, _, rfl, rfl, .inl ⟨by omega, by omega⟩, k5.at1 nDa hD3, fun H6 m6 h6 => ?_⟩
        refine ⟨ns ++ [_], by rw [List.map_append, ea]; rfl, ⟨by rw [List.length_append, en.1]; rfl, fun y hy => ?_⟩, (k3.trans k5).md (.inl zD) m6, (hd5.md m6 nDa.symm).mono (by omega)⟩
        rcases List.mem_append.mp hy with z | z
        · exact en.2 y z
        · rw [List.mem_singleton.mp z]
          have h1 : 0 ≤ (0 + (i : Int)) * (1 + d) := Int.mul_nonneg (by omega) (by omega)
          have h2 : (0 + (i : Int)) * (1 + d) ≤ 40 * 10 := Int.mul_le_mul (by omega) (by omega) (by omega) (by omega)
          omega
      · rintro acc H3 _ hD3 ⟨ns, ea, en, k3, hd3⟩
        subst ea
        rw [ec] at en hd3
        refine ⟨D, _, rfl, sqL hD3, fun t H4 nt k4 h4 => ?_⟩
        exact q t H4 ns (k3.trans k4.wide) ((hd3.kp0 k4).mono (by omega)) (sqT h4) en
    · have e0 : ¬ way = 0 := fun z => e (decide_eq_true (by rw [z]))
      have e1 : ¬ way = 1 := fun z => e1 (decide_eq_true (by rw [z]))
      have e2 : ¬ way = 2 := fun z => e2 (decide_eq_true (by rw [z]))
      refine ⟨_, rfl, _, rfl, by omega, by omega, _, _, _, walk_rg, small1000 (by omega), fun D H2 nD k2 hD => ?_⟩
      obtain ⟨nDa, zD⟩ := grow D H2 nD k2 hD
      refine ⟨fun i acc H3 => ∃ ns : List Int, acc = ns.map V.int ∧ Am ns i ∧ Kp [a] H H3 ∧ Hand H3 a (n + 1 + i), ⟨[], rfl, ⟨rfl, fun x hx => nomatch hx⟩, k1.trans k2.wide, hd1.kp0 k2⟩, fun _ _ _ _ _ => trivial, ?_, ?_⟩
      · rintro i acc x _ H3 hi ⟨ns, ea, en, k3, hd3⟩ hD3 ⟨rfl, rfl⟩
        refine ⟨rfl, yesT ?_⟩
        refine ⟨_, rfl, _, rfl, _, _, rfl, rfl, _, _, rfl, rfl, .inl ⟨by decide, by decide⟩, _, _, rfl, rfl, a, _, _, rfl, hd3, by omega, by omega, by omega, fun d H5 k5 hd5 d0 d1 => ?_⟩
        refine ⟨k5.at1 nDa hD3, fun H6 m6 h6 => ?_⟩
        refine ⟨ns ++ [_], by rw [List.map_append, ea]; rfl, ⟨by rw [List.length_append, en.1]; rfl, fun y hy => ?_⟩, (k3.trans k5).md (.inl zD) m6, (hd5.md m6 nDa.symm).mono (by omega)⟩
        rcases List.mem_append.mp hy with z | z
        · exact en.2 y z
        · rw [List.mem_singleton.mp z]
          omega
      · rintro acc H3 _ hD3 ⟨ns, ea, en, k3, hd3⟩
        subst ea
        rw [ec] at en hd3
        refine ⟨D, _, rfl, sqL hD3, fun t H4 nt k4 h4 => ?_⟩
        exact q t H4 ns (k3.trans k4.wide) ((hd3.kp0 k4).mono (by omega)) (sqT h4) en
theorem Hand.kt {T : List (Addr × Str)} {H H' : Hp} {a : Addr} {n : Nat} (h : Hand H a n) (k : Kt T H H') : Hand H' a n := by
  obtain ⟨x, y, z, e, r⟩ := h
  exact ⟨x, y, z, k.atL e, r⟩
theorem Kt.hand {T : List (Addr × Str)} {H H1 H2 : Hp} {a : Addr} {n : Nat} (k : Kt T H H1) (z : Nt H a) (h : Hand H1 a n) (m : Kp [a] H1 H2) : Kt T H H2 := by
  obtain ⟨x, y, c, e, r⟩ := h
  exact k.own z e m
theorem getD_set_ne {ns : List Int} {i j : Nat} {v : Int} (h : i ≠ j) : (ns.set i v).getD j 0 = ns.getD j 0 := by
  rw [List.getD_eq_getElem?_getD, List.getElem?_set_ne h, ← List.getD_eq_getElem?_getD]
theorem getD_set_eq {ns : List Int} {i : Nat} {v : Int} (h : i < ns.length) : (ns.set i v).getD i 0 = v := by
  rw [List.getD_eq_getElem?_getD, List.getElem?_set_self h]
  rfl
/-! ### where no balance can be lowered the total is the last threshold -/
theorem sum_le_len {x : Int} : ∀ (l : List Int), (∀ y ∈ l, y ≤ x) → l.sum ≤ x * (l.length : Int)
  | [], _ => by simp
  | y :: l, h => by
    have h1 := sum_le_len l fun z hz => h z (List.mem_cons_of_mem _ hz)
    have h2 := h y List.mem_cons_self
    rw [List.sum_cons, List.length_cons, Int.natCast_add, Int.mul_add]
    omega
theorem R_far {g : Int} (hg : 1 ≤ g) (k : Nat) : ∀ d : Nat, R g (k + 1) + (R g (k + 1) - R g k) * (d : Int) ≤ R g (k + 1 + d)
  | 0 => by simp
  | d + 1 => by
    have h1 := R_far hg k d
    have h2 := R_mono hg k (k + 1 + d) (by omega)
    rw [show k + 1 + (d + 1) = k + 1 + d + 1 by omega, Int.natCast_add, Int.mul_add]
    omega
theorem mul_le_len {a b : Int} (h : a ≤ b) (n : Nat) : a * (n : Int) ≤ b * (n : Int) := Int.mul_le_mul_of_nonneg_right h (Int.natCast_nonneg n)
theorem tight_max {g b : Int} (hg : 1 ≤ g) {os : List Int} (hb : ∀ x ∈ os, x ≤ b) (e : gapOf g (b :: os) = none) (h : ∃ k, k ≤ os.length ∧ R g (k + 1) = SS os k + b) : (b :: os).sum = R g (os.length + 1) := by
  obtain ⟨k, hk, ek⟩ := h
  have eo := (safe_cons.mp e).1
  have htot := (safe_cons.mp e).2 os.length (Nat.le_refl _)
  rw [SS_all] at htot
  have hRk : R g k ≤ SS os k := by
    by_cases h0 : k = 0
    · subst h0
      exact Int.le_refl _
    · exact gap_none.mp eo k (by omega) hk
  have hsum : os.sum ≤ SS os k + b * ((os.length - k : Nat) : Int) := by
    have h1 : os.sum = (srt os).sum := perm_sum (srt_perm os).symm
    have h2 : (srt os).sum = ((srt os).take k).sum + ((srt os).drop k).sum := by
      rw [← List.sum_append, List.take_append_drop]
    have h3 := sum_le_len (x := b) ((srt os).drop k) fun y hy => hb y ((srt_perm os).mem_iff.mp (List.mem_of_mem_drop hy))
    rw [List.length_drop, srt_len] at h3
    show os.sum ≤ ((srt os).take k).sum + _
    omega
  have hfar := R_far hg k (os.length - k)
  rw [show k + 1 + (os.length - k) = os.length + 1 by omega] at hfar
  have hmul := mul_le_len (show b ≤ R g (k + 1) - R g k by omega) (os.length - k)
  rw [List.sum_cons]
  omega
theorem max_at : ∀ ns : List Int, ns ≠ [] → ∃ i, i < ns.length ∧ ∀ x ∈ ns, x ≤ ns.getD i 0
  | [x], _ => ⟨0, by simp, fun y hy => by rw [List.mem_singleton.mp hy]; exact Int.le_refl _⟩
  | x :: y :: l, _ => by
    obtain ⟨i, hi, h⟩ := max_at (y :: l) (List.cons_ne_nil _ _)
    by_cases c : (y :: l).getD i 0 ≤ x
    · refine ⟨0, by simp, fun z hz => ?_⟩
      rcases List.mem_cons.mp hz with w | w
      · rw [w]
        exact Int.le_refl _
      · exact Int.le_trans (h z w) c
    · refine ⟨i + 1, by simpa using hi, fun z hz => ?_⟩
      show z ≤ (y :: l).getD i 0
      rcases List.mem_cons.mp hz with w | w
      · omega
      · exact h z w
theorem IsLB.exists (g : Int) (ns : List Int) : ∃ m, IsLB g ns m := by
  have go : ∀ n : Nat, ∃ m : Int, (∀ k, k ≤ n → R g (k + 1) ≤ SS ns k + m) ∧ ∃ k, k ≤ n ∧ R g (k + 1) = SS ns k + m := by
    intro n
    induction n with
    | zero =>
      refine ⟨R g (0 + 1) - SS ns 0, fun k hk => ?_, 0, Nat.le_refl _, by omega⟩
      have : k = 0 := by omega
      subst this
      omega
    | succ n ih =>
      obtain ⟨m, h1, k, hk, ek⟩ := ih
      by_cases c : R g (n + 1 + 1) ≤ SS ns (n + 1) + m
      · refine ⟨m, fun j hj => ?_, k, by omega, ek⟩
        by_cases z : j = n + 1
        · subst z
          exact c
        · exact h1 j (by omega)
      · refine ⟨R g (n + 1 + 1) - SS ns (n + 1), fun j hj => ?_, n + 1, Nat.le_refl _, by omega⟩
        by_cases z : j = n + 1
        · subst z
          omega
        · have := h1 j (by omega)
          omega
  exact go ns.length
/-- all tight: the total is the last threshold -/
theorem tight_total {g : Int} (hg : 1 ≤ g) {ns : List Int} (h1 : 1 ≤ ns.length) (e : gapOf g ns = none) (h : ∀ i, i < ns.length → IsLB g (ns.eraseIdx i) (ns.getD i 0)) : ns.sum = R g ns.length := by
  obtain ⟨i, hi, hm⟩ := max_at ns (fun z => by rw [z] at h1; simp at h1)
  have p := idx_perm ns i hi
  have hl : (ns.eraseIdx i).length + 1 = ns.length := by rw [List.length_eraseIdx, if_pos hi]; omega
  rw [gap_congr p] at e
  have := tight_max hg (fun x hx => hm x (List.mem_of_mem_eraseIdx hx)) e (h i hi).2
  rw [perm_sum p, this, hl]
theorem IsLB.anti {g m m' : Int} {os os' : List Int} (h : IsLB g os m) (h' : IsLB g os' m') (hp : Pw os' os) : m ≤ m' := by
  obtain ⟨k, hk, ek⟩ := h.2
  have hl := hp.length
  have h1 := SS_mono hp k (by omega)
  have h2 := h'.1 k (by omega)
  omega
theorem Pw.erase : ∀ {a b : List Int} (i : Nat), Pw a b → Pw (a.eraseIdx i) (b.eraseIdx i)
  | _, _, _, .nil => .nil
  | _, _, 0, .cons _ r => r
  | _, _, i + 1, .cons e r => .cons e (Pw.erase i r)
theorem Pw.set {v : Int} : ∀ (ns : List Int) (i : Nat), v ≤ ns.getD i 0 → Pw (ns.set i v) ns
  | [], _, _ => .nil
  | _ :: r, 0, h => .cons h (Pw.refl r)
  | _ :: r, i + 1, h => .cons (Int.le_refl _) (Pw.set r i h)
theorem erase_set (ns : List Int) (i : Nat) (v : Int) : (ns.set i v).eraseIdx i = ns.eraseIdx i := by
  induction ns generalizing i with
  | nil => rfl
  | cons x r ih =>
    cases i with
    | zero => rfl
    | succ i => exact congrArg (x :: ·) (ih i)
/-- lowering another balance leaves a tight one tight -/
theorem tight_stay {g v : Int} {ns : List Int} {i j : Nat} (hi : i < ns.length) (hij : j ≠ i) (hv : v ≤ ns.getD j 0) (e : gapOf g (ns.set j v) = none) (h : IsLB g (ns.eraseIdx i) (ns.getD i 0)) : IsLB g ((ns.set j v).eraseIdx i) ((ns.set j v).getD i 0) := by
  obtain ⟨m, hm⟩ := IsLB.exists g ((ns.set j v).eraseIdx i)
  have h1 := h.anti hm ((Pw.set ns j hv).erase i)
  have hi' : i < (ns.set j v).length := by rw [List.length_set]; exact hi
  have e2 := e
  rw [gap_congr (idx_perm _ i hi')] at e2
  have h2 := (hm.safe (safe_erase hi' e)).mp e2
  have h3 : (ns.set j v).getD i 0 = ns.getD i 0 := getD_set_ne hij
  rw [h3] at h2 ⊢
  rw [show ns.getD i 0 = m by omega]
  exact hm
/-! ### the least total: a tight segment holds every tight balance -/
theorem SS_sub {a b : List Int} {x : Int} (p : a.Perm (x :: b)) (k : Nat) (hk : k ≤ b.length) : SS a k ≤ SS b k := by
  obtain ⟨l, l', q, e, s⟩ := SS_is b k hk
  have h : (l ++ (x :: l')).Perm a := (List.perm_middle.trans (q.cons x)).trans p.symm
  have := SS_min h
  rw [e] at this
  omega
theorem SS_step {tk : List Int} {k : Nat} (hk : k < tk.length) : SS tk (k + 1) = SS tk k + (srt tk).getD k 0 := take_sum_succ (srt tk) k (by rw [srt_len]; exact hk)
theorem seg_ext {g b : Int} (hg : 1 ≤ g) {tk : List Int} (e : gapOf g tk = none) {k : Nat} (hb : b ≤ R g (k + 1) - R g k) : ∀ (d m : Nat), m + d = tk.length → k + 1 ≤ m → SS tk m = R g m → (∀ y ∈ (srt tk).drop m, b ≤ y) →
    ∃ m', m' ≤ tk.length ∧ SS tk m' = R g m' ∧ ∀ y ∈ (srt tk).drop m', b < y
  | 0, m, h, _, hS, _ => ⟨m, by omega, hS, fun y hy => by
      rw [List.drop_eq_nil_of_le (by rw [srt_len]; omega)] at hy
      exact nomatch hy⟩
  | d + 1, m, h, hk, hS, hy => by
    have hm : m < (srt tk).length := by rw [srt_len]; omega
    have hdr : (srt tk).drop m = (srt tk).getD m 0 :: (srt tk).drop (m + 1) := by
      rw [List.drop_eq_getElem_cons hm, List.getD_eq_getElem?_getD, List.getElem?_eq_getElem hm]
      rfl
    rw [hdr] at hy
    have hy0 := hy _ List.mem_cons_self
    by_cases c : b < (srt tk).getD m 0
    · refine ⟨m, by omega, hS, fun y hy2 => ?_⟩
      rw [hdr] at hy2
      have hs : ((srt tk).drop m).Pairwise (· ≤ ·) := (srt_sorted tk).sublist (List.drop_sublist _ _)
      rw [hdr, List.pairwise_cons] at hs
      rcases List.mem_cons.mp hy2 with z | z
      · rw [z]
        exact c
      · have := hs.1 y z
        omega
    · have hst := SS_step (tk := tk) (k := m) (by omega)
      have hsafe := gap_none.mp e (m + 1) (by omega) (by omega)
      have hmono := R_mono hg k m (by omega)
      exact seg_ext hg e hb d (m + 1) (by omega) (by omega) (by omega) fun y hy2 => hy y (List.mem_cons_of_mem _ hy2)
theorem seg_tight {g : Int} (hg : 1 ≤ g) {tk : List Int} (e : gapOf g tk = none) {a : Nat} (ha : a < tk.length) (ht : IsLB g (tk.eraseIdx a) (tk.getD a 0)) :
    ∃ m, m ≤ tk.length ∧ SS tk m = R g m ∧ ∀ y ∈ (srt tk).drop m, tk.getD a 0 < y := by
  have p := idx_perm tk a ha
  have hl : (tk.eraseIdx a).length + 1 = tk.length := by rw [List.length_eraseIdx, if_pos ha]; omega
  have eo := safe_erase ha e
  generalize tk.getD a 0 = b at ht p ⊢
  generalize tk.eraseIdx a = os at ht p hl eo
  obtain ⟨k, hk, ek⟩ := ht.2
  have hS1 : SS tk (k + 1) = R g (k + 1) := by
    have h1 := gap_none.mp e (k + 1) (by omega) (by omega)
    obtain ⟨l, l', q, el, s⟩ := SS_is os k hk
    have h2 : ((b :: l) ++ l').Perm tk := (q.cons b).trans p.symm
    have h3 := SS_min h2
    rw [List.length_cons, el, List.sum_cons, s] at h3
    omega
  have hRk : R g k ≤ SS os k := by
    by_cases h0 : k = 0
    · subst h0
      exact Int.le_refl _
    · exact gap_none.mp eo k (by omega) hk
  have hst := SS_step (tk := tk) (k := k) (by omega)
  have hsub := SS_sub p k hk
  refine seg_ext hg e (k := k) (by omega) (tk.length - (k + 1)) (k + 1) (by omega) (Nat.le_refl _) hS1 fun y hy => ?_
  have hkl : k < (srt tk).length := by rw [srt_len]; omega
  have hs : ((srt tk).drop k).Pairwise (· ≤ ·) := (srt_sorted tk).sublist (List.drop_sublist _ _)
  rw [List.drop_eq_getElem_cons hkl, List.pairwise_cons] at hs
  have h1 := hs.1 y hy
  rw [List.getD_eq_getElem?_getD, List.getElem?_eq_getElem hkl] at hst
  have hst : SS tk (k + 1) = SS tk k + (srt tk)[k] := hst
  omega
theorem max_by (P : Nat → Prop) (f : Nat → Int) : ∀ n, (∃ a, a < n ∧ P a) → ∃ a, a < n ∧ P a ∧ ∀ b, b < n → P b → f b ≤ f a
  | 0, ⟨a, h, _⟩ => absurd h (Nat.not_lt_zero _)
  | n + 1, ⟨a, h, hp⟩ => by
    by_cases hex : ∃ a, a < n ∧ P a
    · obtain ⟨c, hc, pc, hm⟩ := max_by P f n hex
      by_cases hn : P n ∧ f c < f n
      · refine ⟨n, by omega, hn.1, fun b hb pb => ?_⟩
        by_cases z : b = n
        · rw [z]
          exact Int.le_refl _
        · have := hm b (by omega) pb
          omega
      · refine ⟨c, by omega, pc, fun b hb pb => ?_⟩
        by_cases z : b = n
        · subst z
          have : ¬ f c < f b := fun w => hn ⟨pb, w⟩
          omega
        · exact hm b (by omega) pb
    · have : a = n := by
        by_cases z : a = n
        · exact z
        · exact absurd ⟨a, by omega, hp⟩ hex
      subst this
      refine ⟨a, by omega, hp, fun b hb pb => ?_⟩
      by_cases z : b = a
      · rw [z]
        exact Int.le_refl _
      · exact absurd ⟨b, by omega, pb⟩ hex
theorem pairs_le : ∀ (l : List (Int × Int)), (∀ q ∈ l, q.1 ≤ q.2) → (l.map Prod.fst).sum ≤ (l.map Prod.snd).sum
  | [], _ => by simp
  | q :: l, h => by
    have h1 := pairs_le l fun z hz => h z (List.mem_cons_of_mem _ hz)
    have h2 := h q List.mem_cons_self
    rw [List.map_cons, List.map_cons, List.sum_cons, List.sum_cons]
    omega
theorem mem_zip_at {tk xk : List Int} {q : Int × Int} (h : q ∈ tk.zip xk) : ∃ a, a < tk.length ∧ q.1 = tk.getD a 0 ∧ q.2 = xk.getD a 0 := by
  obtain ⟨a, ha, e⟩ := List.getElem_of_mem h
  rw [List.length_zip] at ha
  rw [List.getElem_zip] at e
  subst e
  refine ⟨a, by omega, ?_, ?_⟩
  · rw [List.getD_eq_getElem?_getD, List.getElem?_eq_getElem (by omega)]
    rfl
  · rw [List.getD_eq_getElem?_getD, List.getElem?_eq_getElem (by omega)]
    rfl
theorem greedy_min {g : Int} (hg : 1 ≤ g) {tk xk : List Int} (hl : tk.length = xk.length) (e : gapOf g tk = none) (ex : gapOf g xk = none) (h : ∀ a, a < tk.length → tk.getD a 0 ≤ xk.getD a 0 ∨ IsLB g (tk.eraseIdx a) (tk.getD a 0)) : tk.sum ≤ xk.sum := by
  have hf : (tk.zip xk).map Prod.fst = tk := List.map_fst_zip (by omega)
  have hs : (tk.zip xk).map Prod.snd = xk := List.map_snd_zip (by omega)
  by_cases hex : ∃ a, a < tk.length ∧ IsLB g (tk.eraseIdx a) (tk.getD a 0)
  · obtain ⟨a, ha, hta, hmax⟩ := max_by (fun a => IsLB g (tk.eraseIdx a) (tk.getD a 0)) (fun a => tk.getD a 0) tk.length hex
    obtain ⟨m, hm, hSm, hdr⟩ := seg_tight hg e ha hta
    let L := (tk.zip xk).mergeSort (fun p q => decide (p.1 ≤ q.1))
    have hp : L.Perm (tk.zip xk) := List.mergeSort_perm _ _
    have hsrt : (L.map Prod.fst) = srt tk := by
      refine srt_eq ?_ ?_
      · have := hp.map Prod.fst
        rwa [hf] at this
      · rw [List.pairwise_map]
        have := List.pairwise_mergeSort (le := fun p q : Int × Int => decide (p.1 ≤ q.1)) (fun p q r h1 h2 => by simp at *; omega) (fun p q => by simp; omega) (tk.zip xk)
        exact this.imp fun h => by simpa using h
    have hsn : (L.map Prod.snd).Perm xk := by
      have := hp.map Prod.snd
      rwa [hs] at this
    have hLl : L.length = tk.length := by rw [← srt_len tk, ← hsrt, List.length_map]
    have h1 : R g m ≤ ((L.take m).map Prod.snd).sum := by
      by_cases h0 : m = 0
      · subst h0
        exact Int.le_refl _
      · have q : ((L.take m).map Prod.snd ++ (L.drop m).map Prod.snd).Perm xk := by
          rw [← List.map_append, List.take_append_drop]
          exact hsn
        have h2 := SS_min q
        rw [List.length_map, List.length_take, hLl, Nat.min_eq_left hm] at h2
        have h3 := gap_none.mp ex m (by omega) (by omega)
        omega
    have h2 : ((L.take m).map Prod.fst).sum = R g m := by
      rw [List.map_take, hsrt]
      exact hSm
    have h3 := pairs_le (L.drop m) fun q hq => by
      have hq1 : q.1 ∈ (srt tk).drop m := by
        rw [← hsrt, ← List.map_drop]
        exact List.mem_map.mpr ⟨q, hq, rfl⟩
      have h4 := hdr _ hq1
      obtain ⟨c, hc, e1, e2⟩ := mem_zip_at (hp.mem_iff.mp (List.mem_of_mem_drop hq))
      rcases h c hc with z | z
      · omega
      · have := hmax c hc z
        omega
    have h5 : tk.sum = ((L.take m).map Prod.fst).sum + ((L.drop m).map Prod.fst).sum := by
      rw [← List.sum_append, ← List.map_append, List.take_append_drop, hsrt]
      exact perm_sum (srt_perm tk).symm
    have h6 : xk.sum = ((L.take m).map Prod.snd).sum + ((L.drop m).map Prod.snd).sum := by
      rw [← List.sum_append, ← List.map_append, List.take_append_drop]
      exact perm_sum hsn.symm
    omega
  · have := pairs_le (tk.zip xk) fun q hq => by
      obtain ⟨c, hc, e1, e2⟩ := mem_zip_at hq
      rcases h c hc with z | z
      · omega
      · exact absurd ⟨c, hc, z⟩ hex
    rwa [hf, hs] at this
theorem Rz.inv {g x : Int} {ns is tk cur fs : List Int} (h : Rz g ns (x :: is) tk cur fs) : ∃ (i : Nat) (v : Int), x = (i : Int) ∧ i < ns.length ∧ IsLB g tk v ∧ Rz g ns is (tk ++ [mx (ns.getD i 0) v]) (cur.set i (mx (ns.getD i 0) v)) fs := by
  cases h with
  | cons h1 h2 h3 => exact ⟨_, _, rfl, h1, h2, h3⟩
theorem Rz.len {g : Int} {ns is tk cur fs : List Int} (h : Rz g ns is tk cur fs) : fs.length = cur.length := by
  induction h with
  | nil => rfl
  | cons _ _ _ ih => rw [ih, List.length_set]
theorem Rz.keep {g : Int} {ns is tk cur fs : List Int} (h : Rz g ns is tk cur fs) (j : Nat) (hj : (j : Int) ∉ is) : fs.getD j 0 = cur.getD j 0 := by
  induction h with
  | nil => rfl
  | @cons i is tk cur fs v h1 h2 h3 ih =>
    rw [ih (fun z => hj (List.mem_cons_of_mem _ z)), getD_set_ne]
    intro z
    subst z
    exact hj List.mem_cons_self
theorem snoc_perm (tk : List Int) (x : Int) : (tk ++ [x]).Perm (x :: tk) := List.perm_append_comm
theorem upto_self (fs : List Int) : (upto fs.length).map (fun i => fs.getD i.toNat 0) = fs := by
  unfold upto
  rw [List.map_map]
  refine List.ext_getElem (by simp) fun i h1 h2 => ?_
  simp [List.getElem?_eq_getElem h2]
/-! ### raised: safe, within the last step, and nothing cheaper -/
theorem safe_app' {g : Int} : ∀ (b a : List Int), gapOf g (a ++ b) = none → gapOf g a = none
  | [], a, h => by rwa [List.append_nil] at h
  | x :: b, a, h => by
    rw [gap_congr (List.perm_middle (a := x) (l₁ := a) (l₂ := b))] at h
    exact safe_app' b a (safe_cons.mp h).1
theorem getD_app {a b : List Int} {i : Nat} (h : i < a.length) : (a ++ b).getD i 0 = a.getD i 0 := by
  rw [List.getD_eq_getElem?_getD, List.getElem?_append_left h, ← List.getD_eq_getElem?_getD]
theorem IsLB.grow {g b u : Int} {os : List Int} (h : IsLB g os b) (e : gapOf g (b :: u :: os) = none) : IsLB g (u :: os) b := by
  have hs := (safe_cons.mp e).2
  obtain ⟨k, hk, ek⟩ := h.2
  have hk2 : k ≤ (u :: os).length := by rw [List.length_cons]; omega
  refine ⟨hs, k, hk2, ?_⟩
  have h1 := hs k hk2
  have h2 := SS_sub (List.Perm.refl (u :: os)) k hk
  omega
theorem tight_snoc {g u : Int} {tk : List Int} {a : Nat} (ha : a < tk.length) (e : gapOf g (tk ++ [u]) = none) (h : IsLB g (tk.eraseIdx a) (tk.getD a 0)) : IsLB g ((tk ++ [u]).eraseIdx a) ((tk ++ [u]).getD a 0) := by
  have e1 : (tk ++ [u]).eraseIdx a = tk.eraseIdx a ++ [u] := List.eraseIdx_append_of_lt_length ha _
  have e2 : (tk ++ [u]).getD a 0 = tk.getD a 0 := by rw [List.getD_eq_getElem?_getD, List.getElem?_append_left ha, ← List.getD_eq_getElem?_getD]
  rw [e1, e2]
  refine (IsLB.grow (u := u) h ?_).congr (snoc_perm _ _).symm
  rw [gap_congr (snoc_perm tk u), gap_congr ((idx_perm tk a ha).cons u)] at e
  rw [gap_congr (List.Perm.swap _ _ _)]
  exact e
theorem Rz.at {g : Int} {ns is tk cur fs : List Int} {i : Nat} {v : Int} (hc : cur.length = ns.length) (hi : i < ns.length) (hn : (i : Int) ∉ is) (h : Rz g ns is (tk ++ [v]) (cur.set i v) fs) : fs.getD i 0 = v := by
  rw [h.keep i hn, getD_set_eq (by omega)]
theorem Rz.taken {g : Int} {ns is tk cur fs : List Int} (h : Rz g ns is tk cur fs) (hc : cur.length = ns.length) (hd : is.Pairwise (· ≠ ·)) (e : gapOf g tk = none) : gapOf g (tk ++ is.map fun i => fs.getD i.toNat 0) = none := by
  induction h with
  | nil => rwa [List.map_nil, List.append_nil]
  | @cons i is tk cur fs v h1 h2 h3 ih =>
    rw [List.pairwise_cons] at hd
    have hn : (i : Int) ∉ is := fun z => hd.1 _ z rfl
    have hm := mx_ge (ns.getD i 0) v
    have e2 : gapOf g (tk ++ [mx (ns.getD i 0) v]) = none := by
      rw [gap_congr (snoc_perm tk _)]
      exact (h2.safe e).mpr hm.2.1
    have := ih (by rw [List.length_set]; exact hc) hd.2 e2
    rw [List.append_assoc] at this
    rw [List.map_cons, Int.toNat_natCast, Rz.at hc h1 hn h3]
    exact this
theorem Rz.le {g : Int} (hg : 1 ≤ g) {ns is tk cur fs : List Int} (h : Rz g ns is tk cur fs) (hc : cur.length = ns.length) (e : gapOf g tk = none) (hl : tk.length + is.length ≤ ns.length) (hb : ∀ j, j < ns.length → ns.getD j 0 ≤ cur.getD j 0 ∧ cur.getD j 0 ≤ mx (ns.getD j 0) (R g ns.length - R g (ns.length - 1))) :
    ∀ j, j < ns.length → ns.getD j 0 ≤ fs.getD j 0 ∧ fs.getD j 0 ≤ mx (ns.getD j 0) (R g ns.length - R g (ns.length - 1)) := by
  induction h with
  | nil => exact hb
  | @cons i is tk cur fs v h1 h2 h3 ih =>
    rw [List.length_cons] at hl
    have hm := mx_ge (ns.getD i 0) v
    have hm2 := mx_ge (ns.getD i 0) (R g ns.length - R g (ns.length - 1))
    have hv : v ≤ R g ns.length - R g (ns.length - 1) := by
      obtain ⟨k, hk, ek⟩ := h2.2
      have hRk : R g k ≤ SS tk k := by
        by_cases h0 : k = 0
        · subst h0
          exact Int.le_refl _
        · exact gap_none.mp e k (by omega) hk
      have := R_mono hg k (ns.length - 1) (by omega)
      rw [show ns.length - 1 + 1 = ns.length by omega] at this
      omega
    refine ih (by rw [List.length_set]; exact hc) ?_ (by rw [List.length_append, List.length_singleton]; omega) fun j hj => ?_
    · rw [gap_congr (snoc_perm tk _)]
      exact (h2.safe e).mpr hm.2.1
    · by_cases c : i = j
      · subst c
        rw [getD_set_eq (by omega)]
        omega
      · rw [getD_set_ne c]
        exact hb j hj
theorem Rz.opt {g : Int} (hg : 1 ≤ g) {ns ws x : List Int} (hw : ∀ i : Nat, 0 ≤ ws.getD i 0) (ex : gapOf g x = none) (hge : ∀ i, i < ns.length → ns.getD i 0 ≤ x.getD i 0) {is tk cur fs : List Int} (h : Rz g ns is tk cur fs) :
    ∀ (xk : List Int) (p0 : Int), cur.length = ns.length → tk.length = xk.length → gapOf g tk = none → (xk ++ is.map fun i => x.getD i.toNat 0).Perm x → (∀ a, a < tk.length → tk.getD a 0 ≤ xk.getD a 0 ∨ IsLB g (tk.eraseIdx a) (tk.getD a 0)) → is.Pairwise (· ≠ ·) → is.Pairwise (KLe (byPr ws)) → 0 ≤ p0 → (∀ i ∈ is, ws.getD i.toNat 0 ≤ p0) →
      0 ≤ p0 * (xk.sum - tk.sum) + (is.map fun i => ws.getD i.toNat 0 * (x.getD i.toNat 0 - fs.getD i.toNat 0)).sum := by
  induction h with
  | nil =>
    intro xk p0 hc hl e hp ht _ _ h0 _
    rw [List.map_nil, List.append_nil] at hp
    have := greedy_min hg hl e (by rw [gap_congr hp]; exact ex) ht
    rw [List.map_nil, List.sum_nil, Int.add_zero]
    exact Int.mul_nonneg h0 (by omega)
  | @cons i is tk cur fs v h1 h2 h3 ih =>
    intro xk p0 hc hl e hp ht hd hs h0 hle
    have exk : gapOf g xk = none := by
      rw [← gap_congr hp] at ex
      exact safe_app' _ _ ex
    have hS := greedy_min hg hl e exk ht
    rw [List.pairwise_cons] at hd hs
    have hn : (i : Int) ∉ is := fun z => hd.1 _ z rfl
    have hm := mx_ge (ns.getD i 0) v
    have fv := Rz.at hc h1 hn h3
    have hle0 := hle _ List.mem_cons_self
    rw [Int.toNat_natCast] at hle0
    have hgi := hge i h1
    generalize mx (ns.getD i 0) v = u at hm h3 ih fv
    have e2 : gapOf g (tk ++ [u]) = none := by
      rw [gap_congr (snoc_perm tk _)]
      exact (h2.safe e).mpr hm.2.1
    have hi := ih (xk ++ [x.getD i 0]) (ws.getD i 0) (by rw [List.length_set]; exact hc) (by rw [List.length_append, List.length_append, hl]; rfl) e2 (by
        rw [List.append_assoc]
        rw [List.map_cons, Int.toNat_natCast] at hp
        exact hp) (fun a ha => by
        rw [List.length_append, List.length_singleton] at ha
        by_cases c : a < tk.length
        · rcases ht a c with z | z
          · refine .inl ?_
            rw [getD_app c, getD_app (by omega)]
            exact z
          · exact .inr (tight_snoc c e2 z)
        · have ea : a = tk.length := by omega
          subst ea
          have g1 : (tk ++ [u]).getD tk.length 0 = u := by
            rw [List.getD_eq_getElem?_getD, List.getElem?_append_right (Nat.le_refl _), Nat.sub_self]
            rfl
          have g2 : (xk ++ [x.getD i 0]).getD tk.length 0 = x.getD i 0 := by
            rw [hl, List.getD_eq_getElem?_getD, List.getElem?_append_right (Nat.le_refl _), Nat.sub_self]
            rfl
          rw [g1, g2]
          rcases hm.2.2 with z | z
          · exact .inl (by omega)
          · refine .inr ?_
            rw [List.eraseIdx_append_of_length_le (Nat.le_refl _), Nat.sub_self, z]
            show IsLB g (tk ++ []) v
            rw [List.append_nil]
            exact h2) hd.2 hs.2 (hw i) (fun j hj => by
        have := hs.1 j hj
        unfold KLe byPr at this
        simp only [Int.toNat_natCast] at this
        omega)
    rw [List.sum_append, List.sum_append, List.sum_singleton, List.sum_singleton] at hi
    rw [List.map_cons, List.sum_cons, Int.toNat_natCast, fv]
    have hmul : ws.getD i 0 * (xk.sum - tk.sum) ≤ p0 * (xk.sum - tk.sum) := Int.mul_le_mul_of_nonneg_right hle0 (by omega)
    have hexp : ws.getD i 0 * (xk.sum + x.getD i 0 - (tk.sum + u)) = ws.getD i 0 * (xk.sum - tk.sum) + ws.getD i 0 * (x.getD i 0 - u) := by
      rw [← Int.mul_add]
      congr 1
      omega
    omega
/-- what raised returns: safe, each within its own balance and the last step, and nothing cheaper -/
theorem Rz.all {g : Int} (hg : 1 ≤ g) {ns ws ms fs : List Int} (h1 : 1 ≤ ns.length) (hwl : ws.length = ns.length) (hw : ∀ x ∈ ws, 0 ≤ x) (pm : ms.Perm (upto ns.length)) (sm : ms.Pairwise (KLe (byPr ws))) (hn : ms.Pairwise (· ≠ ·)) (h : Rz g ns ms [] ns fs) :
    gapOf g fs = none ∧ (∀ j, j < ns.length → ns.getD j 0 ≤ fs.getD j 0 ∧ fs.getD j 0 ≤ mx (ns.getD j 0) (R g ns.length - R g (ns.length - 1))) ∧
    ∀ x : List Int, gapOf g x = none → x.length = ns.length → (∀ i, i < ns.length → ns.getD i 0 ≤ x.getD i 0) → 0 ≤ (ms.map fun i => ws.getD i.toNat 0 * (x.getD i.toNat 0 - fs.getD i.toNat 0)).sum := by
  have g0 : gapOf g [] = none := gap_none.mpr fun k h1 h2 => absurd h2 (by simp; omega)
  have hfl := h.len
  have hml : ms.length = ns.length := by
    rw [pm.length_eq]
    simp [upto]
  have hW : ∀ i : Nat, 0 ≤ ws.getD i 0 := fun i => by
    by_cases c : i < ws.length
    · rw [List.getD_eq_getElem?_getD, List.getElem?_eq_getElem c]
      exact hw _ (List.getElem_mem c)
    · rw [List.getD_eq_getElem?_getD, List.getElem?_eq_none (by omega)]
      exact Int.le_refl _
  refine ⟨?_, ?_, fun x ex hxl hge => ?_⟩
  · have := h.taken rfl hn g0
    rw [List.nil_append, gap_congr (pm.map _), ← hfl, upto_self] at this
    exact this
  · refine h.le hg rfl g0 (by rw [hml]; simp) fun j hj => ⟨Int.le_refl _, (mx_ge _ _).1⟩
  · cases hms : ms with
    | nil =>
      rw [hms] at hml
      simp at hml
      omega
    | cons m0 rest =>
      rw [hms] at h pm sm hn
      have hmx := List.pairwise_cons.mp sm
      have := h.opt hg hW ex hge [] (ws.getD m0.toNat 0) rfl rfl g0 (by
        rw [List.nil_append]
        have q := pm.map (fun i => x.getD i.toNat 0)
        rw [← hxl, upto_self] at q
        exact q) (fun a ha => absurd ha (Nat.not_lt_zero _)) hn sm (hW _) (fun i hi => by
        rcases List.mem_cons.mp hi with z | z
        · rw [z]
          exact Int.le_refl _
        · have := hmx.1 i z
          unfold KLe byPr at this
          simp only at this
          omega)
      simpa using this
/-! ### certificates: what the senders taken so far lack -/
/-- the greatest lack of some of the balances, 0 if there is none -/
def IsMost (g : Int) (bk : List Int) (v : Int) : Prop := 0 ≤ v ∧ (∀ k, 1 ≤ k → k ≤ bk.length → R g k - SS bk k ≤ v) ∧ (v = 0 ∨ ∃ k, 1 ≤ k ∧ k ≤ bk.length ∧ R g k - SS bk k = v)
theorem IsMost.uniq {g v w : Int} {bk : List Int} (h : IsMost g bk v) (h' : IsMost g bk w) : v = w := by
  obtain ⟨a1, a2, a3⟩ := h
  obtain ⟨b1, b2, b3⟩ := h'
  have h1 : v ≤ w := by
    rcases a3 with z | ⟨k, k1, k2, z⟩
    · omega
    · have := b2 k k1 k2
      omega
  have h2 : w ≤ v := by
    rcases b3 with z | ⟨k, k1, k2, z⟩
    · omega
    · have := a2 k k1 k2
      omega
  omega
/-- raised in turn: safe, none below, each as before or tight -/
def Rs (g : Int) (tk bk : List Int) : Prop := tk.length = bk.length ∧ gapOf g tk = none ∧ ∀ a, a < tk.length → bk.getD a 0 ≤ tk.getD a 0 ∧ (tk.getD a 0 = bk.getD a 0 ∨ IsLB g (tk.eraseIdx a) (tk.getD a 0))
theorem Rs.nil (g : Int) : Rs g [] [] := ⟨rfl, gap_none.mpr fun k h1 h2 => absurd h2 (by simp; omega), fun a ha => absurd ha (by simp)⟩
theorem getD_last {a : List Int} {x : Int} : (a ++ [x]).getD a.length 0 = x := by
  rw [List.getD_eq_getElem?_getD, List.getElem?_append_right (Nat.le_refl _), Nat.sub_self]
  rfl
theorem Rs.snoc {g b v : Int} {tk bk : List Int} (h : Rs g tk bk) (hv : IsLB g tk v) : Rs g (tk ++ [mx b v]) (bk ++ [b]) := by
  obtain ⟨hl, e, ht⟩ := h
  have hm := mx_ge b v
  generalize mx b v = u at hm
  have e2 : gapOf g (tk ++ [u]) = none := by
    rw [gap_congr (snoc_perm tk _)]
    exact (hv.safe e).mpr hm.2.1
  refine ⟨by rw [List.length_append, List.length_append, hl]; rfl, e2, fun a ha => ?_⟩
  rw [List.length_append, List.length_singleton] at ha
  by_cases c : a < tk.length
  · obtain ⟨z1, z2⟩ := ht a c
    rw [getD_app c, getD_app (by omega)]
    refine ⟨z1, ?_⟩
    rcases z2 with z | z
    · exact .inl z
    · have := tight_snoc c e2 z
      rw [getD_app c] at this
      exact .inr this
  · have ea : a = tk.length := by omega
    subst ea
    have g1 : (bk ++ [b]).getD tk.length 0 = b := by rw [hl]; exact getD_last
    rw [getD_last, g1]
    refine ⟨hm.1, ?_⟩
    rcases hm.2.2 with z | z
    · exact .inl z
    · refine .inr ?_
      rw [List.eraseIdx_append_of_length_le (Nat.le_refl _), Nat.sub_self, z]
      show IsLB g (tk ++ []) v
      rw [List.append_nil]
      exact hv
theorem pairs_dif : ∀ (l : List (Int × Int)), (∀ q ∈ l, q.1 = q.2) → (l.map Prod.fst).sum = (l.map Prod.snd).sum
  | [], _ => rfl
  | q :: l, h => by
    have h1 := pairs_dif l fun z hz => h z (List.mem_cons_of_mem _ hz)
    have h2 := h q List.mem_cons_self
    rw [List.map_cons, List.map_cons, List.sum_cons, List.sum_cons]
    omega
/-- what was raised is just what those who lack most lack -/
theorem Rs.most {g : Int} (hg : 1 ≤ g) {tk bk : List Int} (h : Rs g tk bk) : IsMost g bk (tk.sum - bk.sum) := by
  obtain ⟨hl, e, ht⟩ := h
  have hf : (tk.zip bk).map Prod.fst = tk := List.map_fst_zip (by omega)
  have hs : (tk.zip bk).map Prod.snd = bk := List.map_snd_zip (by omega)
  have hle : ∀ q ∈ tk.zip bk, q.2 ≤ q.1 := fun q hq => by
    obtain ⟨a, ha, e1, e2⟩ := mem_zip_at hq
    have := (ht a ha).1
    omega
  have hswap : ∀ (l : List (Int × Int)), (∀ q ∈ l, q.2 ≤ q.1) → (l.map Prod.snd).sum ≤ (l.map Prod.fst).sum := fun l hq => by
    have := pairs_le (l.map Prod.swap) (fun q hq' => by
      obtain ⟨p, hp, rfl⟩ := List.mem_map.mp hq'
      exact hq p hp)
    rw [List.map_map, List.map_map] at this
    exact this
  have h0 : 0 ≤ tk.sum - bk.sum := by
    have := hswap _ hle
    rw [hf, hs] at this
    omega
  have hfirst : ∀ k, 1 ≤ k → k ≤ bk.length → R g k - SS bk k ≤ tk.sum - bk.sum := fun k k1 k2 => by
    let L := (tk.zip bk).mergeSort (fun p q => decide (p.2 ≤ q.2))
    have hp : L.Perm (tk.zip bk) := List.mergeSort_perm _ _
    have hsrt : (L.map Prod.snd) = srt bk := by
      refine srt_eq ?_ ?_
      · have := hp.map Prod.snd
        rwa [hs] at this
      · rw [List.pairwise_map]
        have := List.pairwise_mergeSort (le := fun p q : Int × Int => decide (p.2 ≤ q.2)) (fun p q r h1 h2 => by simp at *; omega) (fun p q => by simp; omega) (tk.zip bk)
        exact this.imp fun h => by simpa using h
    have hfn : (L.map Prod.fst).Perm tk := by
      have := hp.map Prod.fst
      rwa [hf] at this
    have hLl : L.length = bk.length := by rw [← srt_len bk, ← hsrt, List.length_map]
    have q : ((L.take k).map Prod.fst ++ (L.drop k).map Prod.fst).Perm tk := by
      rw [← List.map_append, List.take_append_drop]
      exact hfn
    have h2 := SS_min q
    rw [List.length_map, List.length_take, hLl, Nat.min_eq_left k2] at h2
    have h3 := gap_none.mp e k k1 (by omega)
    have h4 : ((L.take k).map Prod.snd).sum = SS bk k := by
      rw [List.map_take, hsrt]
      rfl
    have h5 := hswap (L.drop k) fun z hz => hle z (hp.mem_iff.mp (List.mem_of_mem_drop hz))
    have h6 : ((L.take k).map Prod.fst).sum + ((L.drop k).map Prod.fst).sum = tk.sum := by
      rw [← List.sum_append, perm_sum q]
    have h7 : ((L.take k).map Prod.snd).sum + ((L.drop k).map Prod.snd).sum = bk.sum := by
      rw [← List.sum_append, ← List.map_append, List.take_append_drop, hsrt]
      exact perm_sum (srt_perm bk)
    omega
  refine ⟨h0, hfirst, ?_⟩
  · by_cases z0 : tk.sum - bk.sum = 0
    · exact .inl z0
    right
    by_cases hex : ∃ a, a < tk.length ∧ IsLB g (tk.eraseIdx a) (tk.getD a 0)
    · obtain ⟨a, ha, hta, hmax⟩ := max_by (fun a => IsLB g (tk.eraseIdx a) (tk.getD a 0)) (fun a => tk.getD a 0) tk.length hex
      obtain ⟨m, hm, hSm, hdr⟩ := seg_tight hg e ha hta
      let L := (tk.zip bk).mergeSort (fun p q => decide (p.1 ≤ q.1))
      have hp : L.Perm (tk.zip bk) := List.mergeSort_perm _ _
      have hsrt : (L.map Prod.fst) = srt tk := by
        refine srt_eq ?_ ?_
        · have := hp.map Prod.fst
          rwa [hf] at this
        · rw [List.pairwise_map]
          have := List.pairwise_mergeSort (le := fun p q : Int × Int => decide (p.1 ≤ q.1)) (fun p q r h1 h2 => by simp at *; omega) (fun p q => by simp; omega) (tk.zip bk)
          exact this.imp fun h => by simpa using h
      have hsn : (L.map Prod.snd).Perm bk := by
        have := hp.map Prod.snd
        rwa [hs] at this
      have hLl : L.length = tk.length := by rw [← srt_len tk, ← hsrt, List.length_map]
      have h2 : ((L.take m).map Prod.fst).sum = R g m := by
        rw [List.map_take, hsrt]
        exact hSm
      have h3 := pairs_dif (L.drop m) fun q hq => by
        have hq1 : q.1 ∈ (srt tk).drop m := by
          rw [← hsrt, ← List.map_drop]
          exact List.mem_map.mpr ⟨q, hq, rfl⟩
        have h4 := hdr _ hq1
        obtain ⟨c, hc, e1, e2⟩ := mem_zip_at (hp.mem_iff.mp (List.mem_of_mem_drop hq))
        rcases (ht c hc).2 with z | z
        · omega
        · have := hmax c hc z
          omega
      have q : ((L.take m).map Prod.snd ++ (L.drop m).map Prod.snd).Perm bk := by
        rw [← List.map_append, List.take_append_drop]
        exact hsn
      have h4 := SS_min q
      rw [List.length_map, List.length_take, hLl, Nat.min_eq_left hm] at h4
      have h5 : ((L.take m).map Prod.snd).sum + ((L.drop m).map Prod.snd).sum = bk.sum := by
        rw [← List.sum_append, perm_sum q]
      have h6 : ((L.take m).map Prod.fst).sum + ((L.drop m).map Prod.fst).sum = tk.sum := by
        rw [← List.sum_append, ← List.map_append, List.take_append_drop, hsrt]
        exact perm_sum (srt_perm tk)
      have hm0 : m ≠ 0 := fun w => by
        subst w
        rw [List.drop_zero, hsrt] at h3
        have hb := perm_sum hsn
        have ha2 := perm_sum (srt_perm tk)
        omega
      have hup := hfirst m (by omega) (by omega)
      exact ⟨m, by omega, by omega, by omega⟩
    · exfalso
      refine z0 ?_
      have := pairs_dif (tk.zip bk) fun q hq => by
        obtain ⟨c, hc, e1, e2⟩ := mem_zip_at hq
        rcases (ht c hc).2 with z | z
        · omega
        · exact absurd ⟨c, hc, z⟩ hex
      rw [hf, hs] at this
      omega
/-! ### all sets of senders -/
def setL : Nat → List (List Int)
  | 0 => [[]]
  | n + 1 => setL n ++ (setL n).map fun W => W ++ [(n : Int)]
theorem setL_cons : ∀ n, ∃ t, setL n = [] :: t ∧ ∀ W ∈ t, W ≠ []
  | 0 => ⟨[], rfl, fun W h => nomatch h⟩
  | n + 1 => by
    obtain ⟨t, e, h⟩ := setL_cons n
    refine ⟨t ++ (setL n).map fun W => W ++ [(n : Int)], ?_, fun W hW => ?_⟩
    · show setL n ++ _ = _
      rw [e]
      rfl
    · rcases List.mem_append.mp hW with z | z
      · exact h W z
      · obtain ⟨V, _, rfl⟩ := List.mem_map.mp z
        exact List.append_ne_nil_of_right_ne_nil _ (List.cons_ne_nil _ _)
theorem setL_len : ∀ n, (setL n).length = 2 ^ n
  | 0 => rfl
  | n + 1 => by
    show (setL n ++ _).length = _
    rw [List.length_append, List.length_map, setL_len n, Nat.pow_succ]
    omega
theorem setL_short : ∀ n, ∀ W ∈ setL n, W.length ≤ n
  | 0, W, h => by
    rw [List.mem_singleton.mp h]
    exact Nat.le_refl _
  | n + 1, W, h => by
    rcases List.mem_append.mp h with z | z
    · exact Nat.le_succ_of_le (setL_short n W z)
    · obtain ⟨V, hV, rfl⟩ := List.mem_map.mp z
      rw [List.length_append, List.length_singleton]
      exact Nat.succ_le_succ (setL_short n V hV)
theorem setL_mem : ∀ (n : Nat) (W : List Int), W ∈ setL n ↔ W.Pairwise (· < ·) ∧ ∀ i ∈ W, 0 ≤ i ∧ i < (n : Int)
  | 0, W => by
    constructor
    · intro h
      rw [List.mem_singleton.mp h]
      exact ⟨.nil, fun i hi => nomatch hi⟩
    · rintro ⟨_, h⟩
      cases W with
      | nil => exact List.mem_singleton.mpr rfl
      | cons x W =>
        have := h x List.mem_cons_self
        omega
  | n + 1, W => by
    show W ∈ setL n ++ _ ↔ _
    rw [List.mem_append]
    constructor
    · rintro (h | h)
      · obtain ⟨h1, h2⟩ := (setL_mem n W).mp h
        exact ⟨h1, fun i hi => by have := h2 i hi; omega⟩
      · obtain ⟨V, hV, rfl⟩ := List.mem_map.mp h
        obtain ⟨h1, h2⟩ := (setL_mem n V).mp hV
        refine ⟨List.pairwise_append.mpr ⟨h1, List.pairwise_singleton _ _, fun a ha b hb => ?_⟩, fun i hi => ?_⟩
        · rw [List.mem_singleton.mp hb]
          exact (h2 a ha).2
        · rcases List.mem_append.mp hi with z | z
          · have := h2 i z
            omega
          · rw [List.mem_singleton.mp z]
            omega
    · rintro ⟨h1, h2⟩
      rcases List.eq_nil_or_concat W with rfl | ⟨V, b, rfl⟩
      · exact .inl ((setL_mem n []).mpr ⟨.nil, fun i hi => nomatch hi⟩)
      · rw [List.concat_eq_append] at h1 h2 ⊢
        obtain ⟨p1, _, p3⟩ := List.pairwise_append.mp h1
        have hb := h2 b (List.mem_append_right _ (List.mem_singleton.mpr rfl))
        by_cases c : b = (n : Int)
        · subst c
          refine .inr (List.mem_map.mpr ⟨V, (setL_mem n V).mpr ⟨p1, fun i hi => ?_⟩, rfl⟩)
          have := p3 i hi _ (List.mem_singleton.mpr rfl)
          have := h2 i (List.mem_append_left _ hi)
          omega
        · refine .inl ((setL_mem n _).mpr ⟨h1, fun i hi => ?_⟩)
          rcases List.mem_append.mp hi with z | z
          · have := p3 i z _ (List.mem_singleton.mpr rfl)
            have := h2 i hi
            omega
          · rw [List.mem_singleton.mp z]
            omega
theorem setL_rest : ∀ (n : Nat), ∀ W ∈ setL n, ∃ rest : List Int, (W ++ rest).Perm (upto n)
  | 0, W, h => by
    rw [List.mem_singleton.mp h]
    exact ⟨[], .nil⟩
  | n + 1, W, h => by
    have e : upto (n + 1) = upto n ++ [(n : Int)] := by
      unfold upto
      rw [List.range_succ, List.map_append]
      rfl
    rw [e]
    rcases List.mem_append.mp h with z | z
    · obtain ⟨rest, p⟩ := setL_rest n W z
      refine ⟨rest ++ [(n : Int)], ?_⟩
      rw [← List.append_assoc]
      exact p.append_right _
    · obtain ⟨V, hV, rfl⟩ := List.mem_map.mp z
      obtain ⟨rest, p⟩ := setL_rest n V hV
      refine ⟨rest, ?_⟩
      refine List.Perm.trans ?_ (p.append_right _)
      rw [List.append_assoc, List.append_assoc]
      exact (List.perm_append_comm).append_left V
theorem sel_ge {ns W : List Int} (h : W ∈ setL ns.length) : SS ns W.length ≤ selSum ns W := by
  obtain ⟨rest, p⟩ := setL_rest ns.length W h
  have q := p.map fun i : Int => ns.getD i.toNat 0
  rw [upto_self, List.map_append] at q
  have := SS_min q
  rw [List.length_map] at this
  exact this
/-! ### rows of multipliers and senders -/
def rsum (f : List Int → Int) (rs : List (Int × List Int)) : Int := (rs.map fun r => r.1 * f r.2).sum
def lackOf (g : Int) (ns W : List Int) : Int := R g W.length - selSum ns W
def ind (i : Int) (W : List Int) : Int := if i ∈ W then 1 else 0
def sumR (n : Nat) (f : Nat → Int) : Int := ((List.range n).map f).sum
def RowsOk (n : Nat) (rs : List (Int × List Int)) : Prop := (∀ r ∈ rs, 1 ≤ r.1 ∧ GoodS n r.2) ∧ (rs.map (·.2)).Nodup
theorem rsum_cons (f : List Int → Int) (r : Int × List Int) (rs : List (Int × List Int)) : rsum f (r :: rs) = r.1 * f r.2 + rsum f rs := by
  unfold rsum
  rw [List.map_cons, List.sum_cons]
theorem rsum_app (f : List Int → Int) (rs ts : List (Int × List Int)) : rsum f (rs ++ ts) = rsum f rs + rsum f ts := by
  unfold rsum
  rw [List.map_append, List.sum_append]
theorem sumR_zero (f : Nat → Int) : sumR 0 f = 0 := rfl
theorem sumR_succ (n : Nat) (f : Nat → Int) : sumR (n + 1) f = sumR n f + f n := by
  unfold sumR
  rw [List.range_succ, List.map_append, List.sum_append, List.map_singleton, List.sum_singleton]
theorem sumR_le {f h : Nat → Int} : ∀ n, (∀ j, j < n → f j ≤ h j) → sumR n f ≤ sumR n h
  | 0, _ => Int.le_refl _
  | n + 1, hl => by
    have := sumR_le n fun j hj => hl j (by omega)
    have := hl n (by omega)
    rw [sumR_succ, sumR_succ]
    omega
theorem sumR_eq {f h : Nat → Int} (n : Nat) (hl : ∀ j, j < n → f j = h j) : sumR n f = sumR n h :=
  Int.le_antisymm (sumR_le n fun j hj => by rw [hl j hj]; exact Int.le_refl _) (sumR_le n fun j hj => by rw [hl j hj]; exact Int.le_refl _)
theorem sumR_add (f h : Nat → Int) : ∀ n, sumR n (fun j => f j + h j) = sumR n f + sumR n h
  | 0 => rfl
  | n + 1 => by
    rw [sumR_succ, sumR_succ, sumR_succ, sumR_add f h n]
    omega
theorem sumR_mul (c : Int) (f : Nat → Int) : ∀ n, sumR n (fun j => c * f j) = c * sumR n f
  | 0 => by rw [sumR_zero, sumR_zero, Int.mul_zero]
  | n + 1 => by rw [sumR_succ, sumR_succ, sumR_mul c f n, Int.mul_add]
theorem abel (p T d : Nat → Int) (h0 : T 0 = 0) (hT : ∀ j, T (j + 1) = T j + d j) : ∀ n, sumR n (fun j => (p j - p (j + 1)) * T (j + 1)) = sumR n (fun j => p j * d j) - p n * T n
  | 0 => by rw [sumR_zero, sumR_zero, h0, Int.mul_zero]; rfl
  | n + 1 => by
    rw [sumR_succ, sumR_succ, abel p T d h0 hT n, hT n, Int.sub_mul, Int.mul_add, Int.mul_add]
    omega
theorem tele (p : Nat → Int) (q : Nat) : ∀ n, q ≤ n → sumR n (fun j => (p j - p (j + 1)) * (if q ≤ j then 1 else 0)) = p q - p n
  | 0, h => by
    have : q = 0 := by omega
    subst this
    rw [sumR_zero]
    omega
  | n + 1, h => by
    rw [sumR_succ]
    by_cases c : q = n + 1
    · subst c
      rw [if_neg (by omega), Int.mul_zero, sumR_eq n (h := fun _ => 0) (fun j hj => by rw [if_neg (by omega), Int.mul_zero])]
      have : ∀ n, sumR n (fun _ => 0) = 0 := fun n => by
        have := sumR_mul 0 (fun _ => 0) n
        simpa using this
      rw [this]
      omega
    · rw [tele p q n (by omega), if_pos (by omega)]
      omega
theorem rsum_le {f h : List Int → Int} : ∀ {rs : List (Int × List Int)}, (∀ r ∈ rs, 0 ≤ r.1 ∧ f r.2 ≤ h r.2) → rsum f rs ≤ rsum h rs
  | [], _ => Int.le_refl _
  | r :: rs, hl => by
    have h1 := rsum_le fun q hq => hl q (List.mem_cons_of_mem _ hq)
    have h2 := hl r List.mem_cons_self
    have h3 := Int.mul_le_mul_of_nonneg_left h2.2 h2.1
    rw [rsum_cons, rsum_cons]
    omega
theorem rsum_eq {f h : List Int → Int} : ∀ {rs : List (Int × List Int)}, (∀ r ∈ rs, f r.2 = h r.2) → rsum f rs = rsum h rs
  | [], _ => rfl
  | r :: rs, hl => by
    rw [rsum_cons, rsum_cons, rsum_eq fun q hq => hl q (List.mem_cons_of_mem _ hq), hl r List.mem_cons_self]
theorem rsum_swap (n : Nat) (F : Nat → List Int → Int) : ∀ rs : List (Int × List Int), rsum (fun W => sumR n fun i => F i W) rs = sumR n fun i => rsum (F i) rs
  | [] => by
    show 0 = sumR n fun _ => 0
    have := sumR_mul 0 (fun _ => 0) n
    simp at this
    rw [this]
  | r :: rs => by
    rw [rsum_cons, rsum_swap n F rs, ← sumR_mul, ← sumR_add]
    refine sumR_eq n fun j _ => ?_
    rw [rsum_cons]
theorem rsum_mul (c : Int) (f : List Int → Int) : ∀ rs : List (Int × List Int), rsum (fun W => f W * c) rs = rsum f rs * c
  | [] => by
    show (0 : Int) = 0 * c
    omega
  | r :: rs => by
    rw [rsum_cons, rsum_cons, rsum_mul c f rs, Int.add_mul, Int.mul_assoc]
theorem sumR_single (y : Nat → Int) (s : Nat) : ∀ n, sumR n (fun i => (if (i : Int) = (s : Int) then 1 else 0) * y i) = if s < n then y s else 0
  | 0 => by rw [sumR_zero, if_neg (by omega)]
  | n + 1 => by
    rw [sumR_succ, sumR_single y s n]
    by_cases c : n = s
    · subst c
      rw [if_pos rfl, if_neg (by omega), if_pos (by omega)]
      omega
    · rw [if_neg (show ¬ (n : Int) = (s : Int) by omega)]
      by_cases d : s < n
      · rw [if_pos d, if_pos (by omega)]
        omega
      · rw [if_neg d, if_neg (by omega)]
        omega
theorem sel_ind (y : List Int) {n : Nat} : ∀ {W : List Int}, W.Pairwise (· < ·) → (∀ i ∈ W, 0 ≤ i ∧ i < (n : Int)) → selSum y W = sumR n fun i => ind (i : Int) W * y.getD i 0
  | [], _, _ => by
    show 0 = sumR n fun i => ind (i : Int) [] * y.getD i 0
    have h : sumR n (fun i => ind (i : Int) [] * y.getD i 0) = sumR n (fun i => 0 * y.getD i 0) := sumR_eq n fun j _ => by simp [ind]
    rw [h, sumR_mul]
    omega
  | s :: W, hp, hb => by
    rw [List.pairwise_cons] at hp
    have ih := sel_ind y hp.2 fun i hi => hb i (List.mem_cons_of_mem _ hi)
    have hs := hb s List.mem_cons_self
    have e1 : selSum y (s :: W) = y.getD s.toNat 0 + selSum y W := by
      unfold selSum
      rw [List.map_cons, List.sum_cons]
    have e2 := sumR_single (fun i => y.getD i 0) s.toNat n
    rw [if_pos (by omega)] at e2
    rw [e1, ih, ← e2, ← sumR_add]
    refine sumR_eq n fun j hj => ?_
    rw [← Int.add_mul]
    congr 1
    unfold ind
    rw [show ((s.toNat : Nat) : Int) = s by omega]
    by_cases c : (j : Int) = s
    · rw [if_pos c, if_neg (fun z => by have := hp.1 _ z; omega), if_pos (by rw [c]; exact List.mem_cons_self)]
      rfl
    · rw [if_neg c]
      by_cases d : (j : Int) ∈ W
      · rw [if_pos d, if_pos (List.mem_cons_of_mem _ d)]
        rfl
      · rw [if_neg d, if_neg (fun z => by rcases List.mem_cons.mp z with w | w; exact c w; exact d w)]
        rfl
theorem dot_sumR {ws xs ys : List Int} {n : Nat} (h1 : ws.length = n) (h2 : xs.length = n) (h3 : ys.length = n) : dot ws xs ys = sumR n fun i => ws.getD i 0 * (ys.getD i 0 - xs.getD i 0) := by
  have go : ∀ k, k ≤ n → dot (ws.take k) (xs.take k) (ys.take k) = sumR k fun i => ws.getD i 0 * (ys.getD i 0 - xs.getD i 0) := by
    intro k
    induction k with
    | zero => intro _; simp [dot, sumR_zero]
    | succ k ih =>
      intro hk
      rw [dot_take ws xs ys k (by omega) (by omega) (by omega), ih (by omega), sumR_succ]
  have := go n (Nat.le_refl _)
  rw [List.take_of_length_le (by omega), List.take_of_length_le (by omega), List.take_of_length_le (by omega)] at this
  exact this
theorem good_ge {n : Nat} {y W : List Int} (hy : y.length = n) (h : GoodS n W) {g : Int} (e : gapOf g y = none) : R g W.length ≤ selSum y W := by
  obtain ⟨hne, hl, hp, hb⟩ := h
  have h1 : W ∈ setL y.length := (setL_mem y.length W).mpr ⟨hp, fun i hi => by have := hb i hi; omega⟩
  have h2 := sel_ge h1
  obtain ⟨rest, pr⟩ := setL_rest y.length W h1
  have h3 := pr.length_eq
  have h4 : (upto y.length).length = y.length := by unfold upto; simp
  rw [List.length_append, h4] at h3
  have h5 := gap_none.mp e W.length (List.length_pos_iff.mpr hne) (by omega)
  omega
/-- no safe balances above cost less than what rows within the prices lack -/
theorem low_sound {g : Int} {n : Nat} {ns ws y : List Int} {rs : List (Int × List Int)} (hn : ns.length = n) (hw : ws.length = n) (hy : y.length = n) (ok : RowsOk n rs) (hl : ∀ i : Nat, i < n → rsum (ind (i : Int)) rs ≤ ws.getD i 0)
    (e : gapOf g y = none) (hge : ∀ i, i < n → ns.getD i 0 ≤ y.getD i 0) : rsum (lackOf g ns) rs ≤ dot ws ns y := by
  have h1 : rsum (lackOf g ns) rs ≤ rsum (fun W => sumR n fun i => ind (i : Int) W * (y.getD i 0 - ns.getD i 0)) rs := by
    refine rsum_le fun r hr => ?_
    obtain ⟨h1, h2⟩ := ok.1 r hr
    refine ⟨by omega, ?_⟩
    have h3 := good_ge hy h2 e
    have h4 := sel_ind y (n := n) h2.2.2.1 h2.2.2.2
    have h5 := sel_ind ns (n := n) h2.2.2.1 h2.2.2.2
    have h6 : (sumR n fun i => ind (i : Int) r.2 * (y.getD i 0 - ns.getD i 0)) + selSum ns r.2 = selSum y r.2 := by
      rw [h4, h5, ← sumR_add]
      refine sumR_eq n fun j _ => ?_
      rw [← Int.mul_add]
      congr 1
      omega
    unfold lackOf
    omega
  rw [rsum_swap n (fun i W => ind (i : Int) W * (y.getD i 0 - ns.getD i 0))] at h1
  rw [dot_sumR hw hn hy]
  refine Int.le_trans h1 (sumR_le n fun j hj => ?_)
  rw [rsum_mul]
  exact Int.mul_le_mul_of_nonneg_right (hl j hj) (by have := hge j hj; omega)
/-! ### rows of falls -/
def prl (ws ms : List Int) : List Int := ms.map fun i : Int => ws.getD i.toNat 0
/-- what the rows sum to: each group counts with the fall to the next price -/
def Falls (ps : List Int) (Ws : List (List Int)) (rs : List (Int × List Int)) : Prop := ∀ f : List Int → Int, f [] = 0 → rsum f rs = sumR Ws.length fun j => (ps.getD j 0 - ps.getD (j + 1) 0) * f (Ws.getD j [])
theorem getD_at' {a : List Int} {j : Nat} (h : j < a.length) : a.getD j 0 = a[j] := by
  rw [List.getD_eq_getElem?_getD, List.getElem?_eq_getElem h]
  rfl
theorem getD_out {a : List Int} {j : Nat} (h : a.length ≤ j) : a.getD j 0 = 0 := by
  rw [List.getD_eq_getElem?_getD, List.getElem?_eq_none h]
  rfl
theorem upto_len' (n : Nat) : (upto n).length = n := by
  unfold upto
  simp
theorem upto_nd (n : Nat) : (upto n).Nodup := by
  unfold upto
  refine List.pairwise_map.mpr (List.Pairwise.imp (fun h => ?_) List.nodup_range)
  omega
theorem prl_at {ws ms : List Int} {j : Nat} (h : j < ms.length) : (prl ws ms).getD j 0 = ws.getD (ms.getD j 0).toNat 0 := by
  unfold prl
  rw [getD_at' (by rw [List.length_map]; exact h), List.getElem_map, getD_at' h]
theorem prl_out {ws ms : List Int} {j : Nat} (h : ms.length ≤ j) : (prl ws ms).getD j 0 = 0 := getD_out (by unfold prl; rw [List.length_map]; exact h)
theorem getD_nn {ws : List Int} (hw : ∀ x ∈ ws, 0 ≤ x) (i : Nat) : 0 ≤ ws.getD i 0 := by
  by_cases c : i < ws.length
  · rw [getD_at' c]
    exact hw _ (List.getElem_mem c)
  · rw [getD_out (by omega)]
    exact Int.le_refl _
theorem prl_anti {ws ms : List Int} (hw : ∀ x ∈ ws, 0 ≤ x) (sm : ms.Pairwise (KLe (byPr ws))) (j : Nat) : (prl ws ms).getD (j + 1) 0 ≤ (prl ws ms).getD j 0 := by
  by_cases c : j + 1 < ms.length
  · rw [prl_at c, prl_at (by omega), getD_at' c, getD_at' (show j < ms.length by omega)]
    have := List.pairwise_iff_getElem.mp sm j (j + 1) (by omega) c (by omega)
    unfold KLe byPr at this
    simp only at this
    omega
  · rw [prl_out (by omega)]
    by_cases d : j < ms.length
    · rw [prl_at d]
      exact getD_nn hw _
    · rw [prl_out (by omega)]
      exact Int.le_refl _
theorem ord_at {n : Nat} {ms : List Int} (pm : ms.Perm (upto n)) {i : Nat} (hi : i < n) : ∃ q, q < n ∧ q < ms.length ∧ ms.getD q 0 = (i : Int) := by
  have hm : (i : Int) ∈ ms := pm.mem_iff.mpr (by
    unfold upto
    exact List.mem_map.mpr ⟨i, List.mem_range.mpr hi, rfl⟩)
  obtain ⟨q, hq, e⟩ := List.getElem_of_mem hm
  have hl := pm.length_eq
  rw [upto_len'] at hl
  exact ⟨q, by omega, hq, by rw [getD_at' hq]; exact e⟩
theorem ord_take {n : Nat} {ms : List Int} (pm : ms.Perm (upto n)) {q j : Nat} (hq : q < ms.length) : ms.getD q 0 ∈ ms.take (j + 1) ↔ q ≤ j := by
  have nd : ms.Nodup := pm.nodup_iff.mpr (upto_nd n)
  rw [getD_at' hq]
  constructor
  · intro h
    obtain ⟨a, ha, e⟩ := List.getElem_of_mem h
    rw [List.length_take] at ha
    rw [List.getElem_take] at e
    have : a = q := (List.getElem_inj nd).mp e
    omega
  · intro h
    refine List.mem_iff_getElem.mpr ⟨q, by rw [List.length_take]; omega, ?_⟩
    rw [List.getElem_take]
theorem low_loads {n : Nat} {ws ms : List Int} {Ws : List (List Int)} {rs : List (Int × List Int)} (hf : Falls (prl ws ms) Ws rs) (pm : ms.Perm (upto n)) (sm : ms.Pairwise (KLe (byPr ws))) (hw : ∀ x ∈ ws, 0 ≤ x) (hWl : Ws.length = n)
    (hW : ∀ j, j < n → ∀ i ∈ Ws.getD j [], i ∈ ms.take (j + 1)) : ∀ i : Nat, i < n → rsum (ind (i : Int)) rs ≤ ws.getD i 0 := by
  intro i hi
  obtain ⟨q, hq, hqm, eq⟩ := ord_at pm hi
  have hl := pm.length_eq
  rw [upto_len'] at hl
  have h1 := tele (fun j => (prl ws ms).getD j 0) q n (by omega)
  rw [prl_out (show ms.length ≤ n by omega), prl_at hqm, eq, Int.toNat_natCast] at h1
  rw [hf (ind (i : Int)) (by simp [ind]), hWl]
  have h2 := sumR_le (f := fun j => ((prl ws ms).getD j 0 - (prl ws ms).getD (j + 1) 0) * ind (i : Int) (Ws.getD j [])) (h := fun j => ((prl ws ms).getD j 0 - (prl ws ms).getD (j + 1) 0) * (if q ≤ j then 1 else 0)) n fun j hj => by
    refine Int.mul_le_mul_of_nonneg_left ?_ (by have := prl_anti hw sm j; omega)
    unfold ind
    by_cases c : (i : Int) ∈ Ws.getD j []
    · have := hW j hj _ c
      rw [← eq] at this
      rw [if_pos c, if_pos ((ord_take pm hqm).mp this)]
      exact Int.le_refl _
    · rw [if_neg c]
      split <;> decide
  omega
theorem up_loads {n : Nat} {ws ms : List Int} {Ws : List (List Int)} {rs : List (Int × List Int)} (hf : Falls (prl ws ms) Ws rs) (pm : ms.Perm (upto n)) (sm : ms.Pairwise (KLe (byPr ws))) (hw : ∀ x ∈ ws, 0 ≤ x) (hWl : Ws.length = n)
    (hW : ∀ j, j < n → ∀ i ∈ ms.take (j + 1), i ∈ Ws.getD j []) : ∀ i : Nat, i < n → ws.getD i 0 ≤ rsum (ind (i : Int)) rs := by
  intro i hi
  obtain ⟨q, hq, hqm, eq⟩ := ord_at pm hi
  have hl := pm.length_eq
  rw [upto_len'] at hl
  have h1 := tele (fun j => (prl ws ms).getD j 0) q n (by omega)
  rw [prl_out (show ms.length ≤ n by omega), prl_at hqm, eq, Int.toNat_natCast] at h1
  rw [hf (ind (i : Int)) (by simp [ind]), hWl]
  have h2 := sumR_le (h := fun j => ((prl ws ms).getD j 0 - (prl ws ms).getD (j + 1) 0) * ind (i : Int) (Ws.getD j [])) (f := fun j => ((prl ws ms).getD j 0 - (prl ws ms).getD (j + 1) 0) * (if q ≤ j then 1 else 0)) n fun j hj => by
    refine Int.mul_le_mul_of_nonneg_left ?_ (by have := prl_anti hw sm j; omega)
    unfold ind
    by_cases c : q ≤ j
    · have := hW j hj _ ((ord_take pm hqm).mpr c)
      rw [eq] at this
      rw [if_pos c, if_pos this]
      exact Int.le_refl _
    · rw [if_neg c]
      split <;> decide
  omega
theorem Rz.exists {g : Int} {ns : List Int} : ∀ (is tk cur : List Int), (∀ i ∈ is, 0 ≤ i ∧ i < (ns.length : Int)) → ∃ fs, Rz g ns is tk cur fs
  | [], tk, cur, _ => ⟨cur, .nil⟩
  | i :: is, tk, cur, h => by
    obtain ⟨v, hv⟩ := IsLB.exists g tk
    have hi := h i List.mem_cons_self
    obtain ⟨k, hk⟩ : ∃ k : Nat, i = (k : Int) := ⟨i.toNat, by omega⟩
    subst hk
    obtain ⟨fs, hf⟩ := Rz.exists is (tk ++ [mx (ns.getD k 0) v]) (cur.set k (mx (ns.getD k 0) v)) fun j hj => h j (List.mem_cons_of_mem _ hj)
    exact ⟨fs, .cons (by omega) hv hf⟩
theorem Rz.rs {g : Int} {ns is tk cur fs : List Int} (h : Rz g ns is tk cur fs) : ∀ {bk : List Int}, cur.length = ns.length → is.Pairwise (· ≠ ·) → Rs g tk bk →
    ∀ j, j ≤ is.length → Rs g (tk ++ (is.take j).map fun i => fs.getD i.toNat 0) (bk ++ (is.take j).map fun i => ns.getD i.toNat 0) := by
  induction h with
  | nil =>
    intro bk _ _ hr j hj
    rw [List.take_nil, List.map_nil, List.map_nil, List.append_nil, List.append_nil]
    exact hr
  | @cons i is tk cur fs v h1 h2 h3 ih =>
    intro bk hc hd hr j hj
    rw [List.pairwise_cons] at hd
    have hn : (i : Int) ∉ is := fun z => hd.1 _ z rfl
    cases j with
    | zero =>
      rw [List.take_zero, List.map_nil, List.map_nil, List.append_nil, List.append_nil]
      exact hr
    | succ j =>
      have := ih (by rw [List.length_set]; exact hc) hd.2 (hr.snoc (b := ns.getD i 0) h2) j (by simpa using hj)
      rw [List.append_assoc, List.append_assoc] at this
      rw [List.take_succ_cons, List.map_cons, List.map_cons, Int.toNat_natCast, Rz.at hc h1 hn h3]
      exact this
theorem sum_getD (a : List Int) : ∀ k, k ≤ a.length → (a.take k).sum = sumR k fun j => a.getD j 0
  | 0, _ => rfl
  | k + 1, h => by rw [take_sum_succ a k (by omega), sumR_succ, sum_getD a k (by omega)]
theorem ord_sum {n : Nat} {ms : List Int} (pm : ms.Perm (upto n)) (h : Int → Int) : sumR n (fun j => h (ms.getD j 0)) = sumR n fun i => h (i : Int) := by
  have hl := pm.length_eq
  rw [upto_len'] at hl
  have e1 : (ms.map h).sum = sumR n (fun j => h (ms.getD j 0)) := by
    have := sum_getD (ms.map h) n (by rw [List.length_map]; omega)
    rw [List.take_of_length_le (by rw [List.length_map]; omega)] at this
    rw [this]
    refine sumR_eq n fun j hj => ?_
    rw [getD_at' (by rw [List.length_map]; omega), List.getElem_map, getD_at' (by omega)]
  have e2 : ((upto n).map h).sum = sumR n fun i => h (i : Int) := by
    unfold upto sumR
    rw [List.map_map]
    rfl
  rw [← e1, ← e2]
  exact perm_sum (pm.map h)
/-- the rows lack together just what some safe balances above cost -/
theorem low_worth {g : Int} (hg : 1 ≤ g) {n : Nat} {ns ws ms : List Int} {Ws : List (List Int)} {rs : List (Int × List Int)} (hn : ns.length = n) (hwl : ws.length = n) (pm : ms.Perm (upto n)) (hf : Falls (prl ws ms) Ws rs) (hWl : Ws.length = n)
    (hM : ∀ j, j < n → IsMost g ((ms.take (j + 1)).map fun i => ns.getD i.toNat 0) (lackOf g ns (Ws.getD j []))) :
    ∃ fs : List Int, fs.length = n ∧ gapOf g fs = none ∧ (∀ i, i < n → ns.getD i 0 ≤ fs.getD i 0) ∧ rsum (lackOf g ns) rs = dot ws ns fs := by
  have hl := pm.length_eq
  rw [upto_len'] at hl
  have nd : ms.Pairwise (· ≠ ·) := pm.nodup_iff.mpr (upto_nd n)
  obtain ⟨fs, hz⟩ := Rz.exists (g := g) (ns := ns) ms [] ns fun i hi => by
    have := pm.mem_iff.mp hi
    unfold upto at this
    obtain ⟨k, hk, rfl⟩ := List.mem_map.mp this
    have := List.mem_range.mp hk
    omega
  have hfl := hz.len
  have hr : ∀ j, j ≤ n → Rs g ((ms.take j).map fun i => fs.getD i.toNat 0) ((ms.take j).map fun i => ns.getD i.toNat 0) := fun j hj => by
    have := hz.rs rfl nd (Rs.nil g) j (by omega)
    rw [List.nil_append, List.nil_append] at this
    exact this
  have hall := hr n (Nat.le_refl _)
  rw [List.take_of_length_le (by omega)] at hall
  have pf : (ms.map fun i => fs.getD i.toNat 0).Perm fs := by
    have := pm.map fun i => fs.getD i.toNat 0
    rw [show n = fs.length by omega, upto_self] at this
    exact this
  refine ⟨fs, by omega, by rw [← gap_congr pf]; exact hall.2.1, fun i hi => ?_, ?_⟩
  · obtain ⟨q, _, hq, eq⟩ := ord_at pm hi
    have := (hall.2.2 q (by rw [List.length_map]; exact hq)).1
    rw [getD_at' (by rw [List.length_map]; exact hq), getD_at' (by rw [List.length_map]; exact hq), List.getElem_map, List.getElem_map, ← getD_at' hq, eq, Int.toNat_natCast] at this
    exact this
  · let T : Nat → Int := fun j => ((ms.take j).map fun i => fs.getD i.toNat 0).sum - ((ms.take j).map fun i => ns.getD i.toNat 0).sum
    let d : Nat → Int := fun j => (ms.map fun i => fs.getD i.toNat 0).getD j 0 - (ms.map fun i => ns.getD i.toNat 0).getD j 0
    have hT : ∀ j, T (j + 1) = T j + d j := fun j => by
      show ((ms.take (j + 1)).map _).sum - ((ms.take (j + 1)).map _).sum = ((ms.take j).map _).sum - ((ms.take j).map _).sum + (_ - _)
      by_cases c : j < ms.length
      · rw [List.map_take, List.map_take, List.map_take, List.map_take, take_sum_succ _ j (by rw [List.length_map]; exact c), take_sum_succ _ j (by rw [List.length_map]; exact c)]
        omega
      · rw [List.take_of_length_le (by omega), List.take_of_length_le (by omega), getD_out (by rw [List.length_map]; omega), getD_out (by rw [List.length_map]; omega)]
        omega
    have hA := abel (fun j => (prl ws ms).getD j 0) T d rfl hT n
    rw [prl_out (show ms.length ≤ n by omega), Int.zero_mul, Int.sub_zero] at hA
    rw [hf (lackOf g ns) (by unfold lackOf selSum; simp [R]), hWl]
    have e1 : sumR n (fun j => ((prl ws ms).getD j 0 - (prl ws ms).getD (j + 1) 0) * lackOf g ns (Ws.getD j [])) = sumR n (fun j => ((prl ws ms).getD j 0 - (prl ws ms).getD (j + 1) 0) * T (j + 1)) := sumR_eq n fun j hj => by
      rw [(hM j hj).uniq ((hr (j + 1) (by omega)).most hg)]
    rw [e1, hA, dot_sumR hwl hn (by omega)]
    have e2 := ord_sum pm (fun i => ws.getD i.toNat 0 * (fs.getD i.toNat 0 - ns.getD i.toNat 0))
    simp only [Int.toNat_natCast] at e2
    rw [← e2]
    refine sumR_eq n fun j hj => ?_
    rw [prl_at (by omega)]
    show _ * ((prl fs ms).getD j 0 - (prl ns ms).getD j 0) = _
    rw [prl_at (by omega), prl_at (by omega)]
/-! ### the set that lacks most -/
def lkL (g : Int) (bs : List Int) : List Int := (List.range bs.length).map fun k => R g (k + 1) - SS bs (k + 1)
theorem lkL_len (g : Int) (bs : List Int) : (lkL g bs).length = bs.length := by simp [lkL]
theorem lkL_take (g : Int) (bs : List Int) (i : Nat) (h : i < bs.length) : (lkL g bs).take (i + 1) = (lkL g bs).take i ++ [R g (i + 1) - SS bs (i + 1)] := by
  unfold lkL
  rw [← List.map_take, ← List.map_take, List.take_range, List.take_range, Nat.min_eq_left (by omega), Nat.min_eq_left (by omega), List.range_succ, List.map_append]
  rfl
theorem lkL_at (g : Int) (bs : List Int) (i : Nat) (h : i < bs.length) : (lkL g bs).getD i 0 = R g (i + 1) - SS bs (i + 1) := by
  rw [getD_at' (by rw [lkL_len]; exact h)]
  simp [lkL]
theorem lkL_max {g m : Int} {bs : List Int} (h : ∀ y ∈ lkL g bs, y ≤ m) : ∀ k, 1 ≤ k → k ≤ bs.length → R g k - SS bs k ≤ m := fun k h1 h2 =>
  h _ (List.mem_map.mpr ⟨k - 1, List.mem_range.mpr (by omega), by rw [show k - 1 + 1 = k by omega]⟩)
/-- among these senders: a set that lacks most, none if none lacks -/
def WkS (g : Int) (ns am W : List Int) : Prop := (W = [] ∨ GoodS ns.length W) ∧ (∀ i ∈ W, i ∈ am) ∧ IsMost g (am.map fun i : Int => ns.getD i.toNat 0) (lackOf g ns W)
theorem wk_none {g m : Int} {ns am : List Int} (h : ∀ y ∈ lkL g (am.map fun i : Int => ns.getD i.toNat 0), y ≤ m) (hm : m ≤ 0) : WkS g ns am [] := by
  have e : lackOf g ns [] = 0 := by
    unfold lackOf selSum
    simp [R]
  refine ⟨.inl rfl, fun i hi => (nomatch hi), ?_⟩
  rw [e]
  refine ⟨Int.le_refl _, fun k h1 h2 => ?_, .inl rfl⟩
  have := lkL_max h k h1 h2
  omega
theorem wk_some {g : Int} {ns am os W : List Int} {k : Nat} (hk : k < am.length) (hm : ∀ y ∈ lkL g (am.map fun i : Int => ns.getD i.toNat 0), y ≤ (lkL g (am.map fun i : Int => ns.getD i.toNat 0)).getD k 0) (h0 : 0 < (lkL g (am.map fun i : Int => ns.getD i.toNat 0)).getD k 0)
    (po : os.Perm am) (so : os.Pairwise (KLe (byBal ns))) (nd : am.Nodup) (ha : ∀ i ∈ am, 0 ≤ i ∧ i < (ns.length : Int)) (hl : am.length ≤ 40) (pW : W.Perm (os.take (k + 1))) (sW : W.Pairwise (· ≤ ·)) : WkS g ns am W := by
  have ho := po.length_eq
  have hWl : W.length = k + 1 := by
    rw [pW.length_eq, List.length_take]
    omega
  have ein : ∀ i ∈ W, i ∈ am := fun i hi => po.mem_iff.mp (List.mem_of_mem_take (pW.mem_iff.mp hi))
  have es : os.map (fun i : Int => ns.getD i.toNat 0) = srt (am.map fun i : Int => ns.getD i.toNat 0) := by
    refine srt_eq (po.map _) (List.pairwise_map.mpr (so.imp fun {a b} h => ?_))
    unfold KLe byBal at h
    simp only at h
    omega
  have e1 : selSum ns W = SS (am.map fun i : Int => ns.getD i.toNat 0) (k + 1) := by
    unfold selSum SS
    rw [← es, ← List.map_take]
    exact perm_sum (pW.map _)
  have e2 : lackOf g ns W = (lkL g (am.map fun i : Int => ns.getD i.toNat 0)).getD k 0 := by
    rw [lkL_at g _ k (by rw [List.length_map]; exact hk)]
    unfold lackOf
    rw [hWl, e1]
  have ndW : W.Nodup := pW.nodup_iff.mpr ((po.nodup_iff.mpr nd).sublist (List.take_sublist _ _))
  refine ⟨.inr ⟨fun z => by rw [z] at hWl; simp at hWl, by omega, (sW.and ndW).imp fun {a b} h => by have := h.1; have := h.2; omega, fun i hi => ha i (ein i hi)⟩, ein, ?_⟩
  rw [e2]
  refine ⟨by omega, lkL_max hm, .inr ⟨k + 1, by omega, by rw [List.length_map]; omega, ?_⟩⟩
  rw [lkL_at g _ k (by rw [List.length_map]; exact hk)]
/-- the one weakest set -/
def WkD (g : Int) (ns am W : List Int) : Prop := (W = [] ∧ ∀ y ∈ lkL g (am.map fun i : Int => ns.getD i.toNat 0), y ≤ 0) ∨ ∃ (os : List Int) (k : Nat), os.Perm am ∧ os.Pairwise (KLe (byBal ns)) ∧ k < am.length ∧
  (∀ y ∈ lkL g (am.map fun i : Int => ns.getD i.toNat 0), y ≤ (lkL g (am.map fun i : Int => ns.getD i.toNat 0)).getD k 0) ∧ 0 < (lkL g (am.map fun i : Int => ns.getD i.toNat 0)).getD k 0 ∧
  (∀ i, i < k → (lkL g (am.map fun i : Int => ns.getD i.toNat 0)).getD i 0 ≠ (lkL g (am.map fun i : Int => ns.getD i.toNat 0)).getD k 0) ∧ W.Perm (os.take (k + 1)) ∧ W.Pairwise (· ≤ ·)
theorem bal_uniq {ns ms ls : List Int} (p : ms.Perm ls) (h1 : ms.Pairwise (KLe (byBal ns))) (h2 : ls.Pairwise (KLe (byBal ns))) : ms = ls :=
  p.eq_of_pairwise (fun a b _ _ h1 h2 => by
    unfold KLe byBal at h1 h2
    simp only at h1 h2
    omega) h1 h2
theorem srt_uniq {a b : List Int} (p : a.Perm b) (h1 : a.Pairwise (· ≤ ·)) (h2 : b.Pairwise (· ≤ ·)) : a = b := p.eq_of_pairwise (fun a b _ _ h1 h2 => by omega) h1 h2
theorem lkL_in {g : Int} {ns am : List Int} {k : Nat} (h : k < am.length) : (lkL g (am.map fun i : Int => ns.getD i.toNat 0)).getD k 0 ∈ lkL g (am.map fun i : Int => ns.getD i.toNat 0) := by
  rw [getD_at' (by rw [lkL_len, List.length_map]; exact h)]
  exact List.getElem_mem _
theorem WkD.uniq {g : Int} {ns am W W' : List Int} (h : WkD g ns am W) (h' : WkD g ns am W') : W = W' := by
  rcases h with ⟨rfl, z⟩ | ⟨os, k, p, s, hk, m, pos, fst, pW, sW⟩ <;> rcases h' with ⟨rfl, z'⟩ | ⟨os', k', p', s', hk', m', pos', fst', pW', sW'⟩
  · rfl
  · have := z _ (lkL_in (g := g) (ns := ns) hk')
    omega
  · have := z' _ (lkL_in (g := g) (ns := ns) hk)
    omega
  · obtain rfl := bal_uniq (p.trans p'.symm) s s'
    have a1 := m _ (lkL_in (g := g) (ns := ns) hk')
    have a2 := m' _ (lkL_in (g := g) (ns := ns) hk)
    have ek : k = k' := by
      rcases Nat.lt_trichotomy k k' with c | c | c
      · have := fst' k c
        omega
      · exact c
      · have := fst k' c
        omega
    subst ek
    exact srt_uniq (pW.trans pW'.symm) sW sW'
def sp_weakest_set (K : PySem.W.Frag) (T : List (Addr × Str)) : Sp := fun vs H Q _ => ∃ (p q : Addr) (ns am : List Int) (g : Int), vs = [.ref p, .int g, .ref q] ∧ SqT K H p (ns.map V.int) ∧ H q = some (.lst (am.map V.int)) ∧ 1 ≤ am.length ∧ am.length ≤ 40 ∧ am.Nodup ∧ (∀ i ∈ am, 0 ≤ i ∧ i < (ns.length : Int)) ∧ 1 ≤ g ∧ Tabs T H ∧
  ∀ t H' (W : List Int), Kt T H H' → H' t = some (.tup (W.map V.int)) → WkS g ns am W → WkD g ns am W → Q (.ref t) H'
theorem ok_weakest_set {f : Addr} {fd : FuncData} {k : Nat} {T : List (Addr × Str)} (F : Fun K "weakest_set" "weakest_set" s_weakest_set f fd) (m_max : mg "max" = none) (m_zip : mg "zip" = none) (m_len : mg "len" = none) (m_tuple : mg "tuple" = none) (m_sorted : mg "sorted" = none)
    (C_poorest_first : Cl P w K mg base CX0 4 "poorest_first" 2 (sp_poorest_first K T)) (C_sums : Cl P w K mg base CX0 1 "sums" 1 (sp_sums K)) (C_thresholds : Cl P w K mg base CX0 1 "thresholds" 2 (sp_thresholds K)) :
    FnG P w K mg base CX0 (k + 5) f fd ["balances", "budget", "among"] (sp_weakest_set K T) := by
  refine ok0 F sc_weakest_set (fun vs H Q E h => ?_) (fun cdv A outer s H vs Q E gd hr h => ?_)
  · obtain ⟨p, q, ns, am, g, rfl, _⟩ := h
    rfl
  · obtain ⟨p, q, ns, am, g, rfl, hp, hq, hl1, hl, nd, ha, hg, hT, qq⟩ := h
    refine ⟨_, (pss_cons (ps_set (i := 3) sc_weakest_set.nd rfl (.inl rfl) (pe_cl C_poorest_first (hr.mono (by omega)) gd pass0 (by rfl) (pa_cons (pv 0) (pa_cons (pv 2) pa_nil))))
      (pss_cons (ps_set (i := 4) sc_weakest_set.nd rfl (.inl rfl) (pe_cl C_sums (hr.mono (by omega)) gd pass0 (by rfl) (pa_cons (pe_lcW (own := [("at", 9)]) (g := (gName 9)) rfl sc_weakest_set.nd (pi_list (pv 2)) (blkOk_by (own := [("at", 9)]) (N := ["balances", "budget", "among", "order", "held", "lacks", "most", "need", "have", "at"]) (sc := defScope s_weakest_set) (by decide +kernel)) (fun _ _ _ _ _ => (pg_name (i := 9) sc_weakest_set.nd rfl (.inl rfl))) (fun _ _ _ _ _ => pts_nil) (fun _ _ _ _ _ => (pe_ix (ix_tiK (K := K) rfl) (pv 0) (pv 9) (fun _ _ => rfl)))) pa_nil)))
      (pss_cons (ps_setLcW (i := 5) (own := [("need", 7), ("have", 8)]) (g := (gTup K 2 (gCons (gName 7) (gCons (gName 8) gNil)))) rfl sc_weakest_set.nd rfl rfl (sw_true rfl rfl rfl (by decide +kernel)) (RZ.pi_zipA (by rfl) m_zip (pa_cons (pe_cl C_thresholds (hr.mono (by omega)) gd pass0 (by rfl) (pa_cons (pe_callB (call_len_seqK (K := K) rfl) (by rfl) m_len (by decide +kernel) (pa_cons (pv 4) pa_nil)) (pa_cons (pv 1) pa_nil))) (pa_cons (pv 4) pa_nil))) (blkOk_by (own := [("need", 7), ("have", 8)]) (N := ["balances", "budget", "among", "order", "held", "lacks", "most", "need", "have", "at"]) (sc := defScope s_weakest_set) (by decide +kernel)) (fun _ _ _ _ _ => (pg_tup rfl (pgs_cons (pg_name (i := 7) sc_weakest_set.nd rfl (.inl rfl)) (pgs_cons (pg_name (i := 8) sc_weakest_set.nd rfl (.inl rfl)) pgs_nil)))) (fun _ _ _ _ _ => pts_nil) (fun _ _ _ _ _ => (pe_op op_sub (pv 7) (pv 8))))
      (pss_cons (ps_set (i := 6) sc_weakest_set.nd rfl (.inl rfl) (pe_callB (cr_maxK (K := K) rfl rfl) (by rfl) m_max (by decide +kernel) (pa_cons (pv 5) pa_nil)))
      (pss_cons (ps_if (pt_cmpR op_le (pv 6) pe_int (nomark _))
      (pss_one (ps_ret (pe_ti pa_nil)))
      pss_nil)
      (pss_one (ps_ret (pe_callTy (call_tupLK (K := K) rfl) (by rfl) m_tuple (by decide +kernel) (pa_cons (pe_callB (cr_srtLK (K := K) rfl) (by rfl) m_sorted (by decide +kernel) (pa_cons (pe_slice (sl_liToK (K := K) rfl) (pv 3) po_none (po_some (pe_op op_add (pe_bm PySem.F.plainAttrs_list PySem.F.slot_list_index PySem.F.type_list_index (mt_indexI (K := K) rfl) (pv 5) (pa_cons (pv 6) pa_nil)) pe_int))) pa_nil)) pa_nil))))))))), ?_⟩
    refine ⟨_, rfl, _, rfl, p, q, ns, am, rfl, hp, sqL hq, by omega, ha, hT, fun l H1 os k1 nl h1 po so => ?_⟩
    have hp1 := k1.tup0 hp
    have hq1 := k1.atL hq
    have zq : ∀ {D : Addr}, H1 D = none → q ≠ D := fun nD => ne_of_none hq1 nD
    refine ⟨_, rfl, q, rfl, ⟨_, sqL hq1⟩, _, _, _, walk_li (ns := am), small1000 (by omega), fun D H2 nD k2 hD => ?_⟩
    refine ⟨fun i acc H3 => acc = ((am.take i).map fun i : Int => ns.getD i.toNat 0).map V.int ∧ Kp [] H1 H3 ∧ SqT K H3 p (ns.map V.int) ∧ SqL K H3 q (am.map V.int), ⟨rfl, k2, k2.tup0 hp1, k2.lst0 (sqL hq1)⟩, fun _ _ _ _ ⟨_, _, _, z⟩ => z, ?_, ?_⟩
    · rintro i acc x _ H3 hi ⟨ea, k3, hp3, hq3⟩ hD3 ⟨rfl, rfl⟩
      have hi2 : i < am.length := hi
      have hWi := all_get ha hi2
      refine ⟨rfl, yesT ?_⟩
      refine ⟨_, rfl, _, rfl, p, ns, _, rfl, rfl, hp3, hWi, hD3, fun H4 m4 h4 => ?_⟩
      refine ⟨?_, k3.md (.inl nD) m4, m4.kp.tup1 hD3 hp3, m4.kp.lst1 (zq nD) hq3⟩
      · rw [List.take_add_one, List.getElem?_eq_getElem hi2, List.map_append, List.map_append, ea, List.getD_eq_getElem?_getD (l := am), List.getElem?_eq_getElem hi2]
        rfl
    rintro acc H3 _ hD3 ⟨ea, k3, hp3, hq3⟩
    rw [List.take_of_length_le (Nat.le_refl _)] at ea
    subst ea
    have hal : (am.map fun i : Int => ns.getD i.toNat 0).length = am.length := List.length_map _
    have h13 := k3.at0 h1
    generalize ebs : (am.map fun i : Int => ns.getD i.toNat 0) = bs at hal hD3
    have ol : (own bs).length = bs.length := by
      unfold own
      rw [psums_len, srt_len]
    refine ⟨D, bs, rfl, .inl (sqL hD3), by omega, fun t H4 k4 h4 => ?_⟩
    have k4 := k3.trans k4
    have hp4 := k4.tup0 hp1
    refine ⟨_, rfl, t, _, rfl, .inr h4, _, rfl, bs.length, g, ?_, by omega, fun r H5 nr k5 hr5 => ?_⟩
    · rw [List.length_map, ol]
      rfl
    have h5 := k5.tup0 h4
    have k5 := k4.trans k5
    refine ⟨_, rfl, r, t, _, _, rfl, .inr ⟨sqT hr5, h5, _, _, _, walk_zipT (ns := rows g bs.length) (ms := own bs) (n := bs.length) (by rw [rows_len, ol]; omega), small1000 (by omega), fun E H6 nE k6 hE => ?_⟩⟩
    refine ⟨fun i acc H7 => ∃ rs : List Int, acc = rs.map V.int ∧ rs = (lkL g bs).take i ∧ Kp [] H1 H7 ∧ SqT K H7 r ((rows g bs.length).map V.int) ∧ SqT K H7 t ((own bs).map V.int), ⟨[], rfl, rfl, k5.trans k6, k6.tup0 (sqT hr5), k6.tup0 h5⟩, fun _ _ _ _ ⟨_, _, _, _, z1, z2⟩ => ⟨z1, z2⟩, ?_, ?_⟩
    · rintro i acc x H7 H8 hi ⟨rs, ea, er, k7, tp, td⟩ hE2 ⟨T0, rfl, nT, kT, hT0⟩
      have hE3 := kT.at0 hE2
      refine ⟨T0, _, rfl, sqT hT0, rfl, _, _, rfl, _, _, rfl, rfl, rfl, yesT ?_⟩
      refine ⟨_, rfl, _, rfl, _, _, rfl, rfl, hE3, fun H9 m9 h9 => ?_⟩
      refine ⟨rs ++ [_], by rw [List.map_append, ea]; rfl, ?_, (k7.trans kT).md (.inl (k5.free0 nE)) m9, m9.kp.tup1 hE3 (kT.tup0 tp), m9.kp.tup1 hE3 (kT.tup0 td)⟩
      rw [lkL_take g bs i hi, er, rows_get g _ i hi, own_at bs i hi]
      rfl
    rintro acc H7 _ hE2 ⟨rs, ea, er, k7, _, _⟩
    subst ea
    rw [List.take_of_length_le (by rw [lkL_len]; exact Nat.le_refl _)] at er
    subst er
    have hpos : 0 < (lkL g bs).length := by rw [lkL_len]; omega
    refine ⟨_, rfl, E, _, rfl, sqL hE2, hpos, fun m hm1 hm2 => ?_⟩
    rw [← ebs] at hm1 hm2 hE2 hpos
    refine ⟨_, rfl, _, _, rfl, rfl, _, rfl, ?_⟩
    by_cases c : m ≤ 0
    · refine ifYes (c := m ≤ 0) c ?_
      refine ⟨[], rfl, Nat.zero_le _, fun u H8 nu k8 h8 => ?_⟩
      exact qq u H8 [] ((k1.kp k7).kp k8) h8 (wk_none hm2 c) (.inl ⟨rfl, fun y hy => Int.le_trans (hm2 y hy) c⟩)
    · refine ifNo (c := m ≤ 0) c ?_
      have hl7 := (k7.at0 h1)
      have lm : (lkL g (am.map fun i : Int => ns.getD i.toNat 0)).length = am.length := by rw [lkL_len, List.length_map]
      refine ⟨_, rfl, _, rfl, .inl ⟨rfl, _, sqL hE2⟩, _, rfl, E, _, m, rfl, rfl, sqL hE2, hm1, fun j hj ej hfst => ?_⟩
      refine ⟨_, _, rfl, rfl, _, rfl, l, os, _, rfl, rfl, rfl, sqL hl7, show (0 : Int) ≤ (j : Int) + 1 by omega, fun s4 H8 n4 k8 h8 => ?_⟩
      have h8 : H8 s4 = some (.lst ((os.take ((j : Int) + 1).toNat).map V.int)) := h8
      rw [show ((j : Int) + 1).toNat = j + 1 by omega] at h8
      refine ⟨s4, os.take (j + 1), rfl, sqL h8, fun W pW sW s5 H9 n5 k9 h9 => ?_⟩
      refine ⟨s5, _, rfl, sqL h9, fun s6 H10 n6 k10 h10 => ?_⟩
      refine qq s6 H10 W ((((k1.kp k7).kp k8).kp k9).kp k10) h10 (wk_some (k := j) (by omega) (by rw [ej]; exact hm2) (by rw [ej]; omega) po so nd ha hl pW sW) (.inr ⟨os, j, po, so, by omega, by rw [ej]; exact hm2, by rw [ej]; omega, by rw [ej]; exact hfst, pW, sW⟩)
/-! ### dicts of rows -/
def psumT (f : List Int → Int) (ps : List (List Int × Int)) : Int := (ps.map fun p => p.2 * f p.1).sum
theorem lookT_mem {ps : List (List Int × Int)} {k : List Int} {v : Int} (h : lookT ps k = some v) : (k, v) ∈ ps := by
  unfold lookT at h
  cases e : ps.find? fun p => decide (p.1 = k) with
  | none => rw [e] at h; cases h
  | some p =>
    rw [e] at h
    have e1 := List.find?_some e
    have e2 := List.mem_of_find?_eq_some e
    have e3 : p.1 = k := of_decide_eq_true e1
    have e4 : p.2 = v := Option.some.inj h
    rw [← e3, ← e4]
    exact e2
theorem lookT_none {ps : List (List Int × Int)} {k : List Int} (h : k ∉ ps.map (·.1)) : lookT ps k = none := by
  unfold lookT
  rw [List.find?_eq_none.mpr]
  · rfl
  · intro p hp z
    exact h (List.mem_map.mpr ⟨p, hp, of_decide_eq_true z⟩)
theorem lookT_at {ps : List (List Int × Int)} {k : List Int} {v : Int} (nd : (ps.map (·.1)).Nodup) (h : (k, v) ∈ ps) : lookT ps k = some v := by
  cases e : lookT ps k with
  | none =>
    unfold lookT at e
    rw [Option.map_eq_none_iff, List.find?_eq_none] at e
    exact absurd (decide_eq_true rfl) (e _ h)
  | some u =>
    have h2 := lookT_mem e
    have : ∀ {ps : List (List Int × Int)}, (ps.map (·.1)).Nodup → (k, u) ∈ ps → (k, v) ∈ ps → u = v := by
      intro ps
      induction ps with
      | nil => intro _ z; exact nomatch z
      | cons p ps ih =>
        intro nd a b
        rw [List.map_cons, List.nodup_cons] at nd
        rcases List.mem_cons.mp a with a | a <;> rcases List.mem_cons.mp b with b | b
        · have := a.trans b.symm
          exact (Prod.mk.inj this).2
        · exact absurd (List.mem_map.mpr ⟨_, b, rfl⟩) (by rw [← a] at nd; exact nd.1)
        · exact absurd (List.mem_map.mpr ⟨_, a, rfl⟩) (by rw [← b] at nd; exact nd.1)
        · exact ih nd.2 a b
    rw [this nd h2 h]
theorem putT_mem {ps : List (List Int × Int)} {k : List Int} {v : Int} {x : List Int × Int} (h : x ∈ putT ps k v) : x ∈ ps ∨ x = (k, v) := by
  unfold putT at h
  split at h
  · obtain ⟨p, hp, e⟩ := List.mem_map.mp h
    split at e
    · next z => right; rw [← e, z]
    · left; rw [← e]; exact hp
  · rcases List.mem_append.mp h with h | h
    · exact .inl h
    · exact .inr (List.mem_singleton.mp h)
theorem putT_nd {ps : List (List Int × Int)} {k : List Int} {v : Int} (nd : (ps.map (·.1)).Nodup) : ((putT ps k v).map (·.1)).Nodup := by
  unfold putT
  split
  · rw [List.map_map]
    rw [show ((fun p : List Int × Int => p.1) ∘ fun p => if p.1 = k then (p.1, v) else p) = fun p => p.1 by funext p; simp only [Function.comp]; split <;> rfl]
    exact nd
  · next h =>
    rw [List.map_append, List.nodup_append]
    refine ⟨nd, by simp, fun a ha b hb z => ?_⟩
    rw [List.map_singleton, List.mem_singleton] at hb
    exact h (by have hb : b = k := hb; rw [← hb, ← z]; exact ha)
theorem putT_sum (f : List Int → Int) {k : List Int} {v : Int} : ∀ {ps : List (List Int × Int)}, (ps.map (·.1)).Nodup → psumT f (putT ps k v) = psumT f ps + (v - (lookT ps k).getD 0) * f k := by
  intro ps nd
  by_cases c : k ∈ ps.map (·.1)
  · obtain ⟨⟨k2, u⟩, hp, e⟩ := List.mem_map.mp c
    have e : k2 = k := e
    subst e
    have hl := lookT_at nd hp
    rw [hl]
    unfold putT
    rw [if_pos c]
    show _ = _ + (v - u) * f k2
    have go : ∀ {qs : List (List Int × Int)}, (qs.map (·.1)).Nodup → (k2, u) ∈ qs → psumT f (qs.map fun p => if p.1 = k2 then (p.1, v) else p) = psumT f qs + (v - u) * f k2 := by
      intro qs
      induction qs with
      | nil => intro _ z; exact nomatch z
      | cons q qs ih =>
        intro nd hm
        rw [List.map_cons, List.nodup_cons] at nd
        unfold psumT at ih ⊢
        rw [List.map_cons, List.map_cons, List.map_cons, List.sum_cons, List.sum_cons]
        rcases List.mem_cons.mp hm with z | z
        · subst z
          have h2 : (qs.map fun p => if p.1 = k2 then (p.1, v) else p) = qs := by
            conv => rhs; rw [← List.map_id qs]
            refine List.map_congr_left fun p hp => ?_
            rw [if_neg]
            · rfl
            · intro z
              exact nd.1 (List.mem_map.mpr ⟨p, hp, z⟩)
          rw [h2, if_pos rfl]
          show v * f k2 + _ = u * f k2 + _ + _
          rw [Int.sub_mul]
          omega
        · rw [ih nd.2 z, if_neg (fun w => nd.1 (List.mem_map.mpr ⟨_, z, w.symm⟩))]
          omega
    exact go nd hp
  · rw [lookT_none c]
    unfold putT psumT
    rw [if_neg c, List.map_append, List.sum_append]
    simp
/-! ### falls -/
/-- the rows, as they come about -/
def foldF (ps : List Int) (Ws : List (List Int)) : Nat → List (List Int × Int)
  | 0 => []
  | i + 1 => if ps.getD (i + 1) 0 < ps.getD i 0 ∧ Ws.getD i [] ≠ [] then putT (foldF ps Ws i) (Ws.getD i []) ((lookT (foldF ps Ws i) (Ws.getD i [])).getD 0 + ps.getD i 0 - ps.getD (i + 1) 0) else foldF ps Ws i
/-- the rows so far -/
structure Fs (ps : List Int) (Ws : List (List Int)) (i : Nat) (es : List (List Int × Int)) : Prop where
  nd : (es.map (·.1)).Nodup
  ok : ∀ e ∈ es, e.1 ∈ Ws ∧ e.1 ≠ [] ∧ 1 ≤ e.2 ∧ e.2 ≤ ps.getD 0 0 - ps.getD i 0
  ln : es.length ≤ i
  sm : ∀ f : List Int → Int, f [] = 0 → psumT f es = sumR i fun j => (ps.getD j 0 - ps.getD (j + 1) 0) * f (Ws.getD j [])
  eq : es = foldF ps Ws i
theorem Fs.zero (ps : List Int) (Ws : List (List Int)) : Fs ps Ws 0 [] := ⟨List.nodup_nil, (fun _ z => nomatch z), Nat.le_refl _, fun _ _ => rfl, rfl⟩
theorem Fs.skip {ps : List Int} {Ws : List (List Int)} {i : Nat} {es : List (List Int × Int)} (h : Fs ps Ws i es) (ha : ps.getD (i + 1) 0 ≤ ps.getD i 0) (hs : ps.getD i 0 ≤ ps.getD (i + 1) 0 ∨ Ws.getD i [] = []) : Fs ps Ws (i + 1) es := by
  refine ⟨h.nd, fun e he => ?_, Nat.le_succ_of_le h.ln, fun f hf => ?_, by rw [foldF, if_neg (fun z => hs.elim (fun a => absurd z.1 (by omega)) (fun a => z.2 a))]; exact h.eq⟩
  · obtain ⟨a, b, c, d⟩ := h.ok e he
    exact ⟨a, b, c, by omega⟩
  · rw [sumR_succ, h.sm f hf]
    rcases hs with z | z
    · rw [show ps.getD i 0 - ps.getD (i + 1) 0 = 0 by omega]
      omega
    · rw [z, hf]
      omega
theorem Fs.put {ps : List Int} {Ws : List (List Int)} {i : Nat} {es : List (List Int × Int)} (h : Fs ps Ws i es) (hi : i < Ws.length) (hp : ps.getD (i + 1) 0 < ps.getD i 0) (hn : Ws.getD i [] ≠ []) (h0 : ps.getD i 0 ≤ ps.getD 0 0) :
    Fs ps Ws (i + 1) (putT es (Ws.getD i []) ((lookT es (Ws.getD i [])).getD 0 + ps.getD i 0 - ps.getD (i + 1) 0)) := by
  have hv : 0 ≤ (lookT es (Ws.getD i [])).getD 0 ∧ (lookT es (Ws.getD i [])).getD 0 ≤ ps.getD 0 0 - ps.getD i 0 := by
    cases e : lookT es (Ws.getD i []) with
    | none =>
      show 0 ≤ (0 : Int) ∧ (0 : Int) ≤ _
      omega
    | some v =>
      obtain ⟨_, _, c, d⟩ := h.ok _ (lookT_mem e)
      show 0 ≤ v ∧ v ≤ _
      exact ⟨by omega, d⟩
  refine ⟨putT_nd h.nd, fun e he => ?_, Nat.le_trans (putT_len _ _ _) (Nat.succ_le_succ h.ln), fun f hf => ?_, by rw [foldF, if_pos ⟨hp, hn⟩, ← h.eq]⟩
  · rcases putT_mem he with z | rfl
    · obtain ⟨a, b, c, d⟩ := h.ok e z
      exact ⟨a, b, c, by omega⟩
    · refine ⟨?_, hn, by omega, by omega⟩
      rw [List.getD_eq_getElem?_getD, List.getElem?_eq_getElem hi]
      exact List.getElem_mem hi
  · rw [putT_sum f h.nd, sumR_succ, h.sm f hf]
    congr 2
    omega
def swp (es : List (List Int × Int)) : List (Int × List Int) := es.map fun e => (e.2, e.1)
theorem Fs.falls {ps : List Int} {Ws : List (List Int)} {es : List (List Int × Int)} (h : Fs ps Ws Ws.length es) : Falls ps Ws (swp es) := fun f hf => by
  rw [← h.sm f hf]
  unfold rsum psumT swp
  rw [List.map_map]
  rfl
theorem lockKp {H H' : Hp} {d : Addr} {od : Obj} {u : HO} (h : H d = some u) (k : Kp [] (upd H d (.frz od u)) H') : Kp [] H (upd H' d u) := fun b o n e => by
  by_cases c : b = d
  · subst c
    rw [upd_same, ← e, h]
  · rw [upd_ne c]
    exact k b o n (by rw [upd_ne c]; exact e)
theorem swp_take (es : List (List Int × Int)) (i : Nat) (h : i < es.length) : (swp es).take (i + 1) = (swp es).take i ++ [((es.getD i ([], 0)).2, (es.getD i ([], 0)).1)] := by
  unfold swp
  rw [List.take_add_one, List.getElem?_map, List.getElem?_eq_getElem h, List.getD_eq_getElem?_getD, List.getElem?_eq_getElem h]
  rfl
def sp_rows_of_falls (K : PySem.W.Frag) (T : List (Addr × Str)) : Sp := fun vs H Q _ => ∃ (w q : Addr) (ws : List Int) (xs : List V) (Ws : List (List Int)), vs = [.ref w, .ref q] ∧ SqT K H w (ws.map V.int) ∧ H q = some (.lst xs) ∧ Rt H xs Ws ∧ Ws.length = ws.length ∧ 1 ≤ ws.length ∧ ws.length ≤ 40 ∧ (∀ x ∈ ws, 0 ≤ x) ∧ Tabs T H ∧
  ∀ t H' (ms : List Int) (ys : List V) (rs : List (Int × List Int)), Kt T H H' → Nt H t → H' t = some (.tup ys) → Rr H' ys rs → ms.Perm (upto ws.length) → ms.Pairwise (KLe (byPr ws)) → Falls (prl ws ms) Ws rs → rs = swp (foldF (prl ws ms) Ws Ws.length) → (rs.map (·.2)).Nodup → (∀ r ∈ rs, r.2 ∈ Ws ∧ r.2 ≠ [] ∧ 1 ≤ r.1 ∧ r.1 ≤ (prl ws ms).getD 0 0) → rs.length ≤ 40 → Q (.ref t) H'
theorem ok_rows_of_falls {f : Addr} {fd : FuncData} {k : Nat} {T : List (Addr × Str)} (F : Fun K "rows_of_falls" "rows_of_falls" s_rows_of_falls f fd) (m_zip : mg "zip" = none) (m_tuple : mg "tuple" = none)
    (C_dearest_first : Cl P w K mg base CX0 4 "dearest_first" 1 (sp_dearest_first K T)) :
    FnG P w K mg base CX0 (k + 5) f fd ["prices", "groups"] (sp_rows_of_falls K T) := by
  refine ok0 F sc_rows_of_falls (fun vs H Q E h => ?_) (fun cdv A outer s H vs Q E gd hr h => ?_)
  · obtain ⟨wa, q, ws, xs, Ws, rfl, _⟩ := h
    rfl
  · obtain ⟨wa, q, ws, xs, Ws, rfl, hw, hq, hX, hWl, hl1, hl, h0, hT, qq⟩ := h
    refine ⟨_, (pss_cons (ps_setLcW (i := 2) (own := [("sender", 7)]) (g := (gName 7)) rfl sc_rows_of_falls.nd rfl rfl (sw_true rfl rfl rfl (by decide +kernel)) (pi_list (pe_cl C_dearest_first (hr.mono (by omega)) gd pass0 (by rfl) (pa_cons (pv 0) pa_nil))) (blkOk_by (own := [("sender", 7)]) (N := ["prices", "groups", "ordered", "rows", "senders", "price", "following", "sender", "multiplier"]) (sc := defScope s_rows_of_falls) (by decide +kernel)) (fun _ _ _ _ _ => (pg_name (i := 7) sc_rows_of_falls.nd rfl (.inl rfl))) (fun _ _ _ _ _ => pts_nil) (fun _ _ _ _ _ => (pe_ix (ix_tiK (K := K) rfl) (pv 0) (pv 7) (fun _ _ => rfl))))
      (pss_cons (ps_set (i := 3) sc_rows_of_falls.nd rfl (.inl rfl) pe_dnewT)
      (pss_cons (ps_forW PassesOwn.never rfl (pi_z3 (K := K) true true true rfl (by rfl) m_zip (pa_cons (pv 1) (pa_cons (pv 2) (pa_cons (pe_op op_catI (pe_slice (sl_liFrom (K := K) rfl) (pv 2) (po_some pe_int) po_none) (pe_li (pa_cons pe_int pa_nil))) pa_nil)))) (pg_tup rfl (pgs_cons (pg_name (i := 4) sc_rows_of_falls.nd rfl (.inl rfl)) (pgs_cons (pg_name (i := 5) sc_rows_of_falls.nd rfl (.inl rfl)) (pgs_cons (pg_name (i := 6) sc_rows_of_falls.nd rfl (.inl rfl)) pgs_nil))))
      (pss_one (ps_if (pt_up (PW.pt (pw_and (pt_cmpR op_gt (pv 5) (pv 6) (nomark _)) (pw_and1 (pt_cmpR (op_neTIK (K := K) rfl hr) (pv 4) (pe_ti pa_nil) (nomark _))))))
      (pss_one (ps_dput (hu1 hr) (pv 3) (pv 4) (pe_op op_sub (pe_op op_add (pe_dget2 (hu1 hr) (pv 3) (pv 4) pe_int ⟨rfl, rfl, rfl, rfl⟩) (pv 5)) (pv 6)) rfl))
      pss_nil)))
      (pss_one (ps_ret (pe_callTy (call_tupLK (K := K) rfl) (by rfl) m_tuple (by decide +kernel) (pa_cons (pe_lock (pe_lcW (own := [("senders", 4), ("multiplier", 8)]) (g := (gTup K 2 (gCons (gName 4) (gCons (gName 8) gNil)))) rfl sc_rows_of_falls.nd (pi_itemsT (pv 3)) (blkOk_by (own := [("senders", 4), ("multiplier", 8)]) (N := ["prices", "groups", "ordered", "rows", "senders", "price", "following", "sender", "multiplier"]) (sc := defScope s_rows_of_falls) (by decide +kernel)) (fun _ _ _ _ _ => (pg_tup rfl (pgs_cons (pg_name (i := 4) sc_rows_of_falls.nd rfl (.inl rfl)) (pgs_cons (pg_name (i := 8) sc_rows_of_falls.nd rfl (.inl rfl)) pgs_nil)))) (fun _ _ _ _ _ => pts_nil) (fun _ _ _ _ _ => (pe_ta (pa_cons (pv 8) (pa_cons (pv 4) pa_nil)))))) pa_nil))))))), ?_⟩
    refine ⟨_, rfl, wa, ws, rfl, hw, by omega, hT, fun l H1 ms k1 nl h1 pm sm => ?_⟩
    have hq1 := k1.atL hq
    have hw1 := k1.tup0 hw
    have hX1 := hX.kt k1
    have ml : ms.length = ws.length := by rw [pm.length_eq, upto_len]
    refine ⟨l, rfl, ⟨_, sqL h1⟩, _, _, _, walk_li (ns := ms), small1000 (by omega), fun D H2 nD k2 hD => ?_⟩
    refine ⟨fun i acc H3 => acc = (prl ws (ms.take i)).map V.int ∧ Kp [] H1 H3 ∧ SqT K H3 wa (ws.map V.int) ∧ SqL K H3 l (ms.map V.int), ⟨rfl, k2, k2.tup0 hw1, k2.lst0 (sqL h1)⟩, fun _ _ _ _ ⟨_, _, _, z⟩ => z, ?_, ?_⟩
    · rintro i acc x _ H3 hi ⟨ea, k3, hw3, hl3⟩ hD3 ⟨rfl, rfl⟩
      obtain ⟨j, ej, hj⟩ := order_at pm hi
      refine ⟨rfl, yesT ?_⟩
      refine ⟨_, rfl, _, rfl, wa, ws, _, rfl, rfl, hw3, ⟨by omega, by omega⟩, hD3, fun H4 m4 h4 => ?_⟩
      refine ⟨?_, k3.md (.inl nD) m4, m4.kp.tup1 hD3 hw3, m4.kp.lst1 (ne_of_none h1 nD) hl3⟩
      unfold prl at ea ⊢
      have hi2 : i < ms.length := hi
      rw [List.take_add_one, List.getElem?_eq_getElem hi2, List.map_append, List.map_append, ea, List.getD_eq_getElem?_getD (l := ms), List.getElem?_eq_getElem hi2]
      rfl
    rintro acc H3 _ hD3 ⟨ea, k3, hw3, hl3⟩
    rw [List.take_of_length_le (Nat.le_refl _)] at ea
    subst ea
    have pl : (prl ws ms).length = ws.length := by unfold prl; rw [List.length_map, ml]
    have anti : ∀ j, (prl ws ms).getD (j + 1) 0 ≤ (prl ws ms).getD j 0 := fun j => prl_anti h0 sm j
    have first : ∀ j, (prl ws ms).getD j 0 ≤ (prl ws ms).getD 0 0 := fun j => by
      induction j with
      | zero => exact Int.le_refl _
      | succ j ih => have := anti j; omega
    generalize eps : prl ws ms = ps at hD3 pl anti first
    have hq3 := k3.at0 hq1
    have hX3 := hX1.kp0 k3
    have k3 := k1.kp k3
    -- rows = {}
    refine fun d nd => ?_
    have zd : Nt H d := k3.nt0 nd
    have nDd : D ≠ d := ne_of_none hD3 nd
    have nqd : q ≠ d := ne_of_none hq3 nd
    have k4 : Kp [] H3 (upd H3 d (.dT [])) := Kp.new nd
    generalize eH4 : upd H3 d (.dT []) = H4 at k4
    have hd4 : H4 d = some (.dT (embT [])) := by rw [← eH4]; exact upd_same
    refine (show tSeq _ _ _ _ H4 from ?_)
    have hD4 := k4.at0 hD3
    have hq4 := k4.at0 hq3
    have hX4 := hX3.kp0 k4
    have k4 := k3.kp k4
    refine ⟨_, rfl, _, rfl, _, rfl, _, rfl, D, ps, _, rfl, rfl, rfl, sqL hD4, by decide, fun u H5 nu k5 h5 => ?_⟩
    refine ⟨[0], rfl, by decide, fun u2 H6 nu2 k6 h6 => ?_⟩
    refine ⟨u, u2, _, [0], rfl, rfl, k6.at0 h5, h6, ?_, fun u3 H7 nu3 k7 h7 => ?_⟩
    · exact Nat.le_trans (show (ps.drop (1 : Int).toNat).length + 1 ≤ 100 by rw [List.length_drop]; omega) (Nat.le_of_ble_eq_true rfl)
    have k47 := (k5.trans k6).trans k7
    have hd7 := k47.at0 hd4
    have hD7 := k47.at0 hD4
    have hq7 := k47.at0 hq4
    have hX7 := hX4.kp0 k47
    have k7 := k4.kp k47
    have nud : u3 ≠ d := ne_of h7 hd7 (fun z => nomatch z)
    have dl : ∀ i, i < ps.length → (ps.drop (1 : Int).toNat ++ [0]).getD i 0 = ps.getD (i + 1) 0 := fun i hi => by
      have e1 : (1 : Int).toNat = 1 := rfl
      rw [e1]
      by_cases c : i + 1 < ps.length
      · rw [List.getD_eq_getElem?_getD, List.getElem?_append_left (by rw [List.length_drop]; omega), List.getElem?_drop, ← List.getD_eq_getElem?_getD, Nat.add_comm 1 i]
      · rw [List.getD_eq_getElem?_getD, List.getElem?_append_right (by rw [List.length_drop]; omega), List.length_drop, show i - (ps.length - 1) = 0 by omega, getD_out (show ps.length ≤ i + 1 by omega)]
        rfl
    have xl := hX.len
    refine ⟨q, xs, D, _, u3, _, rfl, sqL hq7, sqL hD7, sqL h7, _, _, _, walk_z3V (xs := xs) (ms := ps) (ls := ps.drop (1 : Int).toNat ++ [0]) (n := Ws.length) ?_, fun i σ H8 => ∃ (es : List (List Int × Int)) (y4 y5 y6 y7 y8 : Option V), σ = [some (.ref wa), some (.ref q), some (.ref D), some (.ref d), y4, y5, y6, y7, y8] ∧ Kt T H H8 ∧ H8 d = some (.dT (embT es)) ∧ Fs ps Ws i es ∧ H8 q = some (.lst xs) ∧ Rt H8 xs Ws ∧ IL H8 D ps ∧ IL H8 u3 (ps.drop (1 : Int).toNat ++ [0]),
      ⟨[], _, _, _, _, _, rfl, k7, hd7, Fs.zero ps Ws, hq7, hX7, hD7, h7⟩, fun _ _ _ _ ⟨_, _, _, _, _, _, _, _, _, _, z1, _, z2, z3⟩ => ⟨sqL z1, sqL z2, sqL z3⟩, ?_, ?_⟩
    · rw [List.length_append, List.length_drop, xl, pl, show (1 : Int).toNat = 1 from rfl, List.length_singleton]
      omega
    · rintro i x σ H8 H9 hi ⟨es, y4, y5, y6, y7, y8, rfl, k8, hd8, hF, hq8, hX8, hD8, hu8⟩ ⟨Tt, y, ey, rfl, nT, kT, hT9⟩
      obtain ⟨b, rfl, hib, hb8⟩ := hX8.get ey
      rw [dl i (by omega)] at hT9
      refine ⟨Tt, _, rfl, sqT hT9, rfl, _, _, rfl, _, _, rfl, _, _, rfl, rfl, ?_⟩
      have hb9 := kT.at0 hb8
      have hd9 := kT.at0 hd8
      refine ⟨fun c H10 => c = decide (ps.getD (i + 1) 0 < ps.getD i 0 ∧ Ws.getD i [] ≠ []) ∧ Kp [] H9 H10, ?_, fun c H10 ⟨ec, k10⟩ => ?_⟩
      · refine ⟨_, rfl, _, rfl, _, _, rfl, rfl, _, rfl, ?_⟩
        by_cases c : ps.getD (i + 1) 0 < ps.getD i 0
        · refine ifYes (c := ps.getD (i + 1) 0 < ps.getD i 0) c ?_
          refine ⟨_, rfl, [], rfl, Nat.zero_le _, fun e0 H10 ne0 k10 he0 => ?_⟩
          refine ⟨b, e0, Ws.getD i [], [], rfl, rfl, sqT (k10.at0 hb9), sqT he0, _, rfl, ?_⟩
          refine ⟨?_, k10⟩
          by_cases e : Ws.getD i [] = []
          · rw [decide_eq_true e, decide_eq_false (fun z => z.2 e)]
            rfl
          · rw [decide_eq_false e, decide_eq_true ⟨c, e⟩]
            rfl
        · refine ifNo (c := ps.getD (i + 1) 0 < ps.getD i 0) c ?_
          exact ⟨(decide_eq_false fun z => c z.1).symm, Kp.refl⟩
      · rw [ec]
        have kT' := kT.trans k10
        have hd10 := k10.at0 hd9
        have hb10 := k10.at0 hb9
        have hq10 := kT'.at0 hq8
        have hX10 := hX8.kp0 kT'
        have hD10 := kT'.at0 hD8
        have hu10 := kT'.at0 hu8
        have k8' := k8.kp kT'
        by_cases c : ps.getD (i + 1) 0 < ps.getD i 0 ∧ Ws.getD i [] ≠ []
        · refine ifYes c ?_
          have el : ((lookT es (Ws.getD i [])).map V.int).getD (.int 0) = V.int ((lookT es (Ws.getD i [])).getD 0) := by
            cases lookT es (Ws.getD i []) <;> rfl
          refine ⟨_, rfl, d, rfl, .inr ⟨_, .inl hd10⟩, _, rfl, _, dget_ti hd10 hb10, _, rfl, _, _, el, rfl, _, rfl, _, _, rfl, rfl, _, rfl, _, rfl, d, _, rfl, dput_ti hd10 hb10 ?_, ?_⟩
          · exact Nat.lt_of_le_of_lt (show es.length ≤ 40 by have := hF.ln; omega) (Nat.lt_of_lt_of_le (Nat.lt_succ_self 40) (Nat.le_of_ble_eq_true rfl))
          · have m : Md d H10 (upd H10 d (.dT (embT (putT es (Ws.getD i []) ((lookT es (Ws.getD i [])).getD 0 + ps.getD i 0 - ps.getD (i + 1) 0))))) := Md.upd
            refine ⟨_, _, _, _, _, _, rfl, k8'.ownO zd hd10 (fun _ w => nomatch w) (fun _ w => nomatch w) m.kp, upd_same, hF.put hi c.1 c.2 (first i), ?_, hX10.md hd10 (fun _ w => nomatch w) m, ?_, ?_⟩
            · exact (m q nqd).trans hq10
            · exact (m D nDd).trans hD10
            · exact (m u3 nud).trans hu10
        · refine ifNo c ?_
          refine ⟨es, _, _, _, _, _, rfl, k8', hd10, hF.skip (anti i) ?_, hq10, hX10, hD10, hu10⟩
          by_cases e : Ws.getD i [] = []
          · exact .inr e
          · exact .inl (by have : ¬ ps.getD (i + 1) 0 < ps.getD i 0 := fun z => c ⟨z, e⟩; omega)
    · rintro σ H8 ⟨es, y4, y5, y6, y7, y8, rfl, k8, hd8, hF, _, _, _, _⟩
      refine ⟨d, _, hd8, trivial, fun od => ?_⟩
      have kf : (upd H8 d (.frz od (.dT (embT es)))) d = some (.frz od (.dT (embT es))) := upd_same
      generalize eH9 : upd H8 d (.frz od (.dT (embT es))) = H9 at kf
      refine ⟨_, rfl, d, od, embT es, rfl, kf, _, _, _, walk_itemsT (ps := es) (n := es.length) rfl, small1000 (by have := hF.ln; omega), fun D2 H10 nD2 k10 hD2 => ?_⟩
      refine ⟨fun i acc H11 => Rr H11 acc ((swp es).take i) ∧ Kp [] H9 H11, ⟨.nil, k10⟩, fun _ _ _ _ ⟨_, z⟩ => z.at0 kf, ?_, ?_⟩
      · rintro i acc x H11 H12 hi ⟨hR, k11⟩ hD11 ⟨Tt, b, rfl, nT, hb, kT, hT12⟩
        have hD12 := kT.at0 hD11
        refine ⟨Tt, _, rfl, sqT hT12, rfl, _, _, rfl, _, _, rfl, rfl, rfl, yesT ?_⟩
        refine ⟨_, rfl, _, rfl, Nat.le_of_ble_eq_true rfl, fun u4 H13 n13 k13 h13 => ?_⟩
        have hD13 := k13.at0 hD12
        refine ⟨hD13, fun H14 m14 h14 => ?_⟩
        have kTT := kT.trans k13
        refine ⟨?_, (k11.trans kTT).md (.inl nD2) m14⟩
        rw [swp_take es i hi]
        exact (hR.kp0 kTT |>.mdl hD13 m14).app (.one ((m14 u4 (fun z => by rw [z, hD13] at h13; cases h13)).trans h13) ((m14 b (fun z => by rw [z, hD11] at hb; cases hb)).trans (kTT.at0 hb)))
      rintro acc H11 _ hD11 ⟨hR, k11⟩
      have hdf := k11.at0 kf
      refine ⟨hdf, ?_⟩
      have k12 : Kp [] H8 (upd H11 d (.dT (embT es))) := lockKp (od := od) hd8 (by rw [eH9]; exact k11)
      have m12 : Md d H11 (upd H11 d (.dT (embT es))) := Md.upd
      have hR12 : Rr (upd H11 d (.dT (embT es))) acc (swp es) := by
        have := hR.md hdf (fun _ w => nomatch w) m12
        rw [List.take_of_length_le (by unfold swp; rw [List.length_map]; exact Nat.le_refl _)] at this
        exact this
      have hD12 : (upd H11 d (.dT (embT es))) D2 = some (.lst acc) := (m12 D2 (ne_of hD11 hdf (fun z => nomatch z))).trans hD11
      generalize upd H11 d (.dT (embT es)) = H12 at k12 hR12 hD12
      refine ⟨D2, acc, rfl, sqL hD12, fun t H13 nt k13 ht => ?_⟩
      have hf := hF.falls
      rw [← eps] at hf hF
      refine qq t H13 ms acc (swp es) ((k8.kp k12).kp k13) ((k8.kp k12).nt0 nt) ht (hR12.kp0 k13) pm sm hf (congrArg swp hF.eq) ?_ (fun r hr => ?_) ?_
      · unfold swp
        rw [List.map_map]
        exact hF.nd
      · unfold swp at hr
        obtain ⟨e, he, rfl⟩ := List.mem_map.mp hr
        obtain ⟨a1, a2, a3, a4⟩ := hF.ok e he
        have := getD_nn (ws := prl ws ms) (fun x hx => by
          unfold prl at hx
          obtain ⟨y, _, rfl⟩ := List.mem_map.mp hx
          exact getD_nn h0 _) Ws.length
        exact ⟨a1, a2, a3, by omega⟩
      · unfold swp
        rw [List.length_map]
        have := hF.ln
        omega
/-! ### what rows carry -/
theorem getRow {rs : List (Int × List Int)} {i : Nat} (h : i < rs.length) : rs.getD i (0, []) ∈ rs := by
  rw [List.getD_eq_getElem?_getD, List.getElem?_eq_getElem h]
  exact List.getElem_mem h
def ldL (n : Nat) (rs : List (Int × List Int)) : List Int := (List.range n).map fun i : Nat => rsum (ind (i : Int)) rs
def addL (fs : List Int) (m : Int) (W : List Int) : List Int := W.foldl (fun f s => f.set s.toNat (f.getD s.toNat 0 + m)) fs
theorem ldL_len (n : Nat) (rs : List (Int × List Int)) : (ldL n rs).length = n := by simp [ldL]
theorem ldL_at {n i : Nat} (rs : List (Int × List Int)) (h : i < n) : (ldL n rs).getD i 0 = rsum (ind (i : Int)) rs := by
  rw [getD_at' (by rw [ldL_len]; exact h)]
  simp [ldL]
theorem addL_len (m : Int) : ∀ (W fs : List Int), (addL fs m W).length = fs.length
  | [], _ => rfl
  | s :: W, fs => by
    show (addL (fs.set s.toNat (fs.getD s.toNat 0 + m)) m W).length = _
    rw [addL_len m W, List.length_set]
theorem addL_at (m : Int) : ∀ (W fs : List Int), W.Nodup → (∀ i ∈ W, 0 ≤ i ∧ i < (fs.length : Int)) → ∀ i : Nat, i < fs.length → (addL fs m W).getD i 0 = fs.getD i 0 + m * ind (i : Int) W
  | [], fs, _, _, i, _ => by
    show fs.getD i 0 = _
    simp [ind]
  | s :: W, fs, nd, hb, i, hi => by
    rw [List.nodup_cons] at nd
    have hs := hb s List.mem_cons_self
    show (addL (fs.set s.toNat (fs.getD s.toNat 0 + m)) m W).getD i 0 = _
    rw [addL_at m W _ nd.2 (fun j hj => by rw [List.length_set]; exact hb j (List.mem_cons_of_mem _ hj)) i (by rw [List.length_set]; exact hi)]
    by_cases c : (i : Int) = s
    · have e1 : s.toNat = i := by omega
      rw [e1, List.getD_eq_getElem?_getD (l := fs.set _ _), List.getElem?_set_self hi]
      unfold ind
      rw [if_neg (by rw [c]; exact nd.1), if_pos (by rw [c]; exact List.mem_cons_self)]
      show fs.getD i 0 + m + _ = _
      omega
    · rw [List.getD_eq_getElem?_getD (l := fs.set _ _), List.getElem?_set_ne (by omega), ← List.getD_eq_getElem?_getD]
      unfold ind
      by_cases d : (i : Int) ∈ W
      · rw [if_pos d, if_pos (List.mem_cons_of_mem _ d)]
      · rw [if_neg d, if_neg (fun z => by rcases List.mem_cons.mp z with w | w; exact c w; exact d w)]
theorem addL_ld {n : Nat} {rs : List (Int × List Int)} {m : Int} {W : List Int} (h : GoodS n W) : addL (ldL n rs) m W = ldL n (rs ++ [(m, W)]) := by
  have nd : W.Nodup := h.2.2.1.imp fun {a b} h => by omega
  refine List.ext_getElem (by rw [addL_len, ldL_len, ldL_len]) fun i h1 h2 => ?_
  have hi : i < n := by rw [ldL_len] at h2; exact h2
  rw [← getD_at' h1, ← getD_at' h2, ldL_at _ hi, addL_at m W _ nd (by rw [ldL_len]; exact h.2.2.2) i (by rw [ldL_len]; exact hi), ldL_at _ hi, rsum_app]
  unfold rsum
  simp
theorem addL_take {fs W : List Int} {m : Int} {j : Nat} (hj : j < W.length) : addL fs m (W.take (j + 1)) = (addL fs m (W.take j)).set (W.getD j 0).toNat ((addL fs m (W.take j)).getD (W.getD j 0).toNat 0 + m) := by
  unfold addL
  rw [List.take_add_one, List.getElem?_eq_getElem hj, List.foldl_append, getD_at' hj]
  rfl
/-! ### rows -/
def sp_is_row (K : PySem.W.Frag) : Sp := fun vs H Q _ => ∃ (t u : Addr) (m : Int) (W : List Int) (n : Nat), vs = [.ref t, .int (n : Int)] ∧ H t = some (.tup [.int m, .ref u]) ∧ H u = some (.tup (W.map V.int)) ∧ GoodS n W ∧ 1 ≤ m ∧ ∀ H', Kp [] H H' → Q (.bl true) H'
theorem ok_is_row {f : Addr} {fd : FuncData} {k : Nat} (F : Fun K "is_row" "is_row" s_is_row f fd) (m_isinstance : mg "isinstance" = none) (m_tuple : mg "tuple" = none) (m_len : mg "len" = none)
    (C_is_integer : Cl P w K mg base CX0 1 "is_integer" 1 (sp_is_integer K)) (C_is_senders : Cl P w K mg base CX0 3 "is_senders" 2 (sp_is_senders K)) :
    FnG P w K mg base CX0 (k + 4) f fd ["thing", "count"] (sp_is_row K) := by
  refine ok0 F sc_is_row (fun vs H Q E h => ?_) (fun cdv A outer s H vs Q E gd hr h => ?_)
  · obtain ⟨t, u, m, W, n, rfl, _⟩ := h
    rfl
  · obtain ⟨t, u, m, W, n, rfl, ht, hu, hG, hm, q⟩ := h
    have hts : SqT K H t [V.int m, .ref u] := sqT ht
    refine ⟨_, (pss_cons (ps_if (PW.pt (pw_or (pt_not (pt_val (pe_callB (call_isiB (K := K) rfl) (by rfl) m_isinstance (by decide +kernel) (pa_cons (pv 0) (pa_cons (pe_bltn (v := .ty "tuple") (by rfl) m_tuple rfl rfl) pa_nil))))) (pw_or1 (pt_cmpR op_ne (pe_callB (call_len_seqK (K := K) rfl) (by rfl) m_len (by decide +kernel) (pa_cons (pv 0) pa_nil)) pe_int (nomark _)))))
      (pss_one (ps_ret pe_bl))
      pss_nil)
      (pss_cons (ps_asg (pv 0) (pg_tup rfl (pgs_cons (pg_name (i := 2) sc_is_row.nd rfl (.inl rfl)) (pgs_cons (pg_name (i := 3) sc_is_row.nd rfl (.inl rfl)) pgs_nil))))
      (pss_one (ps_ret (pe_and (pe_cl C_is_integer (hr.mono (by omega)) gd pass0 (by rfl) (pa_cons (pv 2) pa_nil)) (pe_and (pe_cmpR op_ge (pv 2) pe_int (nomark _)) (pe_one (pe_cl C_is_senders (hr.mono (by omega)) gd pass0 (by rfl) (pa_cons (pv 3) (pa_cons (pv 1) pa_nil)))))))))), ?_⟩
    refine ⟨_, rfl, _, _, _, _, rfl, ty_tup hts, kit_tt, _, rfl, iteF ?_⟩
    refine ⟨_, rfl, t, _, rfl, .inr hts, rfl, _, rfl, ?_⟩
    refine (show if (!decide (V.int ((2 : Nat) : Int) = V.int 2)) = true then _ else _ from iteNS rfl ?_)
    refine ⟨_, rfl, t, _, rfl, hts, rfl, _, _, rfl, _, _, rfl, rfl, ?_⟩
    refine ⟨_, rfl, .int m, rfl, .int m, _, rfl, iteT ?_⟩
    refine ⟨_, rfl, _, _, rfl, rfl, _, rfl, ifYes (c := 1 ≤ m) hm ?_⟩
    exact ⟨_, rfl, _, rfl, u, W, n, rfl, sqT hu, hG, q⟩
def sp_is_rows (K : PySem.W.Frag) : Sp := fun vs H Q _ => ∃ (t : Addr) (xs : List V) (rs : List (Int × List Int)) (n : Nat), vs = [.ref t, .int (n : Int)] ∧ SqT K H t xs ∧ Rr H xs rs ∧ RowsOk n rs ∧ rs.length < 64 ∧ ∀ H', Kp [] H H' → Q (.bl true) H'
theorem ok_is_rows {f : Addr} {fd : FuncData} {k : Nat} (F : Fun K "is_rows" "is_rows" s_is_rows f fd) (m_isinstance : mg "isinstance" = none) (m_tuple : mg "tuple" = none) (m_len : mg "len" = none) (m_all : mg "all" = none) (m_set : mg "set" = none)
    (C_is_row : Cl P w K mg base CX0 4 "is_row" 2 (sp_is_row K)) :
    FnG P w K mg base CX0 (k + 5) f fd ["thing", "count"] (sp_is_rows K) := by
  refine ok0 F sc_is_rows (fun vs H Q E h => ?_) (fun cdv A outer s H vs Q E gd hr h => ?_)
  · obtain ⟨t, xs, rs, n, rfl, _⟩ := h
    rfl
  · obtain ⟨t, xs, rs, n, rfl, ht, hX, hO, hl, q⟩ := h
    have xl := hX.len
    refine ⟨_, (pss_cons (ps_if (PW.pt (pw_or (pt_not (pt_val (pe_callB (call_isiB (K := K) rfl) (by rfl) m_isinstance (by decide +kernel) (pa_cons (pv 0) (pa_cons (pe_bltn (v := .ty "tuple") (by rfl) m_tuple rfl rfl) pa_nil))))) (pw_or1 (pt_not (pt_val (pe_callB (cr_allK (K := K) rfl rfl) (by rfl) m_all (by decide +kernel) (pa_cons (pe_lcW (own := [("row", 5)]) (g := (gName 5)) rfl sc_is_rows.nd (pi_tup (pv 0)) (blkOk_by (own := [("row", 5)]) (N := ["thing", "count", "groups", "multiplier", "senders", "row"]) (sc := defScope s_is_rows) (by decide +kernel)) (fun _ _ _ _ _ => (pg_name (i := 5) sc_is_rows.nd rfl (.inl rfl))) (fun _ _ _ _ _ => pts_nil) (fun _ _ _ _ _ => (pe_cl C_is_row (hr.mono (by omega)) gd pass0 (by rfl) (pa_cons (pv 5) (pa_cons (pv 1) pa_nil))))) pa_nil)))))))
      (pss_one (ps_ret pe_bl))
      pss_nil)
      (pss_cons (ps_setLcW (i := 2) (own := [("multiplier", 3), ("senders", 4)]) (g := (gTup K 2 (gCons (gName 3) (gCons (gName 4) gNil)))) rfl sc_is_rows.nd rfl rfl (sw_true rfl rfl rfl (by decide +kernel)) (pi_tup (pv 0)) (blkOk_by (own := [("multiplier", 3), ("senders", 4)]) (N := ["thing", "count", "groups", "multiplier", "senders", "row"]) (sc := defScope s_is_rows) (by decide +kernel)) (fun _ _ _ _ _ => (pg_tup rfl (pgs_cons (pg_name (i := 3) sc_is_rows.nd rfl (.inl rfl)) (pgs_cons (pg_name (i := 4) sc_is_rows.nd rfl (.inl rfl)) pgs_nil)))) (fun _ _ _ _ _ => pts_nil) (fun _ _ _ _ _ => (pv 4)))
      (pss_one (ps_ret (pe_cmpR op_eq (pe_lenSetT (K := K) rfl rfl (hu64 hr) (by rfl) m_len (by rfl) m_set (pv 2)) (pe_callB (call_len_seqK (K := K) rfl) (by rfl) m_len (by decide +kernel) (pa_cons (pv 2) pa_nil)) (nomark _)))))), ?_⟩
    refine ⟨_, rfl, _, _, _, _, rfl, ty_tup ht, kit_tt, _, rfl, iteF ?_⟩
    refine ⟨_, rfl, t, rfl, ⟨_, ht⟩, _, _, _, walk_tup (xs := xs), small1000 (by omega), fun D H1 nD k1 hD => ?_⟩
    refine ⟨fun i acc H2 => acc = (List.replicate i true).map V.bl ∧ Kp [] H H2 ∧ SqT K H2 t xs, ⟨rfl, k1, k1.tup0 ht⟩, fun _ _ _ _ ⟨_, _, z⟩ => z, ?_, ?_⟩
    · rintro i acc x _ H2 hi ⟨ea, k2, ht2⟩ hD2 ⟨rfl, hx⟩
      obtain ⟨p, u, rfl, hir, hp, hu⟩ := (hX.kp0 k2).get hx
      obtain ⟨h1, h2⟩ := hO.1 _ (getRow hir)
      refine ⟨rfl, yesT ?_⟩
      refine ⟨_, rfl, _, rfl, p, u, _, _, n, rfl, hp, hu, h2, h1, fun H3 k3 => ?_⟩
      have hD3 := k3.at0 hD2
      refine ⟨hD3, fun H4 m4 h4 => ?_⟩
      refine ⟨?_, (k2.trans k3).md (.inl nD) m4, m4.kp.tup1 hD3 (k3.tup0 ht2)⟩
      rw [ea, List.replicate_succ', List.map_append]
      rfl
    rintro acc H2 _ hD2 ⟨ea, k2, ht2⟩
    subst ea
    refine ⟨D, _, rfl, sqL hD2, _, rfl, ?_⟩
    rw [show (List.replicate xs.length true).all id = true by simp]
    refine (show if (!true) = true then _ else _ from iteF ?_)
    -- groups
    refine ⟨_, rfl, t, rfl, ⟨_, ht2⟩, _, _, _, walk_tup (xs := xs), small1000 (by omega), fun D2 H3 nD2 k3 hD3 => ?_⟩
    refine ⟨fun i acc H4 => Rt H4 acc ((rs.map (·.2)).take i) ∧ Kp [] H2 H4 ∧ SqT K H4 t xs, ⟨.nil, k3, k3.tup0 ht2⟩, fun _ _ _ _ ⟨_, _, z⟩ => z, ?_, ?_⟩
    · rintro i acc x _ H4 hi ⟨hR, k4, ht4⟩ hD4 ⟨rfl, hx⟩
      obtain ⟨p, u, rfl, hir, hp, hu⟩ := (hX.kp0 (k2.trans k4)).get hx
      refine ⟨p, _, rfl, sqT hp, rfl, _, _, rfl, _, _, rfl, rfl, rfl, yesT ?_⟩
      refine ⟨_, rfl, hD4, fun H5 m5 h5 => ?_⟩
      refine ⟨?_, k4.md (.inl nD2) m5, m5.kp.tup1 hD4 ht4⟩
      have e1 : (rs.map (·.2)).take (i + 1) = (rs.map (·.2)).take i ++ [(rs.getD i (0, [])).2] := by
        rw [List.take_add_one, List.getElem?_map, List.getElem?_eq_getElem hir, List.getD_eq_getElem?_getD, List.getElem?_eq_getElem hir]
        rfl
      rw [e1]
      exact (hR.mdl hD4 m5).app (.one ((m5 u (fun z => by rw [z, hD4] at hu; cases hu)).trans hu))
    rintro acc H4 _ hD4 ⟨hR, k4, ht4⟩
    rw [List.take_of_length_le (by rw [List.length_map]; omega)] at hR
    have rl : (rs.map (·.2)).length = rs.length := List.length_map _
    have al := hR.len
    refine ⟨_, rfl, D2, acc, _, rfl, sqL hD4, hR, by omega, hO.2, ?_⟩
    refine ⟨_, rfl, D2, _, rfl, .inl (sqL hD4), rfl, ?_⟩
    show Q (.bl (decide (V.int ((rs.map (·.2)).length : Nat) = V.int (acc.length : Nat)))) H4
    rw [decide_eq_true (by rw [al])]
    exact q H4 (k2.trans k4)
def sp_loads (K : PySem.W.Frag) : Sp := fun vs H Q _ => ∃ (t : Addr) (xs : List V) (rs : List (Int × List Int)) (n : Nat), vs = [.ref t, .int (n : Int)] ∧ SqT K H t xs ∧ Rr H xs rs ∧ (∀ r ∈ rs, GoodS n r.2) ∧ rs.length < 64 ∧ n ≤ 40 ∧ ∀ l H', H l = none → Kp [] H H' → IL H' l (ldL n rs) → Q (.ref l) H'
theorem ok_loads {f : Addr} {fd : FuncData} {k : Nat} (F : Fun K "loads" "loads" s_loads f fd) (m_range : mg "range" = none) :
    FnG P w K mg base CX0 (k + 1) f fd ["rows", "count"] (sp_loads K) := by
  refine ok0 F sc_loads (fun vs H Q E h => ?_) (fun cdv A outer s H vs Q E gd hr h => ?_)
  · obtain ⟨t, xs, rs, n, rfl, _⟩ := h
    rfl
  · obtain ⟨t, xs, rs, n, rfl, ht, hX, hG, hl, hn, q⟩ := h
    have xl := hX.len
    refine ⟨_, (pss_cons (ps_setLcW (i := 3) (own := [("at", 2)]) (g := (gName 2)) rfl sc_loads.nd rfl rfl (sw_true rfl rfl rfl (by decide +kernel)) (pi_range1 (by rfl) m_range (pa_cons (pv 1) pa_nil)) (blkOk_by (own := [("at", 2)]) (N := ["rows", "count", "at", "found", "multiplier", "senders"]) (sc := defScope s_loads) (by decide +kernel)) (fun _ _ _ _ _ => (pg_name (i := 2) sc_loads.nd rfl (.inl rfl))) (fun _ _ _ _ _ => pts_nil) (fun _ _ _ _ _ => pe_int))
      (pss_cons (ps_forW PassesOwn.never rfl (pi_tup (pv 0)) (pg_tup rfl (pgs_cons (pg_name (i := 4) sc_loads.nd rfl (.inl rfl)) (pgs_cons (pg_name (i := 5) sc_loads.nd rfl (.inl rfl)) pgs_nil)))
      (pss_one (ps_forW PassesOwn.never rfl (pi_tup (pv 5)) (pg_name (i := 2) sc_loads.nd rfl (.inl rfl))
      (pss_one (ps_augS (pv 3) (pv 2) (get_li (K := K) rfl) (pv 4) ip_add set_li)))))
      (pss_one (ps_ret (pv 3))))), ?_⟩
    refine ⟨_, rfl, _, rfl, by omega, by omega, _, _, _, walk_rg, small1000 (by omega), fun D H1 nD k1 hD => ?_⟩
    refine ⟨fun i acc H2 => acc = (List.replicate i (0 : Int)).map V.int ∧ Kp [] H H2, ⟨rfl, k1⟩, fun _ _ _ _ _ => trivial, ?_, ?_⟩
    · rintro i acc x _ H2 hi ⟨ea, k2⟩ hD2 ⟨rfl, rfl⟩
      refine ⟨rfl, yesT ?_⟩
      refine ⟨hD2, fun H3 m3 h3 => ⟨?_, k2.md (.inl nD) m3⟩⟩
      rw [ea, List.replicate_succ', List.map_append]
      rfl
    rintro acc H2 _ hD2 ⟨ea, k2⟩
    rw [show ((n : Int)).toNat = n by omega] at ea
    subst ea
    have e0 : List.replicate n (0 : Int) = ldL n [] := by
      refine List.ext_getElem (by rw [List.length_replicate, ldL_len]) fun i h1 h2 => ?_
      simp [ldL, rsum]
    rw [e0] at hD2
    have ht2 := k2.tup0 ht
    have hX2 := hX.kp0 k2
    refine ⟨_, rfl, t, rfl, ⟨_, ht2⟩, _, _, _, walk_tup (xs := xs), fun i σ H3 => ∃ (y2 y4 y5 : Option V), σ = [some (.ref t), some (.int (n : Int)), y2, some (.ref D), y4, y5] ∧ Kp [] H H3 ∧ IL H3 D (ldL n (rs.take i)) ∧ SqT K H3 t xs ∧ Rr H3 xs rs,
      ⟨_, _, _, rfl, k2, hD2, ht2, hX2⟩, fun _ _ _ _ ⟨_, _, _, _, _, _, z, _⟩ => z, ?_, ?_⟩
    · rintro i x σ _ H3 hi ⟨y2, y4, y5, rfl, k3, hD3, ht3, hX3⟩ ⟨rfl, hx⟩
      obtain ⟨p, u, rfl, hir, hp, hu⟩ := hX3.get hx
      have hg := hG _ (getRow hir)
      have edr : rs.take (i + 1) = rs.take i ++ [rs.getD i (0, [])] := by
        rw [List.take_add_one, List.getElem?_eq_getElem hir, List.getD_eq_getElem?_getD, List.getElem?_eq_getElem hir]
        rfl
      generalize rs.getD i (0, []) = row at hp hu hg edr
      obtain ⟨m, W⟩ := row
      refine ⟨p, _, rfl, sqT hp, rfl, _, _, rfl, _, _, rfl, rfl, ?_⟩
      refine ⟨_, rfl, u, rfl, ⟨_, sqT hu⟩, _, _, _, walk_ti (ns := W), fun j σ H4 => ∃ (y2 : Option V), σ = [some (.ref t), some (.int (n : Int)), y2, some (.ref D), some (.int m), some (.ref u)] ∧ Kp [] H H4 ∧ IL H4 D (addL (ldL n (rs.take i)) m (W.take j)) ∧ SqT K H4 t xs ∧ Rr H4 xs rs ∧ H4 u = some (.tup (W.map V.int)),
        ⟨_, rfl, k3, hD3, ht3, hX3, hu⟩, fun _ _ _ _ ⟨_, _, _, _, _, _, z⟩ => sqT z, ?_, ?_⟩
      · rintro j x σ _ H4 hj ⟨y2, rfl, k4, hD4, ht4, hX4, hu4⟩ ⟨rfl, rfl⟩
        have hb := all_get hg.2.2.2 hj
        have ll : (addL (ldL n (rs.take i)) m (W.take j)).length = n := by rw [addL_len, ldL_len]
        refine ⟨_, rfl, _, rfl, D, _, _, rfl, rfl, sqL hD4, ⟨hb.1, by rw [ll]; exact hb.2⟩, _, rfl, _, _, rfl, rfl, D, _, _, _, rfl, rfl, rfl, hD4, ⟨hb.1, by rw [ll]; exact hb.2⟩, fun H5 m5 h5 => ?_⟩
        rw [← addL_take hj] at h5
        exact ⟨_, rfl, k4.md (.inl nD) m5, h5, m5.kp.tup1 hD4 ht4, hX4.mdl hD4 m5, (m5 u (fun z => by rw [z, hD4] at hu4; cases hu4)).trans hu4⟩
      · rintro σ H4 ⟨y2, rfl, k4, hD4, ht4, hX4, hu4⟩
        rw [List.take_of_length_le (Nat.le_refl _), addL_ld hg, ← edr] at hD4
        exact ⟨_, _, _, rfl, k4, hD4, ht4, hX4⟩
    · rintro σ H3 ⟨y2, y4, y5, rfl, k3, hD3, ht3, hX3⟩
      rw [List.take_of_length_le (by omega)] at hD3
      exact ⟨_, rfl, q D H3 nD k3 hD3⟩
/-! ### lower -/
theorem ext_getD {as bs : List (List Int)} (hl : as.length = bs.length) (h : ∀ j, j < as.length → as.getD j [] = bs.getD j []) : as = bs := by
  refine List.ext_getElem hl fun j h1 h2 => ?_
  have := h j h1
  rw [List.getD_eq_getElem?_getD, List.getD_eq_getElem?_getD, List.getElem?_eq_getElem h1, List.getElem?_eq_getElem h2] at this
  exact this
def LowD (g : Int) (ns ws : List Int) (rs : List (Int × List Int)) : Prop := ∃ (ms : List Int) (Ws : List (List Int)), ms.Perm (upto ns.length) ∧ ms.Pairwise (KLe (byPr ws)) ∧ Ws.length = ns.length ∧ (∀ j, j < ms.length → WkD g ns (ms.take (j + 1)) (Ws.getD j [])) ∧ rs = swp (foldF (prl ws ms) Ws Ws.length)
theorem LowD.uniq {g : Int} {ns ws : List Int} {rs rs' : List (Int × List Int)} (h : LowD g ns ws rs) (h' : LowD g ns ws rs') : rs = rs' := by
  obtain ⟨ms, Ws, p, s, l, w, rfl⟩ := h
  obtain ⟨ms', Ws', p', s', l', w', rfl⟩ := h'
  obtain rfl := order_uniq (p.trans p'.symm) s s'
  have ml := p.length_eq
  rw [upto_len] at ml
  have e : Ws = Ws' := ext_getD (by omega) fun j hj => (w j (by omega)).uniq (w' j (by omega))
  rw [e]
/-- rows within the prices that lack together what some safe balances above cost -/
def LowB (g : Int) (ns ws : List Int) (rs : List (Int × List Int)) : Prop := RowsOk ns.length rs ∧ (∀ i : Nat, i < ns.length → rsum (ind (i : Int)) rs ≤ ws.getD i 0) ∧ rs.length ≤ 40 ∧ (∀ B : Int, (∀ x ∈ ws, x ≤ B) → ∀ r ∈ rs, r.1 ≤ B) ∧
  ∃ fs : List Int, fs.length = ns.length ∧ gapOf g fs = none ∧ (∀ i, i < ns.length → ns.getD i 0 ≤ fs.getD i 0) ∧ rsum (lackOf g ns) rs = dot ws ns fs
def sp_lower_bound (K : PySem.W.Frag) (T : List (Addr × Str)) : Sp := fun vs H Q _ => ∃ (p w : Addr) (ns ws : List Int) (g : Int), vs = [.ref p, .ref w, .int g] ∧ SqT K H p (ns.map V.int) ∧ SqT K H w (ws.map V.int) ∧ ws.length = ns.length ∧ 1 ≤ ns.length ∧ ns.length ≤ 40 ∧ 1 ≤ g ∧ (∀ x ∈ ws, 0 ≤ x) ∧ Tabs T H ∧
  ∀ t H' (ys : List V) (rs : List (Int × List Int)), Kt T H H' → Nt H t → H' t = some (.tup ys) → Rr H' ys rs → LowB g ns ws rs → LowD g ns ws rs → Q (.ref t) H'
theorem ok_lower_bound {f : Addr} {fd : FuncData} {k : Nat} {T : List (Addr × Str)} (F : Fun K "lower_bound" "lower_bound" s_lower_bound f fd) (m_range : mg "range" = none) (m_len : mg "len" = none)
    (C_dearest_first : Cl P w K mg base CX0 4 "dearest_first" 1 (sp_dearest_first K T)) (C_weakest_set : Cl P w K mg base CX0 5 "weakest_set" 3 (sp_weakest_set K T)) (C_rows_of_falls : Cl P w K mg base CX0 5 "rows_of_falls" 2 (sp_rows_of_falls K T)) :
    FnG P w K mg base CX0 (k + 6) f fd ["balances", "prices", "budget"] (sp_lower_bound K T) := by
  refine ok0 F sc_lower_bound (fun vs H Q E h => ?_) (fun cdv A outer s H vs Q E gd hr h => ?_)
  · obtain ⟨p, wa, ns, ws, g, rfl, _⟩ := h
    rfl
  · obtain ⟨p, wa, ns, ws, g, rfl, hp, hw, wl, hl1, hl, hg, h0, hT, q⟩ := h
    refine ⟨_, (pss_cons (ps_set (i := 3) sc_lower_bound.nd rfl (.inr rfl) (pe_cl C_dearest_first (hr.mono (by omega)) gd pass0 (by rfl) (pa_cons (pv 1) pa_nil)))
      (pss_cons (ps_setLcW (i := 4) (own := [("at", 5)]) (g := (gName 5)) rfl sc_lower_bound.nd rfl rfl (sw_true rfl rfl rfl (by decide +kernel)) (pi_range1 (by rfl) m_range (pa_cons (pe_callB (call_len_seqK (K := K) rfl) (by rfl) m_len (by decide +kernel) (pa_cons (pv 3) pa_nil)) pa_nil)) (blkOk_by (own := [("at", 5)]) (N := ["balances", "prices", "budget", "order", "groups", "at"]) (sc := defScope s_lower_bound) (by decide +kernel)) (fun _ _ _ _ _ => (pg_name (i := 5) sc_lower_bound.nd rfl (.inl rfl))) (fun _ _ _ _ _ => pts_nil) (fun _ _ _ _ _ => (pe_cl C_weakest_set (hr.mono (by omega)) gd pass0 (by rfl) (pa_cons (pv 0) (pa_cons (pv 2) (pa_cons (pe_slice (sl_liToK (K := K) rfl) (pv 3) po_none (po_some (pe_op op_add (pv 5) pe_int))) pa_nil))))))
      (pss_one (ps_ret (pe_cl C_rows_of_falls (hr.mono (by omega)) gd pass0 (by rfl) (pa_cons (pv 1) (pa_cons (pv 4) pa_nil))))))), ?_⟩
    refine ⟨_, rfl, wa, ws, rfl, hw, by omega, hT, fun l H1 ms k1 nl h1 pm sm => ?_⟩
    have pm2 := pm
    rw [wl] at pm2
    have ml : ms.length = ns.length := by rw [pm2.length_eq, upto_len]
    have hp1 := k1.tup0 hp
    have hw1 := k1.tup0 hw
    have hT1 := k1.tab hT
    refine ⟨_, rfl, l, _, rfl, .inl (sqL h1), ?_⟩
    rw [List.length_map]
    refine ⟨_, rfl, by omega, by omega, _, _, _, walk_rg, small1000 (by omega), fun D H2 nD k2 hD => ?_⟩
    have zD : Nt H D := k1.nt0 nD
    have ndms : ms.Nodup := pm2.nodup_iff.mpr (upto_nd ns.length)
    have hms : ∀ i ∈ ms, 0 ≤ i ∧ i < (ns.length : Int) := fun i hi => up_mem.mp (pm2.mem_iff.mp hi)
    refine ⟨fun i acc H3 => ∃ Ws : List (List Int), Rt H3 acc Ws ∧ Ws.length = i ∧ (∀ j, j < i → WkS g ns (ms.take (j + 1)) (Ws.getD j []) ∧ WkD g ns (ms.take (j + 1)) (Ws.getD j [])) ∧ Kt T H H3 ∧ H3 l = some (.lst (ms.map V.int)), ⟨[], .nil, rfl, fun j hj => absurd hj (Nat.not_lt_zero j), k1.kp k2, k2.at0 h1⟩, fun _ _ _ _ _ => trivial, ?_, ?_⟩
    · rintro i acc x _ H3 hi ⟨Ws, hR, el, hW, k3, hl3⟩ hD3 ⟨rfl, rfl⟩
      have hi : i < ms.length := by omega
      refine ⟨rfl, yesT ?_⟩
      refine ⟨_, rfl, _, rfl, _, rfl, _, rfl, _, _, rfl, rfl, _, rfl, l, ms, _, rfl, rfl, rfl, sqL hl3, show (0 : Int) ≤ 0 + (i : Int) + 1 by omega, fun s4 H4 n4 k4 h4 => ?_⟩
      have h4 : H4 s4 = some (.lst ((ms.take (0 + (i : Int) + 1).toNat).map V.int)) := h4
      rw [show (0 + (i : Int) + 1).toNat = i + 1 by omega] at h4
      have k4' := k3.kp k4
      have tl : (ms.take (i + 1)).length = i + 1 := by rw [List.length_take]; omega
      refine ⟨p, s4, ns, ms.take (i + 1), g, rfl, k4'.tup0 hp, h4, by omega, by omega, ndms.sublist (List.take_sublist _ _), fun j hj => hms j (List.mem_of_mem_take hj), hg, k4'.tab hT, fun t H5 W k5 h5 hK hKD => ?_⟩
      have hD5 := k5.atL (k4.at0 hD3)
      refine ⟨hD5, fun H6 m6 h6 => ?_⟩
      refine ⟨Ws ++ [W], ((hR.kp0 k4).kt k5 |>.mdl hD5 m6).app (.one ((m6 t (fun z => by rw [z, hD5] at h5; cases h5)).trans h5)), by rw [List.length_append, el]; rfl, fun j hj => ?_, (k4'.trans k5).md zD hD5 m6, (m6 l (ne_of_none h1 nD)).trans (k5.atL (k4.at0 hl3))⟩
      by_cases c : j < i
      · rw [List.getD_eq_getElem?_getD, List.getElem?_append_left (by omega), ← List.getD_eq_getElem?_getD]
        exact hW j c
      · have ej : j = i := by omega
        subst ej
        rw [List.getD_eq_getElem?_getD, List.getElem?_append_right (by omega), el, Nat.sub_self]
        exact ⟨hK, hKD⟩
    rintro acc H3 _ hD3 ⟨Ws, hR, el, hW, k3, hl3⟩
    rw [show ((ms.length : Int)).toNat = ms.length by omega] at el hW
    have el2 : Ws.length = ns.length := by omega
    refine ⟨_, rfl, _, rfl, wa, D, ws, acc, Ws, rfl, k3.tup0 hw, hD3, hR, by omega, by omega, by omega, h0, k3.tab hT, fun t H4 ls ys rs k4 nt ht hRr pl sl hF hfo nd hr hln => ?_⟩
    have els : ls = ms := order_uniq (pl.trans pm.symm) sl sm
    subst els
    refine q t H4 ys rs (k3.trans k4) (k3.nt nt) ht hRr ⟨⟨fun r hr2 => ?_, nd⟩, low_loads hF pm2 sm h0 el2 (fun j hj i hi => (hW j (by omega)).1.2.1 i hi), hln, fun B hB r hr2 => ?_, low_worth hg rfl wl pm2 hF el2 (fun j hj => (hW j (by omega)).1.2.2)⟩ ⟨ls, Ws, pm2, sl, el2, fun j hj => (hW j hj).2, hfo⟩
    · obtain ⟨a1, a2, a3, a4⟩ := hr r hr2
      obtain ⟨j, hj, ej⟩ := List.getElem_of_mem a1
      refine ⟨a3, ?_⟩
      have := (hW j (by omega)).1.1
      rw [List.getD_eq_getElem?_getD, List.getElem?_eq_getElem hj] at this
      have this : Ws[j] = [] ∨ GoodS ns.length Ws[j] := this
      rw [ej] at this
      exact this.resolve_left a2
    · obtain ⟨a1, a2, a3, a4⟩ := hr r hr2
      rw [prl_at (by omega)] at a4
      have := hms (ls.getD 0 0) (by rw [getD_at' (by omega)]; exact List.getElem_mem _)
      rw [getD_at' (show (ls.getD 0 0).toNat < ws.length by omega)] at a4
      exact Int.le_trans a4 (hB _ (List.getElem_mem _))
/-! ### shows_lower_bound, of good rows -/
def sp_shows_lower_bound (K : PySem.W.Frag) : Sp := fun vs H Q _ => ∃ (p w t : Addr) (ns ws : List Int) (g : Int) (av : V) (xs : List V) (rs : List (Int × List Int)), vs = [.ref p, .ref w, .int g, av, .ref t] ∧ Kn K H av ∧ SqT K H p (ns.map V.int) ∧ SqT K H w (ws.map V.int) ∧ ws.length = ns.length ∧ ns.length ≤ 40 ∧ SqT K H t xs ∧ Rr H xs rs ∧ RowsOk ns.length rs ∧ rs.length < 64 ∧ (∀ r ∈ rs, r.1 < 2 ^ 63) ∧
  ∀ H', Kp [] H H' → Q (.bl (decide ((∀ i : Nat, i < ns.length → rsum (ind (i : Int)) rs ≤ ws.getD i 0) ∧ av = .int (rsum (lackOf g ns) rs)))) H'
theorem ok_shows_lower_bound {f : Addr} {fd : FuncData} {k : Nat} (F : Fun K "shows_lower_bound" "shows_lower_bound" s_shows_lower_bound f fd) (m_any : mg "any" = none) (m_len : mg "len" = none) (m_zip : mg "zip" = none) (m_sum : mg "sum" = none)
    (C_is_integer : Cl P w K mg base CX0 1 "is_integer" 1 (sp_is_integer K)) (C_is_rows : Cl P w K mg base CX0 5 "is_rows" 2 (sp_is_rows K)) (C_loads : Cl P w K mg base CX0 1 "loads" 2 (sp_loads K)) (C_slack : Cl P w K mg base CX0 3 "slack" 3 (sp_slack K)) :
    FnG P w K mg base CX0 (k + 6) f fd ["balances", "prices", "budget", "amount", "thing"] (sp_shows_lower_bound K) := by
  refine ok0 F sc_shows_lower_bound (fun vs H Q E h => ?_) (fun cdv A outer s H vs Q E gd hr h => ?_)
  · obtain ⟨p, wa, t, ns, ws, g, av, xs, rs, rfl, _⟩ := h
    rfl
  · obtain ⟨p, wa, t, ns, ws, g, av, xs, rs, rfl, hav, hp, hw, wl, hl, ht, hX, hO, hrl, hB, q⟩ := h
    refine ⟨_, (pss_cons (ps_if (PW.pt (pw_or (pt_not (pt_val (pe_cl C_is_integer (hr.mono (by omega)) gd pass0 (by rfl) (pa_cons (pv 3) pa_nil)))) (pw_or1 (pt_not (pt_val (pe_cl C_is_rows (hr.mono (by omega)) gd pass0 (by rfl) (pa_cons (pv 4) (pa_cons (pe_callB (call_len_seqK (K := K) rfl) (by rfl) m_len (by decide +kernel) (pa_cons (pv 0) pa_nil)) pa_nil))))))))
      (pss_one (ps_ret pe_bl))
      pss_nil)
      (pss_cons (ps_if (pt_val (pe_callB (cr_anyK (K := K) rfl rfl) (by rfl) m_any (by decide +kernel) (pa_cons (pe_lcW (own := [("load", 5), ("price", 6)]) (g := (gTup K 2 (gCons (gName 5) (gCons (gName 6) gNil)))) rfl sc_shows_lower_bound.nd (pi_z2 (K := K) true false rfl (by rfl) m_zip (pa_cons (pe_cl C_loads (hr.mono (by omega)) gd pass0 (by rfl) (pa_cons (pv 4) (pa_cons (pe_callB (call_len_seqK (K := K) rfl) (by rfl) m_len (by decide +kernel) (pa_cons (pv 0) pa_nil)) pa_nil))) (pa_cons (pv 1) pa_nil))) (blkOk_by (own := [("load", 5), ("price", 6)]) (N := ["balances", "prices", "budget", "amount", "thing", "load", "price", "multiplier", "senders"]) (sc := defScope s_shows_lower_bound) (by decide +kernel)) (fun _ _ _ _ _ => (pg_tup rfl (pgs_cons (pg_name (i := 5) sc_shows_lower_bound.nd rfl (.inl rfl)) (pgs_cons (pg_name (i := 6) sc_shows_lower_bound.nd rfl (.inl rfl)) pgs_nil)))) (fun _ _ _ _ _ => pts_nil) (fun _ _ _ _ _ => (pe_cmpR op_gt (pv 5) (pv 6) (nomark _)))) pa_nil)))
      (pss_one (ps_ret pe_bl))
      pss_nil)
      (pss_one (ps_ret (pe_cmpR op_eq (pv 3) (pe_callB (cr_sumK (K := K) rfl rfl) (by rfl) m_sum (by decide +kernel) (pa_cons (pe_lcW (own := [("multiplier", 7), ("senders", 8)]) (g := (gTup K 2 (gCons (gName 7) (gCons (gName 8) gNil)))) rfl sc_shows_lower_bound.nd (pi_tup (pv 4)) (blkOk_by (own := [("multiplier", 7), ("senders", 8)]) (N := ["balances", "prices", "budget", "amount", "thing", "load", "price", "multiplier", "senders"]) (sc := defScope s_shows_lower_bound) (by decide +kernel)) (fun _ _ _ _ _ => (pg_tup rfl (pgs_cons (pg_name (i := 7) sc_shows_lower_bound.nd rfl (.inl rfl)) (pgs_cons (pg_name (i := 8) sc_shows_lower_bound.nd rfl (.inl rfl)) pgs_nil)))) (fun _ _ _ _ _ => pts_nil) (fun _ _ _ _ _ => (pe_op op_mul (pe_un un_neg (pv 7)) (pe_cl C_slack (hr.mono (by omega)) gd pass0 (by rfl) (pa_cons (pv 0) (pa_cons (pv 2) (pa_cons (pv 8) pa_nil))))))) pa_nil)) (nomark _)))))), ?_⟩
    have xl := hX.len
    refine ⟨_, rfl, av, rfl, hav, _, rfl, ?_⟩
    cases av with
    | int a => ?_
    | _ =>
      refine (show if (!false) = true then _ else _ from iteT ?_)
      have := q H Kp.refl
      rw [decide_eq_false (fun z => nomatch z.2)] at this
      exact this
    refine (show if (!true) = true then _ else _ from iteF ?_)
    refine ⟨_, rfl, _, rfl, p, _, rfl, .inr hp, t, xs, rs, ns.length, by rw [List.length_map]; rfl, ht, hX, hO, hrl, fun H1 k1 => ?_⟩
    refine ⟨_, rfl, ?_⟩
    refine (show if (!true) = true then _ else _ from iteF ?_)
    have hp1 := k1.tup0 hp
    refine ⟨_, rfl, _, rfl, p, _, rfl, .inr hp1, t, xs, rs, ns.length, by rw [List.length_map]; rfl, k1.tup0 ht, hX.kp0 k1, fun r hr => (hO.1 r hr).2, hrl, hl, fun l H2 nl k2 h2 => ?_⟩
    have hw2 := (k1.trans k2).tup0 hw
    have k2 := k1.trans k2
    refine ⟨_, rfl, l, _, wa, _, rfl, sqL h2, hw2, _, _, _, walk_z2 (ns := ldL ns.length rs) (ms := ws) (n := ns.length) (by rw [ldL_len]; omega), small1000 (by omega), fun D H3 nD k3 hD => ?_⟩
    refine ⟨fun i acc H4 => acc = ((List.range i).map fun j => decide (ws.getD j 0 < (ldL ns.length rs).getD j 0)).map V.bl ∧ Kp [] H H4 ∧ IL H4 l (ldL ns.length rs) ∧ SqT K H4 wa (ws.map V.int), ⟨rfl, k2.trans k3, k3.at0 h2, k3.tup0 hw2⟩, fun _ _ _ _ ⟨_, _, z1, z2⟩ => ⟨sqL z1, z2⟩, ?_, ?_⟩
    · rintro i acc x H4 H5 hi ⟨ea, k4, hl4, hw4⟩ hD4 ⟨T, rfl, nT, kT, hT⟩
      have hD5 := kT.at0 hD4
      refine ⟨T, _, rfl, sqT hT, rfl, _, _, rfl, _, _, rfl, rfl, rfl, yesT ?_⟩
      refine ⟨_, rfl, _, rfl, _, _, rfl, rfl, hD5, fun H6 m6 h6 => ?_⟩
      refine ⟨?_, (k4.trans kT).md (.inl (k2.free0 nD)) m6, (m6 l (ne_of_none h2 nD)).trans (kT.at0 hl4), m6.kp.tup1 hD5 (kT.tup0 hw4)⟩
      rw [List.range_succ, List.map_append, List.map_append, ea]
      rfl
    rintro acc H4 _ hD4 ⟨ea, k4, hl4, hw4⟩
    subst ea
    refine ⟨D, _, rfl, sqL hD4, _, rfl, ?_⟩
    have eany : ((List.range ns.length).map fun j => decide (ws.getD j 0 < (ldL ns.length rs).getD j 0)).any id = !decide (∀ i : Nat, i < ns.length → rsum (ind (i : Int)) rs ≤ ws.getD i 0) := by
      by_cases c : ∀ i : Nat, i < ns.length → rsum (ind (i : Int)) rs ≤ ws.getD i 0
      · rw [decide_eq_true c]
        rw [List.any_eq_false.mpr]
        · rfl
        · intro b hb
          obtain ⟨j, hj, rfl⟩ := List.mem_map.mp hb
          have hj := List.mem_range.mp hj
          have := c j hj
          rw [ldL_at rs hj]
          exact fun z => by have z2 : ws.getD j 0 < rsum (ind (j : Int)) rs := of_decide_eq_true z; omega
      · rw [decide_eq_false c]
        rw [List.any_eq_true.mpr]
        · rfl
        · have : ∃ i : Nat, i < ns.length ∧ ¬ rsum (ind (i : Int)) rs ≤ ws.getD i 0 := Classical.byContradiction fun z => c fun i hi => Classical.byContradiction fun w => z ⟨i, hi, w⟩
          obtain ⟨i, hi, hn⟩ := this
          refine ⟨_, List.mem_map.mpr ⟨i, List.mem_range.mpr hi, rfl⟩, ?_⟩
          rw [ldL_at rs hi]
          exact decide_eq_true (by omega)
    rw [eany]
    by_cases c : ∀ i : Nat, i < ns.length → rsum (ind (i : Int)) rs ≤ ws.getD i 0
    · rw [decide_eq_true c]
      refine iteF ?_
      have ht4 := k4.tup0 ht
      refine ⟨_, rfl, _, rfl, t, rfl, ⟨_, ht4⟩, _, _, _, walk_tup (xs := xs), small1000 (by omega), fun D2 H5 nD2 k5 hD2 => ?_⟩
      refine ⟨fun i acc H6 => acc = ((rs.take i).map fun r => -r.1 * (selSum ns r.2 - R g r.2.length)).map V.int ∧ Kp [] H H6 ∧ SqT K H6 t xs, ⟨rfl, k4.trans k5, k5.tup0 ht4⟩, fun _ _ _ _ ⟨_, _, z⟩ => z, ?_, ?_⟩
      · rintro i acc x _ H6 hi ⟨ea, k6, ht6⟩ hD6 ⟨rfl, hx⟩
        obtain ⟨b, u, rfl, hir, hb, hu⟩ := (hX.kp0 k6).get hx
        have hr1 := hO.1 _ (getRow hir)
        have hr2 := hB _ (getRow hir)
        have edr : rs.take (i + 1) = rs.take i ++ [rs.getD i (0, [])] := by
          rw [List.take_add_one, List.getElem?_eq_getElem hir, List.getD_eq_getElem?_getD, List.getElem?_eq_getElem hir]
          rfl
        generalize rs.getD i (0, []) = row at hb hu hr1 hr2 edr
        obtain ⟨m, W⟩ := row
        refine ⟨b, _, rfl, sqT hb, rfl, _, _, rfl, _, _, rfl, rfl, rfl, yesT ?_⟩
        refine ⟨_, rfl, _, rfl, _, rfl, _, rfl, _, rfl, p, u, ns, W, g, rfl, k6.tup0 hp, sqT hu, hr1.2.2.1, hr1.2.2.2.2, fun H7 k7 => ?_⟩
        have hD7 := k7.at0 hD6
        refine ⟨_, _, rfl, rfl, .inl ⟨by omega, by omega⟩, hD7, fun H8 m8 h8 => ?_⟩
        refine ⟨?_, (k6.trans k7).md (.inl (k4.free0 nD2)) m8, m8.kp.tup1 hD7 (k7.tup0 ht6)⟩
        rw [edr, List.map_append, List.map_append, ea]
        rfl
      rintro acc H6 _ hD6 ⟨ea, k6, ht6⟩
      rw [List.take_of_length_le (by omega)] at ea
      subst ea
      refine ⟨D2, _, rfl, sqL hD6, rfl, ?_⟩
      have e1 : (rs.map fun r => -r.1 * (selSum ns r.2 - R g r.2.length)).sum = rsum (lackOf g ns) rs := by
        unfold rsum
        congr 1
        refine List.map_congr_left fun r _ => ?_
        unfold lackOf
        rw [Int.neg_mul, ← Int.mul_neg]
        congr 1
        omega
      rw [e1]
      have := q H6 k6
      by_cases c2 : a = rsum (lackOf g ns) rs
      · rw [decide_eq_true ⟨c, by rw [c2]⟩] at this
        show Q (.bl (decide (V.int a = V.int _))) H6
        rw [decide_eq_true (by rw [c2])]
        exact this
      · rw [decide_eq_false (fun z => c2 (V.int.inj z.2))] at this
        show Q (.bl (decide (V.int a = V.int _))) H6
        rw [decide_eq_false (fun z => c2 (V.int.inj z))]
        exact this
    · rw [decide_eq_false c]
      refine iteT ?_
      have := q H4 k4
      rw [decide_eq_false (fun z => c z.1)] at this
      exact this
theorem dot_sum {ws xs ys : List Int} {n : Nat} (h1 : ws.length = n) (h2 : xs.length = n) (h3 : ys.length = n) : ∀ i, i ≤ n →
    ((upto i).map fun t : Int => ws.getD t.toNat 0 * (ys.getD t.toNat 0 - xs.getD t.toNat 0)).sum = dot (ws.take i) (xs.take i) (ys.take i)
  | 0, _ => rfl
  | i + 1, h => by
    have e : upto (i + 1) = upto i ++ [(i : Int)] := by
      unfold upto
      rw [List.range_succ, List.map_append]
      rfl
    rw [e, List.map_append, List.sum_append, dot_sum h1 h2 h3 i (by omega), dot_take ws xs ys i (by omega) (by omega) (by omega)]
    simp
theorem dot_order {ws xs ys ms : List Int} {n : Nat} (h1 : ws.length = n) (h2 : xs.length = n) (h3 : ys.length = n) (p : ms.Perm (upto n)) :
    (ms.map fun t : Int => ws.getD t.toNat 0 * (ys.getD t.toNat 0 - xs.getD t.toNat 0)).sum = dot ws xs ys := by
  rw [perm_sum (p.map _), dot_sum h1 h2 h3 n (Nat.le_refl _), List.take_of_length_le (by omega), List.take_of_length_le (by omega), List.take_of_length_le (by omega)]
/-! ### what withdrawn leaves -/
theorem Wd.inv {g x : Int} {is ns fs : List Int} (h : Wd g (x :: is) ns fs) : ∃ (i : Nat) (v : Int), x = (i : Int) ∧ i < ns.length ∧ IsLB g (ns.eraseIdx i) v ∧ Wd g is (ns.set i v) fs := by
  cases h with
  | cons h1 h2 h3 => exact ⟨_, _, rfl, h1, h2, h3⟩
theorem Wd.len {g : Int} {is ns fs : List Int} (h : Wd g is ns fs) : fs.length = ns.length := by
  induction h with
  | nil => rfl
  | cons _ _ _ ih => rw [ih, List.length_set]
theorem Wd.keep {g : Int} {is ns fs : List Int} (h : Wd g is ns fs) (j : Nat) (hj : (j : Int) ∉ is) : fs.getD j 0 = ns.getD j 0 := by
  induction h with
  | nil => rfl
  | @cons i is ns fs v h1 h2 h3 ih =>
    rw [ih (fun z => hj (List.mem_cons_of_mem _ z)), getD_set_ne]
    intro z
    subst z
    exact hj List.mem_cons_self
/-- one turn: the balance goes down to v and no further -/
theorem turn_low {g v : Int} {ns : List Int} {i : Nat} (hi : i < ns.length) (e : gapOf g ns = none) (h : IsLB g (ns.eraseIdx i) v) : g ≤ v ∧ v ≤ ns.getD i 0 ∧ gapOf g (ns.set i v) = none ∧ gapOf g (ns.set i (v - 1)) ≠ none := by
  have he := safe_erase hi e
  have e2 := e
  rw [gap_congr (idx_perm ns i hi)] at e2
  refine ⟨h.ge, (h.safe he).mp e2, (h.set hi he).mpr (Int.le_refl _), fun z => ?_⟩
  have := (h.set hi he).mp z
  omega
theorem Wd.safe {g : Int} {is ns fs : List Int} (h : Wd g is ns fs) (e : gapOf g ns = none) : gapOf g fs = none := by
  induction h with
  | nil => exact e
  | cons h1 h2 _ ih => exact ih (turn_low h1 e h2).2.2.1
theorem Wd.bound {g B : Int} (hg : 1 ≤ g) {is ns fs : List Int} (h : Wd g is ns fs) (e : gapOf g ns = none) (hb : ∀ x ∈ ns, 0 ≤ x ∧ x ≤ B) : ∀ x ∈ fs, 0 ≤ x ∧ x ≤ B := by
  induction h with
  | nil => exact hb
  | @cons i is ns fs v h1 h2 _ ih =>
    have ht := turn_low h1 e h2
    refine ih ht.2.2.1 fun x hx => ?_
    have hi := all_get hb h1
    rcases List.mem_or_eq_of_mem_set hx with z | z
    · exact hb x z
    · omega
theorem Wd.stay {g : Int} {is ns fs : List Int} (h : Wd g is ns fs) {i : Nat} (hi : i < ns.length) (hn : (i : Int) ∉ is) (e : gapOf g ns = none) (ht : IsLB g (ns.eraseIdx i) (ns.getD i 0)) : IsLB g (fs.eraseIdx i) (fs.getD i 0) := by
  induction h with
  | nil => exact ht
  | @cons j is ns fs v h1 h2 _ ih =>
    have hl := turn_low h1 e h2
    refine ih (by rw [List.length_set]; exact hi) (fun z => hn (List.mem_cons_of_mem _ z)) hl.2.2.1 ?_
    exact tight_stay hi (fun z => hn (by rw [z]; exact List.mem_cons_self)) hl.2.1 hl.2.2.1 ht
theorem Wd.tight {g : Int} {is ns fs : List Int} (h : Wd g is ns fs) (hd : is.Pairwise (· ≠ ·)) (e : gapOf g ns = none) {i : Nat} (hi : (i : Int) ∈ is) : IsLB g (fs.eraseIdx i) (fs.getD i 0) := by
  induction h with
  | nil => exact nomatch hi
  | @cons j is ns fs v h1 h2 h3 ih =>
    have hl := turn_low h1 e h2
    rw [List.pairwise_cons] at hd
    rcases List.mem_cons.mp hi with z | z
    · have : i = j := by omega
      subst this
      refine h3.stay (by rw [List.length_set]; exact h1) (fun w => hd.1 _ w rfl) hl.2.2.1 ?_
      rw [erase_set, getD_set_eq h1]
      exact h2
    · exact ih hd.2 hl.2.2.1 z
/-- withdrawn leaves the last threshold, and no spare -/
theorem Wd.all {g : Int} (hg : 1 ≤ g) {is ns fs : List Int} (h : Wd g is ns fs) (h1 : 1 ≤ ns.length) (p : is.Perm (upto ns.length)) (e : gapOf g ns = none) : fs.sum = R g ns.length ∧ ∀ i, i < ns.length → IsLB g (fs.eraseIdx i) (fs.getD i 0) := by
  have hfl := h.len
  have ht : ∀ i, i < ns.length → IsLB g (fs.eraseIdx i) (fs.getD i 0) := fun i hi => h.tight (order_nodup p) e (p.mem_iff.mpr (up_mem.mpr ⟨by omega, by omega⟩))
  refine ⟨?_, ht⟩
  rw [← hfl]
  exact tight_total hg (by omega) (h.safe e) fun i hi => ht i (by omega)
/-! ### withdrawn: nothing is worth more -/
theorem pw_of : ∀ {a b : List Int}, a.length = b.length → (∀ i, i < a.length → a.getD i 0 ≤ b.getD i 0) → Pw a b
  | [], [], _, _ => .nil
  | _ :: _, [], h, _ => by simp at h
  | [], _ :: _, h, _ => by simp at h
  | x :: a, y :: b, h, f => .cons (f 0 (by simp)) (pw_of (by simpa using h) fun i hi => f (i + 1) (by simpa using hi))
theorem sum_set2 {l : List Int} {i : Nat} {v : Int} (h : i < l.length) : (l.set i v).sum = l.sum - l.getD i 0 + v := by
  have h1 := perm_sum (set_perm l i v h)
  have h2 := perm_sum (idx_perm l i h)
  rw [List.sum_cons] at h1 h2
  omega
theorem Wd.opt {g : Int} (hg : 1 ≤ g) {ws x : List Int} (hw : ∀ i : Nat, 0 ≤ ws.getD i 0) (ex : gapOf g x = none) {is cur fs : List Int} (h : Wd g is cur fs) :
    ∀ (y : List Int) (p0 : Int), x.length = cur.length → y.length = cur.length → gapOf g cur = none → (∀ i, i < cur.length → x.getD i 0 ≤ y.getD i 0) → (∀ a, a < cur.length → cur.getD a 0 ≤ y.getD a 0 ∨ IsLB g (cur.eraseIdx a) (cur.getD a 0)) → (∀ a : Nat, (a : Int) ∈ is → y.getD a 0 = cur.getD a 0) → is.Pairwise (· ≠ ·) → is.Pairwise (KLe (byPr ws)) → 0 ≤ p0 → (∀ i ∈ is, ws.getD i.toNat 0 ≤ p0) →
      0 ≤ p0 * (y.sum - cur.sum) + (is.map fun i => ws.getD i.toNat 0 * (x.getD i.toNat 0 - fs.getD i.toNat 0)).sum := by
  induction h with
  | nil =>
    intro y p0 hxl hl e hxy ht _ _ _ h0 _
    have := greedy_min hg hl.symm e (gap_mono (pw_of (by omega) fun i hi => hxy i (by omega)) ex) ht
    rw [List.map_nil, List.sum_nil, Int.add_zero]
    exact Int.mul_nonneg h0 (by omega)
  | @cons i is cur fs v h1 h2 h3 ih =>
    intro y p0 hxl hl e hxy ht hsame hd hs h0 hle
    have hS := greedy_min hg hl.symm e (gap_mono (pw_of (by omega) fun i hi => hxy i (by omega)) ex) ht
    rw [List.pairwise_cons] at hd hs
    have hn : (i : Int) ∉ is := fun z => hd.1 _ z rfl
    have fv : fs.getD i 0 = v := by rw [h3.keep i hn, getD_set_eq h1]
    have hle0 := hle _ List.mem_cons_self
    rw [Int.toNat_natCast] at hle0
    have hyi := hsame i List.mem_cons_self
    have htl := turn_low h1 e h2
    have hi := ih (y.set i (x.getD i 0)) (ws.getD i 0) (by rw [List.length_set]; exact hxl) (by rw [List.length_set, List.length_set]; exact hl) htl.2.2.1 (fun j hj => by
        rw [List.length_set] at hj
        by_cases c : i = j
        · subst c
          rw [getD_set_eq (by omega)]
          exact Int.le_refl _
        · rw [getD_set_ne c]
          exact hxy j hj) (fun a ha => by
        rw [List.length_set] at ha
        by_cases c : i = a
        · subst c
          refine .inr ?_
          rw [erase_set, getD_set_eq h1]
          exact h2
        · rcases ht a ha with z | z
          · refine .inl ?_
            rw [getD_set_ne c, getD_set_ne c]
            exact z
          · exact .inr (tight_stay ha c htl.2.1 htl.2.2.1 z)) (fun a ha => by
        have c : i ≠ a := fun z => hn (by rw [z]; exact ha)
        rw [getD_set_ne c, getD_set_ne c]
        exact hsame a (List.mem_cons_of_mem _ ha)) hd.2 hs.2 (hw i) (fun j hj => by
        have := hs.1 j hj
        unfold KLe byPr at this
        simp only [Int.toNat_natCast] at this
        omega)
    rw [sum_set2 (by omega), sum_set2 h1, hyi] at hi
    rw [List.map_cons, List.sum_cons, Int.toNat_natCast, fv]
    have hmul : ws.getD i 0 * (y.sum - cur.sum) ≤ p0 * (y.sum - cur.sum) := Int.mul_le_mul_of_nonneg_right hle0 (by omega)
    have hexp : ws.getD i 0 * (y.sum - cur.getD i 0 + x.getD i 0 - (cur.sum - cur.getD i 0 + v)) = ws.getD i 0 * (y.sum - cur.sum) + ws.getD i 0 * (x.getD i 0 - v) := by
      rw [← Int.mul_add]
      congr 1
      omega
    omega
theorem Wd.best {g : Int} (hg : 1 ≤ g) {ns ws ms fs : List Int} (h1 : 1 ≤ ns.length) (hw : ∀ x ∈ ws, 0 ≤ x) (hml : ms.length = ns.length) (sm : ms.Pairwise (KLe (byPr ws))) (hn : ms.Pairwise (· ≠ ·)) (e : gapOf g ns = none) (h : Wd g ms ns fs) :
    ∀ x : List Int, gapOf g x = none → x.length = ns.length → (∀ i, i < ns.length → x.getD i 0 ≤ ns.getD i 0) → 0 ≤ (ms.map fun i => ws.getD i.toNat 0 * (x.getD i.toNat 0 - fs.getD i.toNat 0)).sum := by
  intro x ex hxl hge
  have hW : ∀ i : Nat, 0 ≤ ws.getD i 0 := fun i => by
    by_cases c : i < ws.length
    · rw [List.getD_eq_getElem?_getD, List.getElem?_eq_getElem c]
      exact hw _ (List.getElem_mem c)
    · rw [List.getD_eq_getElem?_getD, List.getElem?_eq_none (by omega)]
      exact Int.le_refl _
  cases hms : ms with
  | nil =>
    rw [hms] at hml
    simp at hml
    omega
  | cons m0 rest =>
    rw [hms] at h sm hn
    have hmx := List.pairwise_cons.mp sm
    have := h.opt hg hW ex ns (ws.getD m0.toNat 0) hxl rfl e hge (fun a _ => .inl (Int.le_refl _)) (fun _ _ => rfl) hn sm (hW _) (fun i hi => by
      rcases List.mem_cons.mp hi with z | z
      · rw [z]
        exact Int.le_refl _
      · have := hmx.1 i z
        unfold KLe byPr at this
        simp only at this
        omega)
    simpa using this
/-! ### upper bounds: sets with nothing to spare -/
theorem Wd.exists {g : Int} : ∀ (is ns : List Int), (∀ i ∈ is, 0 ≤ i ∧ i < (ns.length : Int)) → ∃ fs, Wd g is ns fs
  | [], ns, _ => ⟨ns, .nil⟩
  | i :: is, ns, h => by
    have hi := h i List.mem_cons_self
    obtain ⟨k, rfl⟩ : ∃ k : Nat, i = (k : Int) := ⟨i.toNat, by omega⟩
    obtain ⟨v, hv⟩ := IsLB.exists g (ns.eraseIdx k)
    obtain ⟨fs, hf⟩ := Wd.exists is (ns.set k v) fun j hj => by rw [List.length_set]; exact h j (List.mem_cons_of_mem _ hj)
    exact ⟨fs, .cons (by omega) hv hf⟩
theorem Wd.nn {g : Int} : ∀ {is ns fs : List Int}, Wd g is ns fs → ∀ i ∈ is, 0 ≤ i ∧ i < (ns.length : Int)
  | _, _, _, .nil, i, h => nomatch h
  | _, _, _, .cons h1 h2 h3, i, h => by
    rcases List.mem_cons.mp h with z | z
    · rw [z]
      omega
    · have := Wd.nn h3 i z
      rw [List.length_set] at this
      exact this
theorem Wd.low' {g : Int} : ∀ {is ns fs : List Int}, Wd g is ns fs → gapOf g ns = none → ∀ j, fs.getD j 0 ≤ ns.getD j 0
  | _, _, _, .nil, _, j => Int.le_refl _
  | _, ns, _, @Wd.cons _ i is _ fs v h1 h2 h3, e, j => by
    have hle := (h2.safe (safe_erase h1 e)).mp (by
      rw [← gap_congr (idx_perm ns i h1)]
      exact e)
    have e2 : gapOf g (ns.set i v) = none := (h2.set h1 (safe_erase h1 e)).mpr (Int.le_refl _)
    have ih := Wd.low' h3 e2 j
    by_cases c : i = j
    · subst c
      rw [List.getD_eq_getElem?_getD (l := ns.set i v), List.getElem?_set_self h1] at ih
      exact Int.le_trans ih hle
    · rw [List.getD_eq_getElem?_getD (l := ns.set i v), List.getElem?_set_ne c, ← List.getD_eq_getElem?_getD] at ih
      exact ih
theorem Wd.split {g : Int} : ∀ {a b ns fs : List Int}, Wd g (a ++ b) ns fs → ∃ zs, Wd g a ns zs ∧ Wd g b zs fs
  | [], _, _, _, h => ⟨_, .nil, h⟩
  | x :: a, b, ns, fs, h => by
    obtain ⟨i, v, rfl, hi, hv, hr⟩ := Wd.inv (show Wd g (x :: (a ++ b)) ns fs from h)
    obtain ⟨zs, h1, h2⟩ := Wd.split hr
    exact ⟨zs, .cons hi hv h1, h2⟩
theorem sum_set' {l : List Int} {i : Nat} {v : Int} (h : i < l.length) : (l.set i v).sum = l.sum - l.getD i 0 + v := by
  have h1 := perm_sum (set_perm l i v h)
  have h2 := perm_sum (idx_perm l i h)
  rw [List.sum_cons] at h1 h2
  omega
theorem Wd.sums {g : Int} : ∀ {is ns fs : List Int}, Wd g is ns fs → is.Pairwise (· ≠ ·) → ns.sum - fs.sum = (is.map fun i : Int => ns.getD i.toNat 0 - fs.getD i.toNat 0).sum
  | [], ns, fs, h, _ => by
    cases h
    simp
  | x :: is, ns, fs, h, hd => by
    obtain ⟨i, v, rfl, hi, hv, hr⟩ := h.inv
    rw [List.pairwise_cons] at hd
    have hn : (i : Int) ∉ is := fun z => hd.1 _ z rfl
    have ih := Wd.sums hr hd.2
    have hk := hr.keep i hn
    rw [List.getD_eq_getElem?_getD (l := ns.set i v), List.getElem?_set_self hi] at hk
    have hk : fs.getD i 0 = v := hk
    rw [sum_set' hi] at ih
    have e : (is.map fun j : Int => (ns.set i v).getD j.toNat 0 - fs.getD j.toNat 0) = is.map fun j : Int => ns.getD j.toNat 0 - fs.getD j.toNat 0 := by
      refine List.map_congr_left fun j hj => ?_
      have hne : i ≠ j.toNat ∨ j < 0 := by
        by_cases c : j < 0
        · exact .inr c
        · refine .inl fun z => hn ?_
          rw [show (i : Int) = j by omega]
          exact hj
      rcases hne with z | z
      · rw [List.getD_eq_getElem?_getD (l := ns.set i v), List.getElem?_set_ne z, ← List.getD_eq_getElem?_getD]
      · by_cases c : i = j.toNat
        · exfalso
          have := hr.nn j hj
          omega
        · rw [List.getD_eq_getElem?_getD (l := ns.set i v), List.getElem?_set_ne c, ← List.getD_eq_getElem?_getD]
    rw [e] at ih
    rw [List.map_cons, List.sum_cons, Int.toNat_natCast, hk, ← ih]
    omega
/-- a set with nothing to spare that has all these tight senders -/
theorem tight_set {g : Int} (hg : 1 ≤ g) {z : List Int} {n : Nat} (hz : z.length = n) (hn : n ≤ 40) (e : gapOf g z = none) {J : List Int} (hJ : J ≠ []) (hb : ∀ i ∈ J, 0 ≤ i ∧ i < (n : Int)) (ht : ∀ i ∈ J, IsLB g (z.eraseIdx i.toNat) (z.getD i.toNat 0)) :
    ∃ W, GoodS n W ∧ (∀ i ∈ J, i ∈ W) ∧ selSum z W = R g W.length := by
  obtain ⟨i0, hi0⟩ := List.exists_mem_of_ne_nil J hJ
  have hex : ∃ a, a < n ∧ IsLB g (z.eraseIdx a) (z.getD a 0) := ⟨i0.toNat, by have := hb i0 hi0; omega, ht i0 hi0⟩
  obtain ⟨a, ha, hta, hmax⟩ := max_by (fun a => IsLB g (z.eraseIdx a) (z.getD a 0)) (fun a => z.getD a 0) n hex
  obtain ⟨m, hm, hSm, hdr⟩ := seg_tight hg e (by omega) hta
  let os := (upto n).mergeSort (fun i j => decide (z.getD i.toNat 0 ≤ z.getD j.toNat 0))
  have po : os.Perm (upto n) := List.mergeSort_perm _ _
  have eo : os.map (fun i : Int => z.getD i.toNat 0) = srt z := by
    refine srt_eq ?_ ?_
    · have := po.map fun i : Int => z.getD i.toNat 0
      rwa [← hz, upto_self] at this
    · rw [List.pairwise_map]
      have := List.pairwise_mergeSort (le := fun i j : Int => decide (z.getD i.toNat 0 ≤ z.getD j.toNat 0)) (fun p q r h1 h2 => decide_eq_true (Int.le_trans (of_decide_eq_true h1) (of_decide_eq_true h2))) (fun p q => by
        rw [Bool.or_eq_true, decide_eq_true_eq, decide_eq_true_eq]
        omega) (upto n)
      exact this.imp fun h => of_decide_eq_true h
  have ol : os.length = n := by rw [po.length_eq, upto_len']
  have nd : os.Nodup := po.nodup_iff.mpr (upto_nd n)
  let W := srt (os.take m)
  have pW : W.Perm (os.take m) := srt_perm _
  have sW := srt_sorted (os.take m)
  have ndW : W.Nodup := pW.nodup_iff.mpr (nd.sublist (List.take_sublist _ _))
  have hin : ∀ i ∈ J, i ∈ W := fun i hi => by
    refine pW.mem_iff.mpr ?_
    have h1 : i ∈ os := po.mem_iff.mpr (up_mem.mpr (hb i hi))
    rw [← List.take_append_drop m os] at h1
    rcases List.mem_append.mp h1 with h2 | h2
    · exact h2
    · exfalso
      have h3 : z.getD i.toNat 0 ∈ (srt z).drop m := by
        rw [← eo, ← List.map_drop]
        exact List.mem_map.mpr ⟨i, h2, rfl⟩
      have h4 := hdr _ h3
      have h5 : z.getD i.toNat 0 ≤ z.getD a 0 := hmax i.toNat (by have := hb i hi; omega) (ht i hi)
      omega
  have hWl : W.length = m := by rw [pW.length_eq, List.length_take]; omega
  refine ⟨W, ⟨fun w => ?_, by omega, (sW.and ndW).imp fun {x y} h => by have := h.1; have := h.2; omega, fun i hi => ?_⟩, hin, ?_⟩
  · have := hin i0 hi0
    rw [w] at this
    exact nomatch this
  · exact up_mem.mp (po.mem_iff.mp (List.mem_of_mem_take (pW.mem_iff.mp hi)))
  · rw [hWl, ← hSm]
    unfold selSum SS
    rw [← eo, ← List.map_take]
    exact perm_sum (pW.map _)
/-- among all sets with these senders: one that has least to spare -/
def TgS (g : Int) (ns am W : List Int) : Prop := GoodS ns.length W ∧ (∀ i ∈ am, i ∈ W) ∧ ∀ W', GoodS ns.length W' → (∀ i ∈ am, i ∈ W') → lackOf g ns W' ≤ lackOf g ns W
/-- what a set that has all the lowered senders loses is all that is lost -/
theorem sel_loss {n : Nat} {ns zs am W : List Int} (hn : ns.length = n) (hz : zs.length = n) (hW : GoodS n W) (ha : ∀ i ∈ am, i ∈ W) (hk : ∀ i : Nat, (i : Int) ∉ am → zs.getD i 0 = ns.getD i 0) : selSum ns W = selSum zs W + (ns.sum - zs.sum) := by
  have h1 := sel_ind ns (n := n) hW.2.2.1 hW.2.2.2
  have h2 := sel_ind zs (n := n) hW.2.2.1 hW.2.2.2
  have h3 : ns.sum = sumR n fun i => ns.getD i 0 := by
    have := sum_getD ns n (by omega)
    rwa [List.take_of_length_le (by omega)] at this
  have h4 : zs.sum = sumR n fun i => zs.getD i 0 := by
    have := sum_getD zs n (by omega)
    rwa [List.take_of_length_le (by omega)] at this
  have h5 := sumR_eq (f := fun i => ind (i : Int) W * ns.getD i 0 + zs.getD i 0) (h := fun i => ind (i : Int) W * zs.getD i 0 + ns.getD i 0) n fun j hj => by
    by_cases c : (j : Int) ∈ am
    · have : ind (j : Int) W = 1 := if_pos (ha _ c)
      rw [this]
      omega
    · rw [hk j c]
  rw [sumR_add, sumR_add] at h5
  omega
/-- the rows spare together just what some safe balances below lose -/
theorem up_worth {g : Int} (hg : 1 ≤ g) {n : Nat} {ns ws ms : List Int} {Ws : List (List Int)} {rs : List (Int × List Int)} (hn : ns.length = n) (hn40 : n ≤ 40) (hwl : ws.length = n) (e : gapOf g ns = none) (pm : ms.Perm (upto n)) (hf : Falls (prl ws ms) Ws rs) (hWl : Ws.length = n)
    (hM : ∀ j, j < n → TgS g ns (ms.take (j + 1)) (Ws.getD j [])) :
    ∃ fs : List Int, fs.length = n ∧ gapOf g fs = none ∧ (∀ i, i < n → fs.getD i 0 ≤ ns.getD i 0) ∧ -(rsum (lackOf g ns) rs) = dot ws fs ns := by
  have hl := pm.length_eq
  rw [upto_len'] at hl
  have nd : ms.Pairwise (· ≠ ·) := pm.nodup_iff.mpr (upto_nd n)
  have hms : ∀ i ∈ ms, 0 ≤ i ∧ i < (ns.length : Int) := fun i hi => by
    have := up_mem.mp (pm.mem_iff.mp hi)
    omega
  obtain ⟨fs, hw⟩ := Wd.exists (g := g) ms ns hms
  have hfl := hw.len
  refine ⟨fs, by omega, hw.safe e, fun i _ => Wd.low' hw e i, ?_⟩
  let d : Nat → Int := fun j => ns.getD (ms.getD j 0).toNat 0 - fs.getD (ms.getD j 0).toNat 0
  let T : Nat → Int := fun j => sumR j d
  have hT : ∀ j, T (j + 1) = T j + d j := fun j => sumR_succ j d
  have hlack : ∀ j, j < n → lackOf g ns (Ws.getD j []) = -(T (j + 1)) := fun j hj => by
    have hsp : ms = ms.take (j + 1) ++ ms.drop (j + 1) := (List.take_append_drop _ _).symm
    have hw2 := hw
    rw [hsp] at hw2
    obtain ⟨zs, h1, h2⟩ := Wd.split hw2
    have ez := h1.safe e
    have hzl := h1.len
    have ndt : (ms.take (j + 1)).Pairwise (· ≠ ·) := nd.sublist (List.take_sublist _ _)
    have hne : ms.take (j + 1) ≠ [] := fun z => by
      have := congrArg List.length z
      rw [List.length_take] at this
      have : min (j + 1) ms.length = 0 := this
      omega
    have hbt : ∀ i ∈ ms.take (j + 1), 0 ≤ i ∧ i < (n : Int) := fun i hi => by have := hms i (List.mem_of_mem_take hi); omega
    obtain ⟨W, gW, inW, eW⟩ := tight_set hg (z := zs) (n := n) (by omega) hn40 ez hne hbt fun i hi => by
      have hi2 := hbt i hi
      have := h1.tight ndt e (i := i.toNat) (by rw [show ((i.toNat : Nat) : Int) = i by omega]; exact hi)
      exact this
    have hkeep : ∀ i : Nat, (i : Int) ∉ ms.take (j + 1) → zs.getD i 0 = ns.getD i 0 := fun i hi => h1.keep i hi
    have hsum : ns.sum - zs.sum = T (j + 1) := by
      rw [h1.sums ndt]
      have h3 : ((ms.take (j + 1)).map fun i : Int => ns.getD i.toNat 0 - zs.getD i.toNat 0) = (ms.map fun i : Int => ns.getD i.toNat 0 - fs.getD i.toNat 0).take (j + 1) := by
        rw [← List.map_take]
        refine List.map_congr_left fun i hi => ?_
        have hi2 := hbt i hi
        have hnot : ((i.toNat : Nat) : Int) ∉ ms.drop (j + 1) := by
          rw [show ((i.toNat : Nat) : Int) = i by omega]
          intro z
          have hd := nd
          rw [hsp, List.pairwise_append] at hd
          exact hd.2.2 i hi i z rfl
        rw [h2.keep i.toNat hnot]
      rw [h3, sum_getD _ (j + 1) (by rw [List.length_map]; omega)]
      refine sumR_eq _ fun k hk => ?_
      rw [getD_at' (by rw [List.length_map]; omega), List.getElem_map, ← getD_at' (show k < ms.length by omega)]
    obtain ⟨gj, inj, hmin⟩ := hM j hj
    rw [hn] at gj hmin
    have h4 := sel_loss hn (by omega) gj inj hkeep
    have h5 := sel_loss hn (by omega) gW inW hkeep
    have h6 := good_ge (by omega) gj ez
    have h7 := hmin W gW inW
    unfold lackOf at h7 ⊢
    omega
  have hA := abel (fun j => (prl ws ms).getD j 0) T d rfl hT n
  rw [prl_out (show ms.length ≤ n by omega), Int.zero_mul, Int.sub_zero] at hA
  rw [hf (lackOf g ns) (by unfold lackOf selSum; simp [R]), hWl]
  have e1 : sumR n (fun j => ((prl ws ms).getD j 0 - (prl ws ms).getD (j + 1) 0) * lackOf g ns (Ws.getD j [])) = -(sumR n (fun j => ((prl ws ms).getD j 0 - (prl ws ms).getD (j + 1) 0) * T (j + 1))) := by
    have h1 := sumR_mul (-1) (fun j => ((prl ws ms).getD j 0 - (prl ws ms).getD (j + 1) 0) * T (j + 1)) n
    have h2 : sumR n (fun j => ((prl ws ms).getD j 0 - (prl ws ms).getD (j + 1) 0) * lackOf g ns (Ws.getD j [])) = sumR n (fun j => -1 * (((prl ws ms).getD j 0 - (prl ws ms).getD (j + 1) 0) * T (j + 1))) := sumR_eq n fun j hj => by
      rw [hlack j hj, Int.mul_neg]
      omega
    omega
  rw [e1, Int.neg_neg, hA, dot_sumR hwl (by omega) hn]
  have e2 := ord_sum pm (fun i => ws.getD i.toNat 0 * (ns.getD i.toNat 0 - fs.getD i.toNat 0))
  simp only [Int.toNat_natCast] at e2
  rw [← e2]
  refine sumR_eq n fun j hj => ?_
  rw [prl_at (by omega)]
/-- no safe balances below are worth more than what rows that cover the values spare -/
theorem up_sound {g : Int} {n : Nat} {ns ws y : List Int} {rs : List (Int × List Int)} (hn : ns.length = n) (hw : ws.length = n) (hy : y.length = n) (ok : RowsOk n rs) (hl : ∀ i : Nat, i < n → ws.getD i 0 ≤ rsum (ind (i : Int)) rs)
    (e : gapOf g y = none) (hge : ∀ i, i < n → y.getD i 0 ≤ ns.getD i 0) : dot ws y ns ≤ -(rsum (lackOf g ns) rs) := by
  have h1 : rsum (lackOf g ns) rs ≤ rsum (fun W => sumR n fun i => ind (i : Int) W * (y.getD i 0 - ns.getD i 0)) rs := by
    refine rsum_le fun r hr => ?_
    obtain ⟨h1, h2⟩ := ok.1 r hr
    refine ⟨by omega, ?_⟩
    have h3 := good_ge hy h2 e
    have h4 := sel_ind y (n := n) h2.2.2.1 h2.2.2.2
    have h5 := sel_ind ns (n := n) h2.2.2.1 h2.2.2.2
    have h6 : (sumR n fun i => ind (i : Int) r.2 * (y.getD i 0 - ns.getD i 0)) + selSum ns r.2 = selSum y r.2 := by
      rw [h4, h5, ← sumR_add]
      refine sumR_eq n fun j _ => ?_
      rw [← Int.mul_add]
      congr 1
      omega
    unfold lackOf
    omega
  rw [rsum_swap n (fun i W => ind (i : Int) W * (y.getD i 0 - ns.getD i 0))] at h1
  rw [dot_sumR hw hy hn]
  have h7 : sumR n (fun i => rsum (fun W => ind (i : Int) W * (y.getD i 0 - ns.getD i 0)) rs) ≤ sumR n fun i => -1 * (ws.getD i 0 * (ns.getD i 0 - y.getD i 0)) := by
    refine sumR_le n fun j hj => ?_
    rw [rsum_mul]
    have h8 := Int.mul_le_mul_of_nonneg_right (hl j hj) (show 0 ≤ ns.getD j 0 - y.getD j 0 by have := hge j hj; omega)
    have h9 : rsum (ind (j : Int)) rs * (y.getD j 0 - ns.getD j 0) = -(rsum (ind (j : Int)) rs * (ns.getD j 0 - y.getD j 0)) := by
      rw [← Int.mul_neg]
      congr 1
      omega
    omega
  rw [sumR_mul] at h7
  omega
/-! ### tight -/
theorem slack_lack (g : Int) (ns W : List Int) : selSum ns W - R g W.length = -(lackOf g ns W) := by
  unfold lackOf
  omega
def oth (am : List Int) (n : Nat) : List Int := (upto n).filter fun x => decide (x ∉ am)
theorem oth_yes {am : List Int} {i : Nat} (h : (i : Int) ∈ am) : oth am (i + 1) = oth am i := by
  unfold oth upto
  rw [List.range_succ, List.map_append, List.filter_append]
  simp [h]
theorem oth_no {am : List Int} {i : Nat} (h : (i : Int) ∉ am) : oth am (i + 1) = oth am i ++ [(i : Int)] := by
  unfold oth upto
  rw [List.range_succ, List.map_append, List.filter_append]
  simp [h]
theorem oth_mem {am : List Int} {n : Nat} {x : Int} : x ∈ oth am n ↔ (0 ≤ x ∧ x < (n : Int)) ∧ x ∉ am := by
  unfold oth
  rw [List.mem_filter, up_mem, decide_eq_true_eq]
theorem oth_nd (am : List Int) (n : Nat) : (oth am n).Nodup := (upto_nd n).sublist List.filter_sublist
theorem part_perm {a b : List Int} (na : a.Nodup) (nb : b.Nodup) (h : ∀ i ∈ a, i ∈ b) : (a ++ b.filter fun x => decide (x ∉ a)).Perm b := by
  refine (List.perm_ext_iff_of_nodup (List.nodup_append.mpr ⟨na, nb.sublist List.filter_sublist, fun x h1 y h2 e => ?_⟩) nb).mpr fun x => ?_
  · rw [← e, List.mem_filter, decide_eq_true_eq] at h2
    exact h2.2 h1
  · rw [List.mem_append, List.mem_filter, decide_eq_true_eq]
    constructor
    · rintro (z | z)
      · exact h x z
      · exact z.1
    · intro z
      by_cases c : x ∈ a
      · exact .inl c
      · exact .inr ⟨z, c⟩
theorem oth_len {am : List Int} {n : Nat} (nd : am.Nodup) (ha : ∀ i ∈ am, 0 ≤ i ∧ i < (n : Int)) : am.length + (oth am n).length = n := by
  have := (part_perm nd (upto_nd n) fun i hi => up_mem.mpr (ha i hi)).length_eq
  rw [List.length_append, upto_len'] at this
  exact this
/-- of all sets with these senders and so many: with the poorest of the others -/
theorem choice_min {ns am rest W' : List Int} {n : Nat} (nd : am.Nodup) (ha : ∀ i ∈ am, 0 ≤ i ∧ i < (n : Int)) (pr : rest.Perm (oth am n)) (sr : rest.Pairwise (KLe (byBal ns))) (hW : GoodS n W') (hin : ∀ i ∈ am, i ∈ W') :
    am.length ≤ W'.length ∧ W'.length - am.length ≤ rest.length ∧ selSum ns (am ++ rest.take (W'.length - am.length)) ≤ selSum ns W' := by
  have ndW : W'.Nodup := hW.2.2.1.imp fun {a b} h => by omega
  have pX := part_perm nd ndW hin
  have hX : ∀ x ∈ (W'.filter fun x => decide (x ∉ am)), x ∈ oth am n := fun x hx => by
    have := List.mem_filter.mp hx
    exact oth_mem.mpr ⟨hW.2.2.2 x this.1, of_decide_eq_true this.2⟩
  have nX : (W'.filter fun x => decide (x ∉ am)).Nodup := ndW.sublist List.filter_sublist
  generalize (W'.filter fun x => decide (x ∉ am)) = X at pX hX nX
  have lX := pX.length_eq
  rw [List.length_append] at lX
  have pY := part_perm nX (oth_nd am n) hX
  generalize ((oth am n).filter fun x => decide (x ∉ X)) = Y at pY
  have lY := pY.length_eq
  rw [List.length_append] at lY
  have lr := pr.length_eq
  have es : rest.map (fun i : Int => ns.getD i.toNat 0) = srt ((oth am n).map fun i : Int => ns.getD i.toNat 0) := by
    refine srt_eq (pr.map _) (List.pairwise_map.mpr (sr.imp fun {a b} h => ?_))
    unfold KLe byBal at h
    simp only at h
    omega
  have hm : SS ((oth am n).map fun i : Int => ns.getD i.toNat 0) X.length ≤ (X.map fun i : Int => ns.getD i.toNat 0).sum := by
    have q : ((X.map fun i : Int => ns.getD i.toNat 0) ++ (Y.map fun i : Int => ns.getD i.toNat 0)).Perm ((oth am n).map fun i : Int => ns.getD i.toNat 0) := by
      rw [← List.map_append]
      exact pY.map _
    have := SS_min q
    rwa [List.length_map] at this
  have e1 : W'.length - am.length = X.length := by omega
  refine ⟨by omega, by omega, ?_⟩
  have e2 : selSum ns W' = selSum ns (am ++ X) := by
    unfold selSum
    exact perm_sum (pX.symm.map _)
  rw [e2, e1]
  unfold selSum
  rw [List.map_append, List.map_append, List.sum_append, List.sum_append, List.map_take, es]
  unfold SS at hm
  omega
/-- the one tightest set -/
def TgD (g : Int) (ns am W : List Int) : Prop := ∃ (rest : List Int) (Ws : List (List Int)) (j : Nat), rest.Perm (oth am ns.length) ∧ rest.Pairwise (KLe (byBal ns)) ∧ Ws.length = rest.length + 1 ∧
  (∀ j, j < rest.length + 1 → (Ws.getD j []).Perm (am ++ rest.take j) ∧ (Ws.getD j []).Pairwise (· ≤ ·)) ∧ j < Ws.length ∧ W = Ws.getD j [] ∧ BestMin (fun j => -(lackOf g ns (Ws.getD j []))) Ws.length j
theorem tg_bal {ns ms ls : List Int} (p : ms.Perm ls) (h1 : ms.Pairwise (KLe (byBal ns))) (h2 : ls.Pairwise (KLe (byBal ns))) : ms = ls :=
  p.eq_of_pairwise (fun a b _ _ h1 h2 => by
    unfold KLe byBal at h1 h2
    simp only at h1 h2
    omega) h1 h2
theorem tg_srt {a b : List Int} (p : a.Perm b) (h1 : a.Pairwise (· ≤ ·)) (h2 : b.Pairwise (· ≤ ·)) : a = b := p.eq_of_pairwise (fun a b _ _ h1 h2 => by omega) h1 h2
theorem tg_ext {as bs : List (List Int)} (hl : as.length = bs.length) (h : ∀ j, j < as.length → as.getD j [] = bs.getD j []) : as = bs := by
  refine List.ext_getElem hl fun j h1 h2 => ?_
  have := h j h1
  rw [List.getD_eq_getElem?_getD, List.getD_eq_getElem?_getD, List.getElem?_eq_getElem h1, List.getElem?_eq_getElem h2] at this
  exact this
theorem TgD.uniq {g : Int} {ns am W W' : List Int} (h : TgD g ns am W) (h' : TgD g ns am W') : W = W' := by
  obtain ⟨rest, Ws, j, p, s, l, w, hj, rfl, b⟩ := h
  obtain ⟨rest', Ws', j', p', s', l', w', hj', rfl, b'⟩ := h'
  obtain rfl := tg_bal (p.trans p'.symm) s s'
  have e : Ws = Ws' := tg_ext (by omega) fun j hj => tg_srt ((w j (by omega)).1.trans (w' j (by omega)).1.symm) (w j (by omega)).2 (w' j (by omega)).2
  subst e
  have b1 := b j' hj'
  have b2 := b' j hj
  have ej : j = j' := by
    rcases Nat.lt_trichotomy j j' with c | c | c
    · have := b2.2 c
      omega
    · exact c
    · have := b1.2 c
      omega
  rw [ej]
def sp_tightest_set (K : PySem.W.Frag) (T : List (Addr × Str)) : Sp := fun vs H Q _ => ∃ (p q : Addr) (ns am : List Int) (g : Int), vs = [.ref p, .int g, .ref q] ∧ SqT K H p (ns.map V.int) ∧ H q = some (.lst (am.map V.int)) ∧ 1 ≤ am.length ∧ ns.length ≤ 40 ∧ am.Nodup ∧ (∀ i ∈ am, 0 ≤ i ∧ i < (ns.length : Int)) ∧ 1 ≤ g ∧ Tabs T H ∧
  ∀ t H' (W : List Int), Kt T H H' → H' t = some (.tup (W.map V.int)) → TgS g ns am W → TgD g ns am W → Q (.ref t) H'
theorem ok_tightest_set {f c pt : Addr} {fd : FuncData} {k : Nat} {T : List (Addr × Str)} (F : Fun K "tightest_set" "tightest_set" s_tightest_set f fd) (hcd : fd.code = .ref c) (TB : TabB base mg c pt) (hmT : (pt, qLam "tightest_set") ∈ T) (huT : ∀ r ∈ T, r.1 = pt → r.2 = qLam "tightest_set") (m_range : mg "range" = none) (m_len : mg "len" = none) (m_tuple : mg "tuple" = none) (m_sorted : mg "sorted" = none) (m_min : mg "min" = none)
    (C_poorest_first : Cl P w K mg base CX0 4 "poorest_first" 2 (sp_poorest_first K T)) (C_slack : Cl P w K mg base CX0 3 "slack" 3 (sp_slack K)) :
    FnG P w K mg base CX0 (k + 7) f fd ["balances", "budget", "taken"] (sp_tightest_set K T) := by
  refine okC F hcd sc_tightest_set (fun vs H Q E h => ?_) (fun A outer s H vs Q E gd hr h => ?_)
  · obtain ⟨p, q, ns, am, g, rfl, _⟩ := h
    rfl
  · obtain ⟨p, q, ns, am, g, rfl, hp, hq, hl1, hl, nd, ha, hg, hT, w⟩ := h
    refine ⟨_, (pss_cons (ps_setLcW (i := 3) (own := [("at", 6)]) (g := (gName 6)) rfl sc_tightest_set.nd rfl rfl (sw_true rfl rfl rfl (by decide +kernel)) (pi_range1 (by rfl) m_range (pa_cons (pe_callB (call_len_seqK (K := K) rfl) (by rfl) m_len (by decide +kernel) (pa_cons (pv 0) pa_nil)) pa_nil)) (blkOk_by (own := [("at", 6)]) (N := ["balances", "budget", "taken", "others", "rest", "choices", "at", "more", "senders"]) (sc := defScope s_tightest_set) (by decide +kernel)) (fun _ _ _ _ _ => (pg_name (i := 6) sc_tightest_set.nd rfl (.inl rfl))) (fun _ _ _ _ _ => (pts_one (pt_cmpR (op_notInI (K := K) rfl) (pv 6) (pv 2) rfl))) (fun _ _ _ _ _ => (pv 6)))
      (pss_cons (ps_set (i := 4) sc_tightest_set.nd rfl (.inr rfl) (pe_cl C_poorest_first (hr.mono (by omega)) gd pass0 (by rfl) (pa_cons (pv 0) (pa_cons (pv 3) pa_nil))))
      (pss_cons (ps_setLcW (i := 5) (own := [("more", 7)]) (g := (gName 7)) rfl sc_tightest_set.nd rfl rfl (sw_true rfl rfl rfl (by decide +kernel)) (pi_range1 (by rfl) m_range (pa_cons (pe_op op_add (pe_callB (call_len_seqK (K := K) rfl) (by rfl) m_len (by decide +kernel) (pa_cons (pv 4) pa_nil)) pe_int) pa_nil)) (blkOk_by (own := [("more", 7)]) (N := ["balances", "budget", "taken", "others", "rest", "choices", "at", "more", "senders"]) (sc := defScope s_tightest_set) (by decide +kernel)) (fun _ _ _ _ _ => (pg_name (i := 7) sc_tightest_set.nd rfl (.inl rfl))) (fun _ _ _ _ _ => pts_nil) (fun _ _ _ _ _ => (pe_callTy (call_tupLK (K := K) rfl) (by rfl) m_tuple (by decide +kernel) (pa_cons (pe_callB (cr_srtLK (K := K) rfl) (by rfl) m_sorted (by decide +kernel) (pa_cons (pe_op op_catI (pv 2) (pe_slice (sl_liToK (K := K) rfl) (pv 4) po_none (po_some (pv 7)))) pa_nil)) pa_nil))))
      (pss_one (ps_ret (pe_minK (K := K) (T := T) (k := 0) (i := 8) rfl TB rfl hmT huT (hr.mono (by omega)) (lam1_by (sc := defScope s_tightest_set) (by decide +kernel)) sc_tightest_set.nd rfl rfl (fun _ _ _ _ _ _ => rfl) (fun _ _ _ _ => (pe_cl C_slack ((hr.in1.deeper _).mono (by omega)) gd pass0 (by rfl) (pa_cons (pv 0) (pa_cons (pv 1) (pa_cons (pv 8) pa_nil))))) (by rfl) m_min (pa_cons (pv 5) pa_nil))))))), ?_⟩
    refine ⟨_, rfl, p, _, rfl, .inr hp, ns.length, by rw [List.length_map], by omega, by omega, _, _, _, walk_rg, small1000 (by omega), fun D H1 nD k1 hD => ?_⟩
    have nqD : q ≠ D := ne_of_none hq nD
    refine ⟨fun i acc H2 => acc = (oth am i).map V.int ∧ Kp [] H H2, ⟨rfl, k1⟩, fun _ _ _ _ _ => trivial, ?_, ?_⟩
    · rintro i acc x _ H2 hi ⟨ea, k2⟩ hD2 ⟨rfl, rfl⟩
      refine ⟨rfl, _, rfl, _, rfl, q, am, _, rfl, rfl, .inl (sqL (k2.at0 hq)), _, rfl, ?_⟩
      rw [show (0 : Int) + (i : Int) = (i : Int) by omega]
      by_cases c : (i : Int) ∈ am
      · rw [decide_eq_true c]
        refine (show if (!true) = true then _ else _ from iteF ?_)
        exact ⟨hD2, by rw [oth_yes c]; exact ea, k2⟩
      · rw [decide_eq_false c]
        refine (show if (!false) = true then _ else _ from iteT ?_)
        refine ⟨_, rfl, hD2, fun H3 m3 h3 => ⟨?_, k2.md (.inl nD) m3⟩⟩
        rw [oth_no c, List.map_append, ea]
        rfl
    rintro acc H2 _ hD2 ⟨ea, k2⟩
    rw [show ((ns.length : Int)).toNat = ns.length by omega] at ea
    subst ea
    have ol := oth_len nd ha
    refine ⟨_, rfl, _, rfl, p, D, ns, oth am ns.length, rfl, k2.tup0 hp, sqL hD2, by omega, fun i hi => (oth_mem.mp hi).1, k2.kt.tab hT, fun l H3 rest k3 nl h3 pr sr => ?_⟩
    have rl := pr.length_eq
    have k3 := k2.kt.trans k3
    have hq3 := k3.atL hq
    have hp3 := k3.tup0 hp
    -- choices
    refine ⟨_, rfl, l, _, rfl, .inl (sqL h3), _, _, rfl, rfl, ?_⟩
    rw [List.length_map]
    refine ⟨_, rfl, by omega, by omega, _, _, _, walk_rg, small1000 (by omega), fun D2 H4 nD2 k4 hD4 => ?_⟩
    refine ⟨fun i acc H5 => ∃ Ws : List (List Int), Rt H5 acc Ws ∧ Ws.length = i ∧ (∀ j, j < i → (Ws.getD j []).Perm (am ++ rest.take j) ∧ (Ws.getD j []).Pairwise (· ≤ ·)) ∧ Kp [] H3 H5 ∧ IL H5 q am ∧ IL H5 l rest, ⟨[], .nil, rfl, fun j hj => absurd hj (Nat.not_lt_zero j), k4, k4.at0 hq3, k4.at0 h3⟩, fun _ _ _ _ _ => trivial, ?_, ?_⟩
    · rintro i acc x _ H5 hi ⟨Ws, hR, el, hW, k5, hq5, hl5⟩ hD5 ⟨rfl, rfl⟩
      have nqD2 : q ≠ D2 := ne_of_none hq3 nD2
      have nlD2 : l ≠ D2 := ne_of_none h3 nD2
      refine ⟨rfl, yesT ?_⟩
      refine ⟨_, rfl, _, rfl, _, rfl, _, rfl, l, rest, _, rfl, rfl, rfl, sqL hl5, show (0 : Int) ≤ 0 + (i : Int) by omega, fun s4 H6 n4 k6 h6 => ?_⟩
      have h6 : H6 s4 = some (.lst ((rest.take (0 + (i : Int)).toNat).map V.int)) := h6
      rw [show (0 + (i : Int)).toNat = i by omega] at h6
      refine ⟨q, s4, am, rest.take i, rfl, rfl, k6.at0 hq5, h6, ?_, fun s5 H7 n5 k7 h7 => ?_⟩
      · exact Nat.le_trans (show am.length + (rest.take i).length ≤ 40 by rw [List.length_take]; omega) (Nat.le_of_ble_eq_true rfl)
      refine ⟨s5, _, rfl, sqL h7, fun W pW sW s6 H8 n6 k8 h8 => ?_⟩
      refine ⟨s6, _, rfl, sqL h8, fun s7 H9 n7 k9 h9 => ?_⟩
      have k69 := ((k6.trans k7).trans k8).trans k9
      have hD9 := k69.at0 hD5
      refine ⟨hD9, fun H10 m10 h10 => ?_⟩
      refine ⟨Ws ++ [W], ((hR.kp0 k69).mdl hD9 m10).app (.one ((m10 s7 (fun z => by rw [z, hD9] at h9; cases h9)).trans h9)), by rw [List.length_append, el]; rfl, fun j hj => ?_, (k5.trans k69).md (.inl nD2) m10, (m10 q nqD2).trans (k69.at0 hq5), (m10 l nlD2).trans (k69.at0 hl5)⟩
      by_cases c : j < i
      · rw [List.getD_eq_getElem?_getD, List.getElem?_append_left (by omega), ← List.getD_eq_getElem?_getD]
        exact hW j c
      · have ej : j = i := by omega
        subst ej
        rw [List.getD_eq_getElem?_getD, List.getElem?_append_right (by omega), el, Nat.sub_self]
        exact ⟨pW, sW⟩
    rintro acc H5 _ hD5 ⟨Ws, hR, el, hW, k5, hq5, hl5⟩
    have k5' := k3.kp k5
    rw [show ((rest.length : Int) + 1).toNat = rest.length + 1 by omega] at el hW
    have al := hR.len
    have good : ∀ j, j < rest.length + 1 → GoodS ns.length (Ws.getD j []) ∧ (∀ i ∈ am, i ∈ Ws.getD j []) ∧ (Ws.getD j []).length = am.length + j := fun j hj => by
      obtain ⟨pW, sW⟩ := hW j hj
      have hlen : (Ws.getD j []).length = am.length + j := by
        rw [pW.length_eq, List.length_append, List.length_take]
        omega
      have ndr : rest.Nodup := pr.nodup_iff.mpr (oth_nd am ns.length)
      have hr : ∀ x ∈ rest.take j, (0 ≤ x ∧ x < (ns.length : Int)) ∧ x ∉ am := fun x hx => oth_mem.mp (pr.mem_iff.mp (List.mem_of_mem_take hx))
      have ndW : (Ws.getD j []).Nodup := pW.nodup_iff.mpr (List.nodup_append.mpr ⟨nd, ndr.sublist (List.take_sublist _ _), fun x h1 y h2 e => (hr y h2).2 (by rw [← e]; exact h1)⟩)
      refine ⟨⟨fun z => by rw [z] at hlen; simp at hlen; omega, by omega, (sW.and ndW).imp fun {a b} h => by have := h.1; have := h.2; omega, fun x hx => ?_⟩, fun x hx => pW.mem_iff.mpr (List.mem_append_left _ hx), hlen⟩
      rcases List.mem_append.mp (pW.mem_iff.mp hx) with z | z
      · exact ha x z
      · exact (hr x z).1
    refine ⟨_, rfl, D2, acc, rfl, sqL hD5, by omega, k5'.tab hT, fun H6 k6 => ⟨fun j => -(lackOf g ns (Ws.getD j [])), fun j v hv H7 k7 => ?_, fun j v H7 hv hbest k7 => ?_⟩⟩
    · obtain ⟨u, rfl, hj, hu⟩ := hR.get hv
      obtain ⟨g1, g2, g3⟩ := good j (by omega)
      have hu7 := k7.at0 (k6.atT hu)
      refine ⟨_, rfl, _, rfl, _, rfl, p, u, ns, _, g, rfl, k7.tup0 (k6.tup0 (k5'.tup0 hp)), sqT hu7, g1.2.1, g1.2.2.2, fun H8 k8 => ⟨k8, ?_⟩⟩
      rw [slack_lack]
    · obtain ⟨u, rfl, hj, hu⟩ := hR.get hv
      obtain ⟨g1, g2, g3⟩ := good j (by omega)
      refine w u H7 _ ((k5'.trans k6).kp k7) (k7.at0 (k6.atT hu)) ⟨g1, g2, fun W' hW' hin => ?_⟩ ⟨rest, Ws, j, pr, sr, el, hW, by omega, rfl, by rw [← al]; exact hbest⟩
      obtain ⟨c1, c2, c3⟩ := choice_min nd ha pr sr hW' hin
      have hb := (hbest (W'.length - am.length) (by omega)).1
      obtain ⟨pW, sW⟩ := hW (W'.length - am.length) (by omega)
      obtain ⟨_, _, g6⟩ := good (W'.length - am.length) (by omega)
      have e1 : selSum ns (Ws.getD (W'.length - am.length) []) = selSum ns (am ++ rest.take (W'.length - am.length)) := by
        unfold selSum
        exact perm_sum (pW.map _)
      have hb : -(lackOf g ns (Ws.getD j [])) ≤ -(lackOf g ns (Ws.getD (W'.length - am.length) [])) := hb
      have h3 : lackOf g ns W' ≤ lackOf g ns (Ws.getD (W'.length - am.length) []) := by
        unfold lackOf
        rw [g6, e1, show am.length + (W'.length - am.length) = W'.length by omega]
        omega
      omega
/-! ### upper -/
theorem up_ext {as bs : List (List Int)} (hl : as.length = bs.length) (h : ∀ j, j < as.length → as.getD j [] = bs.getD j []) : as = bs := by
  refine List.ext_getElem hl fun j h1 h2 => ?_
  have := h j h1
  rw [List.getD_eq_getElem?_getD, List.getD_eq_getElem?_getD, List.getElem?_eq_getElem h1, List.getElem?_eq_getElem h2] at this
  exact this
def UpD (g : Int) (ns ws : List Int) (rs : List (Int × List Int)) : Prop := ∃ (ms : List Int) (Ws : List (List Int)), ms.Perm (upto ns.length) ∧ ms.Pairwise (KLe (byPr ws)) ∧ Ws.length = ns.length ∧ (∀ j, j < ms.length → TgD g ns (ms.take (j + 1)) (Ws.getD j [])) ∧ rs = swp (foldF (prl ws ms) Ws Ws.length)
theorem UpD.uniq {g : Int} {ns ws : List Int} {rs rs' : List (Int × List Int)} (h : UpD g ns ws rs) (h' : UpD g ns ws rs') : rs = rs' := by
  obtain ⟨ms, Ws, p, s, l, w, rfl⟩ := h
  obtain ⟨ms', Ws', p', s', l', w', rfl⟩ := h'
  obtain rfl := order_uniq (p.trans p'.symm) s s'
  have ml := p.length_eq
  rw [upto_len] at ml
  have e : Ws = Ws' := up_ext (by omega) fun j hj => (w j (by omega)).uniq (w' j (by omega))
  rw [e]
/-- rows that cover the values and spare together what some safe balances below lose -/
def UpB (g : Int) (ns ws : List Int) (rs : List (Int × List Int)) : Prop := RowsOk ns.length rs ∧ (∀ i : Nat, i < ns.length → ws.getD i 0 ≤ rsum (ind (i : Int)) rs) ∧ rs.length ≤ 40 ∧ (∀ B : Int, (∀ x ∈ ws, x ≤ B) → ∀ r ∈ rs, r.1 ≤ B) ∧
  ∃ fs : List Int, fs.length = ns.length ∧ gapOf g fs = none ∧ (∀ i, i < ns.length → fs.getD i 0 ≤ ns.getD i 0) ∧ -(rsum (lackOf g ns) rs) = dot ws fs ns
def sp_upper_bound (K : PySem.W.Frag) (T : List (Addr × Str)) : Sp := fun vs H Q _ => ∃ (p w : Addr) (ns ws : List Int) (g : Int), vs = [.ref p, .ref w, .int g] ∧ SqT K H p (ns.map V.int) ∧ SqT K H w (ws.map V.int) ∧ ws.length = ns.length ∧ 1 ≤ ns.length ∧ ns.length ≤ 40 ∧ 1 ≤ g ∧ gapOf g ns = none ∧ (∀ x ∈ ws, 0 ≤ x) ∧ Tabs T H ∧
  ∀ t H' (ys : List V) (rs : List (Int × List Int)), Kt T H H' → Nt H t → H' t = some (.tup ys) → Rr H' ys rs → UpB g ns ws rs → UpD g ns ws rs → Q (.ref t) H'
theorem ok_upper_bound {f : Addr} {fd : FuncData} {k : Nat} {T : List (Addr × Str)} (F : Fun K "upper_bound" "upper_bound" s_upper_bound f fd) (m_range : mg "range" = none) (m_len : mg "len" = none)
    (C_require_safe : Cl P w K mg base CX0 6 "require_safe" 2 (sp_require_safe K T)) (C_dearest_first : Cl P w K mg base CX0 4 "dearest_first" 1 (sp_dearest_first K T)) (C_tightest_set : Cl P w K mg base CX0 7 "tightest_set" 3 (sp_tightest_set K T)) (C_rows_of_falls : Cl P w K mg base CX0 5 "rows_of_falls" 2 (sp_rows_of_falls K T)) :
    FnG P w K mg base CX0 (k + 8) f fd ["balances", "values", "budget"] (sp_upper_bound K T) := by
  refine ok0 F sc_upper_bound (fun vs H Q E h => ?_) (fun cdv A outer s H vs Q E gd hr h => ?_)
  · obtain ⟨p, wa, ns, ws, g, rfl, _⟩ := h
    rfl
  · obtain ⟨p, wa, ns, ws, g, rfl, hp, hw, wl, hl1, hl, hg, eg, h0, hT, q⟩ := h
    refine ⟨_, (pss_cons (ps_expr (pe_cl C_require_safe (hr.mono (by omega)) gd pass0 (by rfl) (pa_cons (pv 0) (pa_cons (pv 2) pa_nil))))
      (pss_cons (ps_set (i := 3) sc_upper_bound.nd rfl (.inr rfl) (pe_cl C_dearest_first (hr.mono (by omega)) gd pass0 (by rfl) (pa_cons (pv 1) pa_nil)))
      (pss_cons (ps_setLcW (i := 4) (own := [("at", 5)]) (g := (gName 5)) rfl sc_upper_bound.nd rfl rfl (sw_true rfl rfl rfl (by decide +kernel)) (pi_range1 (by rfl) m_range (pa_cons (pe_callB (call_len_seqK (K := K) rfl) (by rfl) m_len (by decide +kernel) (pa_cons (pv 3) pa_nil)) pa_nil)) (blkOk_by (own := [("at", 5)]) (N := ["balances", "values", "budget", "order", "groups", "at"]) (sc := defScope s_upper_bound) (by decide +kernel)) (fun _ _ _ _ _ => (pg_name (i := 5) sc_upper_bound.nd rfl (.inl rfl))) (fun _ _ _ _ _ => pts_nil) (fun _ _ _ _ _ => (pe_cl C_tightest_set (hr.mono (by omega)) gd pass0 (by rfl) (pa_cons (pv 0) (pa_cons (pv 2) (pa_cons (pe_slice (sl_liToK (K := K) rfl) (pv 3) po_none (po_some (pe_op op_add (pv 5) pe_int))) pa_nil))))))
      (pss_one (ps_ret (pe_cl C_rows_of_falls (hr.mono (by omega)) gd pass0 (by rfl) (pa_cons (pv 1) (pa_cons (pv 4) pa_nil)))))))), ?_⟩
    refine ⟨_, rfl, _, rfl, p, ns, g, rfl, hp, hl1, hl, hg, eg, hT, fun H0 k0 => ?_⟩
    refine ⟨_, rfl, wa, ws, rfl, k0.tup0 hw, by omega, k0.kt.tab hT, fun l H1 ms k1 nl h1 pm sm => ?_⟩
    have k1 := k0.kt.trans k1
    have pm2 := pm
    rw [wl] at pm2
    have ml : ms.length = ns.length := by rw [pm2.length_eq, upto_len]
    have hp1 := k1.tup0 hp
    have hw1 := k1.tup0 hw
    have hT1 := k1.tab hT
    refine ⟨_, rfl, l, _, rfl, .inl (sqL h1), ?_⟩
    rw [List.length_map]
    refine ⟨_, rfl, by omega, by omega, _, _, _, walk_rg, small1000 (by omega), fun D H2 nD k2 hD => ?_⟩
    have zD : Nt H D := k1.nt0 nD
    have ndms : ms.Nodup := pm2.nodup_iff.mpr (upto_nd ns.length)
    have hms : ∀ i ∈ ms, 0 ≤ i ∧ i < (ns.length : Int) := fun i hi => up_mem.mp (pm2.mem_iff.mp hi)
    refine ⟨fun i acc H3 => ∃ Ws : List (List Int), Rt H3 acc Ws ∧ Ws.length = i ∧ (∀ j, j < i → TgS g ns (ms.take (j + 1)) (Ws.getD j []) ∧ TgD g ns (ms.take (j + 1)) (Ws.getD j [])) ∧ Kt T H H3 ∧ H3 l = some (.lst (ms.map V.int)), ⟨[], .nil, rfl, fun j hj => absurd hj (Nat.not_lt_zero j), k1.kp k2, k2.at0 h1⟩, fun _ _ _ _ _ => trivial, ?_, ?_⟩
    · rintro i acc x _ H3 hi ⟨Ws, hR, el, hW, k3, hl3⟩ hD3 ⟨rfl, rfl⟩
      have hi : i < ms.length := by omega
      refine ⟨rfl, yesT ?_⟩
      refine ⟨_, rfl, _, rfl, _, rfl, _, rfl, _, _, rfl, rfl, _, rfl, l, ms, _, rfl, rfl, rfl, sqL hl3, show (0 : Int) ≤ 0 + (i : Int) + 1 by omega, fun s4 H4 n4 k4 h4 => ?_⟩
      have h4 : H4 s4 = some (.lst ((ms.take (0 + (i : Int) + 1).toNat).map V.int)) := h4
      rw [show (0 + (i : Int) + 1).toNat = i + 1 by omega] at h4
      have k4' := k3.kp k4
      have tl : (ms.take (i + 1)).length = i + 1 := by rw [List.length_take]; omega
      refine ⟨p, s4, ns, ms.take (i + 1), g, rfl, k4'.tup0 hp, h4, by omega, by omega, ndms.sublist (List.take_sublist _ _), fun j hj => hms j (List.mem_of_mem_take hj), hg, k4'.tab hT, fun t H5 W k5 h5 hK hKD => ?_⟩
      have hD5 := k5.atL (k4.at0 hD3)
      refine ⟨hD5, fun H6 m6 h6 => ?_⟩
      refine ⟨Ws ++ [W], ((hR.kp0 k4).kt k5 |>.mdl hD5 m6).app (.one ((m6 t (fun z => by rw [z, hD5] at h5; cases h5)).trans h5)), by rw [List.length_append, el]; rfl, fun j hj => ?_, (k4'.trans k5).md zD hD5 m6, (m6 l (ne_of_none h1 nD)).trans (k5.atL (k4.at0 hl3))⟩
      by_cases c : j < i
      · rw [List.getD_eq_getElem?_getD, List.getElem?_append_left (by omega), ← List.getD_eq_getElem?_getD]
        exact hW j c
      · have ej : j = i := by omega
        subst ej
        rw [List.getD_eq_getElem?_getD, List.getElem?_append_right (by omega), el, Nat.sub_self]
        exact ⟨hK, hKD⟩
    rintro acc H3 _ hD3 ⟨Ws, hR, el, hW, k3, hl3⟩
    rw [show ((ms.length : Int)).toNat = ms.length by omega] at el hW
    have el2 : Ws.length = ns.length := by omega
    refine ⟨_, rfl, _, rfl, wa, D, ws, acc, Ws, rfl, k3.tup0 hw, hD3, hR, by omega, by omega, by omega, h0, k3.tab hT, fun t H4 ls ys rs k4 nt ht hRr pl sl hF hfo nd hr hln => ?_⟩
    have els : ls = ms := order_uniq (pl.trans pm.symm) sl sm
    subst els
    refine q t H4 ys rs (k3.trans k4) (k3.nt nt) ht hRr ⟨⟨fun r hr2 => ?_, nd⟩, up_loads hF pm2 sm h0 el2 (fun j hj i hi => (hW j (by omega)).1.2.1 i hi), hln, fun B hB r hr2 => ?_, up_worth hg rfl hl wl eg pm2 hF el2 (fun j hj => (hW j (by omega)).1)⟩ ⟨ls, Ws, pm2, sl, el2, fun j hj => (hW j hj).2, hfo⟩
    · obtain ⟨a1, a2, a3, a4⟩ := hr r hr2
      obtain ⟨j, hj, ej⟩ := List.getElem_of_mem a1
      refine ⟨a3, ?_⟩
      have := (hW j (by omega)).1.1
      rw [List.getD_eq_getElem?_getD, List.getElem?_eq_getElem hj] at this
      have this : GoodS ns.length Ws[j] := this
      rw [ej] at this
      exact this
    · obtain ⟨a1, a2, a3, a4⟩ := hr r hr2
      rw [prl_at (by omega)] at a4
      have := hms (ls.getD 0 0) (by rw [getD_at' (by omega)]; exact List.getElem_mem _)
      rw [getD_at' (show (ls.getD 0 0).toNat < ws.length by omega)] at a4
      exact Int.le_trans a4 (hB _ (List.getElem_mem _))
theorem neg_sum {α : Type} (f : α → Int) : ∀ l : List α, (l.map fun r => -(f r)).sum = -((l.map f).sum)
  | [] => rfl
  | x :: l => by
    rw [List.map_cons, List.map_cons, List.sum_cons, List.sum_cons, neg_sum f l]
    omega
def sp_shows_upper_bound (K : PySem.W.Frag) : Sp := fun vs H Q _ => ∃ (p w t : Addr) (ns ws : List Int) (g : Int) (av : V) (xs : List V) (rs : List (Int × List Int)), vs = [.ref p, .ref w, .int g, av, .ref t] ∧ Kn K H av ∧ SqT K H p (ns.map V.int) ∧ SqT K H w (ws.map V.int) ∧ ws.length = ns.length ∧ ns.length ≤ 40 ∧ SqT K H t xs ∧ Rr H xs rs ∧ RowsOk ns.length rs ∧ rs.length < 64 ∧ (∀ r ∈ rs, r.1 < 2 ^ 63) ∧
  ∀ H', Kp [] H H' → Q (.bl (decide ((∀ i : Nat, i < ns.length → ws.getD i 0 ≤ rsum (ind (i : Int)) rs) ∧ av = .int (-(rsum (lackOf g ns) rs))))) H'
theorem ok_shows_upper_bound {f : Addr} {fd : FuncData} {k : Nat} (F : Fun K "shows_upper_bound" "shows_upper_bound" s_shows_upper_bound f fd) (m_any : mg "any" = none) (m_len : mg "len" = none) (m_zip : mg "zip" = none) (m_sum : mg "sum" = none)
    (C_is_integer : Cl P w K mg base CX0 1 "is_integer" 1 (sp_is_integer K)) (C_is_rows : Cl P w K mg base CX0 5 "is_rows" 2 (sp_is_rows K)) (C_loads : Cl P w K mg base CX0 1 "loads" 2 (sp_loads K)) (C_slack : Cl P w K mg base CX0 3 "slack" 3 (sp_slack K)) :
    FnG P w K mg base CX0 (k + 6) f fd ["balances", "values", "budget", "amount", "thing"] (sp_shows_upper_bound K) := by
  refine ok0 F sc_shows_upper_bound (fun vs H Q E h => ?_) (fun cdv A outer s H vs Q E gd hr h => ?_)
  · obtain ⟨p, wa, t, ns, ws, g, av, xs, rs, rfl, _⟩ := h
    rfl
  · obtain ⟨p, wa, t, ns, ws, g, av, xs, rs, rfl, hav, hp, hw, wl, hl, ht, hX, hO, hrl, hB, q⟩ := h
    refine ⟨_, (pss_cons (ps_if (PW.pt (pw_or (pt_not (pt_val (pe_cl C_is_integer (hr.mono (by omega)) gd pass0 (by rfl) (pa_cons (pv 3) pa_nil)))) (pw_or1 (pt_not (pt_val (pe_cl C_is_rows (hr.mono (by omega)) gd pass0 (by rfl) (pa_cons (pv 4) (pa_cons (pe_callB (call_len_seqK (K := K) rfl) (by rfl) m_len (by decide +kernel) (pa_cons (pv 0) pa_nil)) pa_nil))))))))
      (pss_one (ps_ret pe_bl))
      pss_nil)
      (pss_cons (ps_if (pt_val (pe_callB (cr_anyK (K := K) rfl rfl) (by rfl) m_any (by decide +kernel) (pa_cons (pe_lcW (own := [("load", 5), ("value", 6)]) (g := (gTup K 2 (gCons (gName 5) (gCons (gName 6) gNil)))) rfl sc_shows_upper_bound.nd (pi_z2 (K := K) true false rfl (by rfl) m_zip (pa_cons (pe_cl C_loads (hr.mono (by omega)) gd pass0 (by rfl) (pa_cons (pv 4) (pa_cons (pe_callB (call_len_seqK (K := K) rfl) (by rfl) m_len (by decide +kernel) (pa_cons (pv 0) pa_nil)) pa_nil))) (pa_cons (pv 1) pa_nil))) (blkOk_by (own := [("load", 5), ("value", 6)]) (N := ["balances", "values", "budget", "amount", "thing", "load", "value", "multiplier", "senders"]) (sc := defScope s_shows_upper_bound) (by decide +kernel)) (fun _ _ _ _ _ => (pg_tup rfl (pgs_cons (pg_name (i := 5) sc_shows_upper_bound.nd rfl (.inl rfl)) (pgs_cons (pg_name (i := 6) sc_shows_upper_bound.nd rfl (.inl rfl)) pgs_nil)))) (fun _ _ _ _ _ => pts_nil) (fun _ _ _ _ _ => (pe_cmpR op_lt (pv 5) (pv 6) (nomark _)))) pa_nil)))
      (pss_one (ps_ret pe_bl))
      pss_nil)
      (pss_one (ps_ret (pe_cmpR op_eq (pv 3) (pe_callB (cr_sumK (K := K) rfl rfl) (by rfl) m_sum (by decide +kernel) (pa_cons (pe_lcW (own := [("multiplier", 7), ("senders", 8)]) (g := (gTup K 2 (gCons (gName 7) (gCons (gName 8) gNil)))) rfl sc_shows_upper_bound.nd (pi_tup (pv 4)) (blkOk_by (own := [("multiplier", 7), ("senders", 8)]) (N := ["balances", "values", "budget", "amount", "thing", "load", "value", "multiplier", "senders"]) (sc := defScope s_shows_upper_bound) (by decide +kernel)) (fun _ _ _ _ _ => (pg_tup rfl (pgs_cons (pg_name (i := 7) sc_shows_upper_bound.nd rfl (.inl rfl)) (pgs_cons (pg_name (i := 8) sc_shows_upper_bound.nd rfl (.inl rfl)) pgs_nil)))) (fun _ _ _ _ _ => pts_nil) (fun _ _ _ _ _ => (pe_op op_mul (pv 7) (pe_cl C_slack (hr.mono (by omega)) gd pass0 (by rfl) (pa_cons (pv 0) (pa_cons (pv 2) (pa_cons (pv 8) pa_nil))))))) pa_nil)) (nomark _)))))), ?_⟩
    have xl := hX.len
    refine ⟨_, rfl, av, rfl, hav, _, rfl, ?_⟩
    cases av with
    | int a => ?_
    | _ =>
      refine (show if (!false) = true then _ else _ from iteT ?_)
      have := q H Kp.refl
      rw [decide_eq_false (fun z => nomatch z.2)] at this
      exact this
    refine (show if (!true) = true then _ else _ from iteF ?_)
    refine ⟨_, rfl, _, rfl, p, _, rfl, .inr hp, t, xs, rs, ns.length, by rw [List.length_map]; rfl, ht, hX, hO, hrl, fun H1 k1 => ?_⟩
    refine ⟨_, rfl, ?_⟩
    refine (show if (!true) = true then _ else _ from iteF ?_)
    have hp1 := k1.tup0 hp
    refine ⟨_, rfl, _, rfl, p, _, rfl, .inr hp1, t, xs, rs, ns.length, by rw [List.length_map]; rfl, k1.tup0 ht, hX.kp0 k1, fun r hr => (hO.1 r hr).2, hrl, hl, fun l H2 nl k2 h2 => ?_⟩
    have hw2 := (k1.trans k2).tup0 hw
    have k2 := k1.trans k2
    refine ⟨_, rfl, l, _, wa, _, rfl, sqL h2, hw2, _, _, _, walk_z2 (ns := ldL ns.length rs) (ms := ws) (n := ns.length) (by rw [ldL_len]; omega), small1000 (by omega), fun D H3 nD k3 hD => ?_⟩
    refine ⟨fun i acc H4 => acc = ((List.range i).map fun j => decide ((ldL ns.length rs).getD j 0 < ws.getD j 0)).map V.bl ∧ Kp [] H H4 ∧ IL H4 l (ldL ns.length rs) ∧ SqT K H4 wa (ws.map V.int), ⟨rfl, k2.trans k3, k3.at0 h2, k3.tup0 hw2⟩, fun _ _ _ _ ⟨_, _, z1, z2⟩ => ⟨sqL z1, z2⟩, ?_, ?_⟩
    · rintro i acc x H4 H5 hi ⟨ea, k4, hl4, hw4⟩ hD4 ⟨T, rfl, nT, kT, hT⟩
      have hD5 := kT.at0 hD4
      refine ⟨T, _, rfl, sqT hT, rfl, _, _, rfl, _, _, rfl, rfl, rfl, yesT ?_⟩
      refine ⟨_, rfl, _, rfl, _, _, rfl, rfl, hD5, fun H6 m6 h6 => ?_⟩
      refine ⟨?_, (k4.trans kT).md (.inl (k2.free0 nD)) m6, (m6 l (ne_of_none h2 nD)).trans (kT.at0 hl4), m6.kp.tup1 hD5 (kT.tup0 hw4)⟩
      rw [List.range_succ, List.map_append, List.map_append, ea]
      rfl
    rintro acc H4 _ hD4 ⟨ea, k4, hl4, hw4⟩
    subst ea
    refine ⟨D, _, rfl, sqL hD4, _, rfl, ?_⟩
    have eany : ((List.range ns.length).map fun j => decide ((ldL ns.length rs).getD j 0 < ws.getD j 0)).any id = !decide (∀ i : Nat, i < ns.length → ws.getD i 0 ≤ rsum (ind (i : Int)) rs) := by
      by_cases c : ∀ i : Nat, i < ns.length → ws.getD i 0 ≤ rsum (ind (i : Int)) rs
      · rw [decide_eq_true c]
        rw [List.any_eq_false.mpr]
        · rfl
        · intro b hb
          obtain ⟨j, hj, rfl⟩ := List.mem_map.mp hb
          have hj := List.mem_range.mp hj
          have := c j hj
          rw [ldL_at rs hj]
          exact fun z => by have z2 : rsum (ind (j : Int)) rs < ws.getD j 0 := of_decide_eq_true z; omega
      · rw [decide_eq_false c]
        rw [List.any_eq_true.mpr]
        · rfl
        · have : ∃ i : Nat, i < ns.length ∧ ¬ ws.getD i 0 ≤ rsum (ind (i : Int)) rs := Classical.byContradiction fun z => c fun i hi => Classical.byContradiction fun w => z ⟨i, hi, w⟩
          obtain ⟨i, hi, hn⟩ := this
          refine ⟨_, List.mem_map.mpr ⟨i, List.mem_range.mpr hi, rfl⟩, ?_⟩
          rw [ldL_at rs hi]
          exact decide_eq_true (by omega)
    rw [eany]
    by_cases c : ∀ i : Nat, i < ns.length → ws.getD i 0 ≤ rsum (ind (i : Int)) rs
    · rw [decide_eq_true c]
      refine iteF ?_
      have ht4 := k4.tup0 ht
      refine ⟨_, rfl, _, rfl, t, rfl, ⟨_, ht4⟩, _, _, _, walk_tup (xs := xs), small1000 (by omega), fun D2 H5 nD2 k5 hD2 => ?_⟩
      refine ⟨fun i acc H6 => acc = ((rs.take i).map fun r => r.1 * (selSum ns r.2 - R g r.2.length)).map V.int ∧ Kp [] H H6 ∧ SqT K H6 t xs, ⟨rfl, k4.trans k5, k5.tup0 ht4⟩, fun _ _ _ _ ⟨_, _, z⟩ => z, ?_, ?_⟩
      · rintro i acc x _ H6 hi ⟨ea, k6, ht6⟩ hD6 ⟨rfl, hx⟩
        obtain ⟨b, u, rfl, hir, hb, hu⟩ := (hX.kp0 k6).get hx
        have hr1 := hO.1 _ (getRow hir)
        have hr2 := hB _ (getRow hir)
        have edr : rs.take (i + 1) = rs.take i ++ [rs.getD i (0, [])] := by
          rw [List.take_add_one, List.getElem?_eq_getElem hir, List.getD_eq_getElem?_getD, List.getElem?_eq_getElem hir]
          rfl
        generalize rs.getD i (0, []) = row at hb hu hr1 hr2 edr
        obtain ⟨m, W⟩ := row
        refine ⟨b, _, rfl, sqT hb, rfl, _, _, rfl, _, _, rfl, rfl, rfl, yesT ?_⟩
        refine ⟨_, rfl, _, rfl, _, rfl, _, rfl, p, u, ns, W, g, rfl, k6.tup0 hp, sqT hu, hr1.2.2.1, hr1.2.2.2.2, fun H7 k7 => ?_⟩
        have hD7 := k7.at0 hD6
        refine ⟨_, _, rfl, rfl, .inl ⟨by omega, by omega⟩, hD7, fun H8 m8 h8 => ?_⟩
        refine ⟨?_, (k6.trans k7).md (.inl (k4.free0 nD2)) m8, m8.kp.tup1 hD7 (k7.tup0 ht6)⟩
        rw [edr, List.map_append, List.map_append, ea]
        rfl
      rintro acc H6 _ hD6 ⟨ea, k6, ht6⟩
      rw [List.take_of_length_le (by omega)] at ea
      subst ea
      refine ⟨D2, _, rfl, sqL hD6, rfl, ?_⟩
      have e1 : (rs.map fun r => r.1 * (selSum ns r.2 - R g r.2.length)).sum = -(rsum (lackOf g ns) rs) := by
        have h1 := neg_sum (fun r : Int × List Int => r.1 * lackOf g ns r.2) rs
        unfold rsum
        rw [← h1]
        congr 1
        refine List.map_congr_left fun r _ => ?_
        unfold lackOf
        rw [← Int.mul_neg]
        congr 1
        omega
      rw [e1]
      have := q H6 k6
      by_cases c2 : a = -(rsum (lackOf g ns) rs)
      · rw [decide_eq_true ⟨c, by rw [c2]⟩] at this
        show Q (.bl (decide (V.int a = V.int _))) H6
        rw [decide_eq_true (by rw [c2])]
        exact this
      · rw [decide_eq_false (fun z => c2 (V.int.inj z.2))] at this
        show Q (.bl (decide (V.int a = V.int _))) H6
        rw [decide_eq_false (fun z => c2 (V.int.inj z))]
        exact this
    · rw [decide_eq_false c]
      refine iteT ?_
      have := q H4 k4
      rw [decide_eq_false (fun z => c z.1)] at this
      exact this
/-! ### data of tuples and lists of ints -/
theorem szA_ints : ∀ ns : List Int, szA (ns.map PyData.int) = 115 * ns.length
  | [] => rfl
  | n :: ns => by
    simp only [List.map_cons, szA, szD, List.length_cons]
    rw [szA_ints ns]
    omega
theorem ob_ti {N : Addr → Prop} {H : Hp} {p : Addr} {ns : List Int} (h : SqT K H p (ns.map V.int)) (hb : ∀ x ∈ ns, x.natAbs < 2 ^ 80) (hl : ns.length ≤ 41) : Ob K N H 0 1 20000 (.ref p) :=
  ⟨_, .tup h (.ints ns), .tuple (fun d hd => by
    obtain ⟨x, hx, rfl⟩ := List.mem_map.mp hd
    exact .int (hb x hx)) (by rw [List.length_map]; omega), by simp only [szD]; rw [szA_ints]; omega⟩
theorem ob_li {N : Addr → Prop} {H : Hp} {p : Addr} {ns : List Int} (h : H p = some (.lst (ns.map V.int))) (np : ¬ N p) (hb : ∀ x ∈ ns, x.natAbs < 2 ^ 80) (hl : ns.length ≤ 100) : Ob K N H 0 1 20000 (.ref p) :=
  ⟨_, .lst h np (.ints ns), .list (fun d hd => by
    obtain ⟨x, hx, rfl⟩ := List.mem_map.mp hd
    exact .int (hb x hx)), by simp only [szD]; rw [szA_ints]; omega⟩
theorem sh_ti {ns : List Int} (hb : ∀ x ∈ ns, x.natAbs < 2 ^ 80) (hl : ns.length ≤ 41) : Shows (.tuple (ns.map PyData.int)) :=
  Gd.shows (k := 0) (e := 1) (.tuple (fun d hd => by
    obtain ⟨x, hx, rfl⟩ := List.mem_map.mp hd
    exact .int (hb x hx)) (by rw [List.length_map]; omega)) (by decide) (by decide) (by simp only [szD]; rw [szA_ints]; omega)
/-- the heap goes on, but for the list at a -/
structure Ka (T : List (Addr × Str)) (a : Addr) (H H' : Hp) : Prop where
  f : ∀ H0, Kt T H0 H → Nt H0 a → Kt T H0 H'
  l : ∀ p xs, p ≠ a → H p = some (.lst xs) → H' p = some (.lst xs)
  t : Tabs T H → Tabs T H'
theorem Ka.of {T : List (Addr × Str)} {a : Addr} {H H1 : Hp} (k : Kt T H H1) : Ka T a H H1 := ⟨fun _ k0 _ => k0.trans k, fun _ _ _ e => k.atL e, k.tab⟩
theorem Ka.kt {T : List (Addr × Str)} {a : Addr} {H H1 H2 : Hp} (x : Ka T a H H1) (k : Kt T H1 H2) : Ka T a H H2 := ⟨fun _ k0 z => (x.f _ k0 z).trans k, fun p xs n e => k.atL (x.l p xs n e), fun h => k.tab (x.t h)⟩
theorem Ka.kp {T : List (Addr × Str)} {a : Addr} {H H1 H2 : Hp} (x : Ka T a H H1) (k : Kp [] H1 H2) : Ka T a H H2 := x.kt k.kt
theorem Ka.hand {T : List (Addr × Str)} {a : Addr} {H H1 H2 : Hp} {n : Nat} (x : Ka T a H H1) (h : Hand H1 a n) (m : Kp [a] H1 H2) : Ka T a H H2 := by
  obtain ⟨c1, c2, c3, e, r⟩ := id h
  have e : H1 a = some (.lst _) := e
  have np : ∀ q o, H1 q = some o → (∀ ys, o ≠ .lst ys) → q ≠ a := fun q o e1 n w => by
    rw [w, e] at e1
    cases e1
    exact n _ rfl
  refine ⟨fun _ k0 z => (x.f _ k0 z).hand z h m, fun p xs ne e1 => m.at1 ne (x.l p xs ne e1), fun hT r hr => ?_⟩
  obtain ⟨ps, h1, h3, h4⟩ := x.t hT r hr
  refine ⟨ps, m.at1 (np _ _ h1 fun ys w => nomatch w) h1, h3, fun pos cv hc => ?_⟩
  obtain ⟨c, e1, e2⟩ := h4 pos cv hc
  refine ⟨c, e1, m.at1 (np _ _ e2 fun ys w => ?_) e2⟩
  unfold LamX.CodeO at w
  cases w
/-! ### kz: the heap goes on, but for the hand -/
theorem Ka.mdl {T : List (Addr × Str)} {a D : Addr} {H H1 H2 H3 : Hp} {zs : List V} (x : Ka T a H H2) (y : Ka T a H H1) (nD : H1 D = none) (hD : H2 D = some (.lst zs)) (m : Md D H2 H3) : Ka T a H H3 := by
  have np : ∀ q o, H2 q = some o → (∀ ys, o ≠ .lst ys) → q ≠ D := fun q o e1 n w => by
    rw [w, hD] at e1
    cases e1
    exact n _ rfl
  refine ⟨fun _ k0 z => (x.f _ k0 z).md ((y.f _ k0 z).nt0 nD) hD m, fun p xs ne e1 => (m p (ne_of_none (y.l p xs ne e1) nD)).trans (x.l p xs ne e1), fun hT r hr => ?_⟩
  obtain ⟨ps, h1, h3, h4⟩ := x.t hT r hr
  refine ⟨ps, m.kp.at1 (np _ _ h1 fun ys w => nomatch w) h1, h3, fun pos cv hc => ?_⟩
  obtain ⟨c, e1, e2⟩ := h4 pos cv hc
  refine ⟨c, e1, m.kp.at1 (np _ _ e2 fun ys w => ?_) e2⟩
  unfold LamX.CodeO at w
  cases w
structure Kz (K : PySem.W.Frag) (T : List (Addr × Str)) (a : Addr) (H H' : Hp) : Prop where
  ka : Ka T a H H'
  q : ∀ p xs, SqT K H p xs → SqT K H' p xs
theorem Kz.refl {K : PySem.W.Frag} {T : List (Addr × Str)} {a : Addr} {H : Hp} : Kz K T a H H := ⟨Ka.of Kt.refl, fun _ _ h => h⟩
theorem Kz.kt {K : PySem.W.Frag} {T : List (Addr × Str)} {a : Addr} {H H1 H2 : Hp} (x : Kz K T a H H1) (k : Kt T H1 H2) : Kz K T a H H2 := ⟨x.ka.kt k, fun p xs h => k.tup0 (x.q p xs h)⟩
theorem Kz.kp {K : PySem.W.Frag} {T : List (Addr × Str)} {a : Addr} {H H1 H2 : Hp} (x : Kz K T a H H1) (k : Kp [] H1 H2) : Kz K T a H H2 := x.kt k.kt
theorem Kz.hand {K : PySem.W.Frag} {T : List (Addr × Str)} {a : Addr} {H H1 H2 : Hp} {n : Nat} (x : Kz K T a H H1) (h : Hand H1 a n) (m : Kp [a] H1 H2) : Kz K T a H H2 := ⟨x.ka.hand h m, fun p xs e => h.tup m (x.q p xs e)⟩
theorem Kz.md {K : PySem.W.Frag} {T : List (Addr × Str)} {a D : Addr} {H H1 H2 H3 : Hp} {zs : List V} (x : Kz K T a H H2) (y : Kz K T a H H1) (nD : H1 D = none) (hD : H2 D = some (.lst zs)) (m : Md D H2 H3) : Kz K T a H H3 := ⟨x.ka.mdl y.ka nD hD m, fun p xs e => m.kp.tup1 hD (x.q p xs e)⟩
theorem Kz.tab {K : PySem.W.Frag} {T : List (Addr × Str)} {a : Addr} {H H1 : Hp} (x : Kz K T a H H1) (h : Tabs T H) : Tabs T H1 := x.ka.t h
theorem Kz.lst {K : PySem.W.Frag} {T : List (Addr × Str)} {a p : Addr} {H H1 : Hp} {xs : List V} (x : Kz K T a H H1) (n : p ≠ a) (h : H p = some (.lst xs)) : H1 p = some (.lst xs) := x.ka.l p xs n h
def sp_law (K : PySem.W.Frag) (T : List (Addr × Str)) : Sp := fun vs H Q _ => ∃ (a : Addr) (ns : List Int), vs = [.ref a] ∧ SqL K H a (ns.map V.int) ∧ ns.length ≤ 63 ∧ Tabs T H ∧ ∀ H', Q (.bl true) H'
theorem few {n : Nat} (h : n ≤ 63) (m : Int) (hm : 1 ≤ m ∧ m ≤ 3) : 1 ≤ (if (if (n : Int) < m then (n : Int) else m) > 1 then (if (n : Int) < m then (n : Int) else m) else 1) ∧ (if (if (n : Int) < m then (n : Int) else m) > 1 then (if (n : Int) < m then (n : Int) else m) else 1) ≤ 3 := by
  split <;> split <;> omega
theorem sum_set {l : List Int} {i : Nat} {v : Int} (h : i < l.length) : (l.set i v).sum = l.sum - l.getD i 0 + v := by
  have h1 := perm_sum (set_perm l i v h)
  have h2 := perm_sum (idx_perm l i h)
  rw [List.sum_cons] at h1 h2
  omega
/-! ### k50, by name -/
theorem rz_uniq {g : Int} {ns : List Int} : ∀ {ms tk cur fs fs' : List Int}, Rz g ns ms tk cur fs → Rz g ns ms tk cur fs' → fs = fs'
  | [], _, _, _, _, h, h' => by
    cases h
    cases h'
    rfl
  | x :: ms, _, _, _, _, h, h' => by
    obtain ⟨i, v, e, hi, hv, h⟩ := h.inv
    obtain ⟨i', v', e', hi', hv', h'⟩ := h'.inv
    obtain rfl : i = i' := by omega
    obtain rfl := hv.uniq hv'
    exact rz_uniq h h'
theorem wd_uniq {g : Int} : ∀ {ms ns fs fs' : List Int}, Wd g ms ns fs → Wd g ms ns fs' → fs = fs'
  | [], _, _, _, h, h' => by
    cases h
    cases h'
    rfl
  | x :: ms, _, _, _, h, h' => by
    obtain ⟨i, v, e, hi, hv, h⟩ := h.inv
    obtain ⟨i', v', e', hi', hv', h'⟩ := h'.inv
    obtain rfl : i = i' := by omega
    obtain rfl := hv.uniq hv'
    exact wd_uniq h h'
theorem gb_uniq {ns : List Int} {b b' : Int} (h : IsGB ns b) (h' : IsGB ns b') : b = b' := by
  have go : ∀ {b b' : Int}, IsGB ns b → IsGB ns b' → ¬ b < b' := fun {b b'} h h' c => by
    have := h.1
    exact h.2.2 (gap_g (by omega) (by omega) (h'.2.1 (by omega)))
  have a := go h h'
  have c := go h' h
  omega
theorem sp_uniq {g : Int} {ns us us' : List Int} (h : IsSp g ns us) (h' : IsSp g ns us') : us = us' := by
  refine List.ext_getElem (by rw [h.1, h'.1]) fun j h1 h2 => ?_
  have e := (h.2 j (by rw [← h.1]; exact h1)).uniq (h'.2 j (by rw [← h.1]; exact h1))
  rw [getD_at' h1, getD_at' h2] at e
  omega
theorem Rz.bound {g : Int} (hg : 1 ≤ g) (hg2 : g ≤ 1000000) {ns : List Int} (hn : ∀ x ∈ ns, 0 ≤ x ∧ x ≤ 1000000000000) {is tk cur fs : List Int} (h : Rz g ns is tk cur fs) (hl : tk.length + is.length ≤ 40) (ht : ∀ x ∈ tk, 0 ≤ x) (hb : ∀ x ∈ cur, 0 ≤ x ∧ x ≤ 1000000000000) : ∀ x ∈ fs, 0 ≤ x ∧ x ≤ 1000000000000 := by
  induction h with
  | nil => exact hb
  | @cons i is tk cur fs v h1 h2 _ ih =>
    rw [List.length_cons] at hl
    have hv := h2.le hg ht
    have hv2 := R_small hg hg2 (n := tk.length + 1) (by omega)
    have hge := h2.ge
    have hi := all_get hn h1
    have hm := mx_ge (ns.getD i 0) v
    refine ih (by rw [List.length_append, List.length_singleton]; omega) (fun x hx => ?_) (fun x hx => ?_)
    · rcases List.mem_append.mp hx with z | z
      · exact ht x z
      · rw [List.mem_singleton.mp z]
        omega
    · rcases List.mem_or_eq_of_mem_set hx with z | z
      · exact hb x z
      · omega
structure PkgW (P : Program) (w : World) (K : PySem.W.Frag) (mg : Str → Option Value) (base : Heap) (T : List (Addr × Str)) : Prop where
  ra : ClK P w K mg base CX0 5 "raised" ["budget", "prices", "balances"] [2, 1, 0] (sp_raised K T)
  lb : ClK P w K mg base CX0 6 "lower_bound" ["prices", "balances", "budget"] [1, 0, 2] (sp_lower_bound K T)
  rc : ClK P w K mg base CX0 1 "raise_cost" ["other", "prices", "balances"] [2, 1, 0] (sp_raise_cost K)
  sl : ClK P w K mg base CX0 6 "shows_lower_bound" ["thing", "amount", "budget", "prices", "balances"] [4, 3, 2, 1, 0] (sp_shows_lower_bound K)
  wd : ClK P w K mg base CX0 7 "withdrawn" ["budget", "values", "balances"] [2, 1, 0] (sp_withdrawn K T)
  ub : ClK P w K mg base CX0 8 "upper_bound" ["values", "balances", "budget"] [1, 0, 2] (sp_upper_bound K T)
  wv : ClK P w K mg base CX0 1 "withdrawal_value" ["other", "values", "balances"] [2, 1, 0] (sp_withdrawal_value K)
  su : ClK P w K mg base CX0 6 "shows_upper_bound" ["thing", "amount", "budget", "values", "balances"] [4, 3, 2, 1, 0] (sp_shows_upper_bound K)
  sa : ClK P w K mg base CX0 7 "spare" ["sender", "budget", "balances"] [2, 1, 0] (sp_spare K T)
  ss : ClK P w K mg base CX0 7 "spares" ["budget", "balances"] [1, 0] (sp_spares K T)
  ts : ClK P w K mg base CX0 7 "total_spare" ["budget", "balances"] [1, 0] (sp_total_spare K T)
  en : ClK P w K mg base CX0 7 "entry" ["budget", "balances"] [1, 0] (sp_entry K T)
  gb : ClK P w K mg base CX0 4 "greatest_budget" ["balances"] [0] (sp_greatest_budget K)
def rwD (r : Int × List Int) : PyData := .tuple [.int r.1, .tuple (r.2.map PyData.int)]
theorem rr_db {K : PySem.W.Frag} {N : Addr → Prop} {H : Hp} : ∀ {xs : List V} {rs : List (Int × List Int)}, Rr H xs rs → DbAll K N H xs (rs.map rwD)
  | _, _, .nil => .nil
  | _, _, .cons a b r => .cons (.tup (sqT a) (.cons (.int _) (.cons (.tup (sqT b) (.ints _)) .nil))) (rr_db r)
theorem dot_bd : ∀ (ws xs ys : List Int), (∀ x ∈ ws, 0 ≤ x ∧ x ≤ 1000000000000) → (∀ x ∈ xs, 0 ≤ x ∧ x ≤ 1000000000000) → (∀ x ∈ ys, 0 ≤ x ∧ x ≤ 1000000000000) → (dot ws xs ys).natAbs ≤ ws.length * 1000000000000000000000000
  | [], _, _, _, _, _ => by simp [dot]
  | _ :: _, [], _, _, _, _ => by simp [dot]
  | _ :: _, _ :: _, [], _, _, _ => by simp [dot]
  | w :: ws, x :: xs, y :: ys, h1, h2, h3 => by
    have ih := dot_bd ws xs ys (fun a ha => h1 a (List.mem_cons_of_mem _ ha)) (fun a ha => h2 a (List.mem_cons_of_mem _ ha)) (fun a ha => h3 a (List.mem_cons_of_mem _ ha))
    have a1 := h1 w List.mem_cons_self
    have a2 := h2 x List.mem_cons_self
    have a3 := h3 y List.mem_cons_self
    have m : (w * (y - x)).natAbs ≤ 1000000000000 * 1000000000000 := by
      rw [Int.natAbs_mul]
      exact Nat.mul_le_mul (by omega) (by omega)
    show (w * (y - x) + dot ws xs ys).natAbs ≤ (ws.length + 1) * _
    rw [Nat.add_mul]
    omega
theorem sm_ints {ns : List Int} (h : ∀ x ∈ ns, 0 ≤ x ∧ x ≤ 1000000000000) (hl : ns.length ≤ 40) : Sm 5000 1 (.tuple (ns.map PyData.int)) := by
  refine (Sm.tup (n := 101) (e := 0) fun d hd => ?_).mono (by rw [List.length_map]; omega) (by decide)
  obtain ⟨x, hx, rfl⟩ := List.mem_map.mp hd
  exact Sm.int (by have := h x hx; omega)
theorem sm_rows {n : Nat} {rs : List (Int × List Int)} (hn : n ≤ 40) (hk : RowsOk n rs) (hl : rs.length ≤ 40) (hb : ∀ r ∈ rs, r.1 ≤ 1000000000000) : Sm 500000 3 (.tuple (rs.map rwD)) := by
  refine (Sm.tup (n := 10100) (e := 2) fun d hd => ?_).mono (by rw [List.length_map]; omega) (by decide)
  obtain ⟨r, hr, rfl⟩ := List.mem_map.mp hd
  obtain ⟨h1, _, h2, _, h3⟩ := hk.1 r hr
  refine (Sm.tup (n := 5000) (e := 1) fun d hd => ?_).mono (show 2 * (5000 + 2) + 3 ≤ 10100 by decide) (by decide)
  simp only [List.mem_cons, List.not_mem_nil, or_false] at hd
  rcases hd with rfl | rfl
  · exact (Sm.int (by have := hb r hr; omega)).mono (by decide) (by decide)
  · exact sm_ints (fun x hx => by have := h3 x hx; omega) h2
theorem sh_four {a b : PyData} {c : Int} {d : Bool} (ha : Sm 500000 3 a) (hb : Sm 500000 3 b) (hc : c.natAbs < 2 ^ 100) : Shows (.list [a, b, .int c, .bool d]) := by
  refine Sm.shows (n := 2100000) (e := 4) ((Sm.lst (n := 500000) (e := 3) fun x hx => ?_).mono (show 4 * (500000 + 2) + 3 ≤ 2100000 by decide) (Nat.le_refl _))
  simp only [List.mem_cons, List.not_mem_nil, or_false] at hx
  rcases hx with rfl | rfl | rfl | rfl
  · exact ha
  · exact hb
  · exact (Sm.int hc).mono (by decide) (by decide)
  · exact (Sm.bool _).mono (by decide) (by decide)
def sp_l_prices_right (K : PySem.W.Frag) (T : List (Addr × Str)) : Sp := fun vs H Q _ => ∃ (p w : Addr) (ns ws : List Int) (g : Int), vs = [.ref p, .ref w, .int g] ∧ SqT K H p (ns.map V.int) ∧ SqT K H w (ws.map V.int) ∧ ws.length = ns.length ∧ 1 ≤ ns.length ∧ ns.length ≤ 39 ∧ 1 ≤ g ∧ g ≤ 1000000 ∧
  (∀ x ∈ ns, 0 ≤ x ∧ x ≤ 1000000000000) ∧ (∀ x ∈ ws, 0 ≤ x ∧ x ≤ 1000000000000) ∧ Tabs T H ∧ ∀ H', Kt T H H' → Q (.bl true) H'
theorem ok__law_prices_right {f : Addr} {fd : FuncData} {k : Nat} {T : List (Addr × Str)} (F : Fun K "_law_prices_right" "_law_prices_right" s__law_prices_right f fd) (m_repr : mg "repr" = none) (X_w : PkgW P w K mg base T)
    (C_raised : Cl P w K mg base CX0 5 "raised" 3 (sp_raised K T)) (C_lower_bound : Cl P w K mg base CX0 6 "lower_bound" 3 (sp_lower_bound K T)) (C_raise_cost : Cl P w K mg base CX0 1 "raise_cost" 3 (sp_raise_cost K)) (C_shows_lower_bound : Cl P w K mg base CX0 6 "shows_lower_bound" 5 (sp_shows_lower_bound K)) :
    FnG P w K mg base CX0 (k + 9) f fd ["_law_less", "_law_weights", "_law_level"] (sp_l_prices_right K T) := by
  obtain ⟨W_raised, W_lower_bound, W_raise_cost, W_shows_lower_bound, _, _, _, _, _, _, _, _, _⟩ := X_w
  refine ok0 F sc__law_prices_right (fun vs H Q E h => ?_) (fun cdv A outer s H vs Q E gd hr h => ?_)
  · obtain ⟨p, wa, ns, ws, g, rfl, _⟩ := h
    rfl
  · obtain ⟨p, wa, ns, ws, g, rfl, hp, hw, wl, hl1, hl, hg, hg2, hnb, hwb, hT, q⟩ := h
    refine ⟨_, (pss_cons (ps_par (by rfl) sc__law_prices_right.nd (i := 3) (j := 4) rfl rfl (by decide) rfl rfl (pa_cons (pe_cl C_raised (hr.mono (by omega)) gd pass0 (by rfl) (pa_cons (pv 0) (pa_cons (pv 1) (pa_cons (pv 2) pa_nil)))) (pa_cons (pe_cl C_lower_bound (hr.mono (by omega)) gd pass0 (by rfl) (pa_cons (pv 0) (pa_cons (pv 1) (pa_cons (pv 2) pa_nil)))) pa_nil)) (by rfl))
      (pss_cons (ps_set (i := 5) sc__law_prices_right.nd rfl (.inl rfl) (pe_cl C_raise_cost (hr.mono (by omega)) gd pass0 (by rfl) (pa_cons (pv 0) (pa_cons (pv 1) (pa_cons (pv 3) pa_nil)))))
      (pss_cons (ps_set (i := 6) sc__law_prices_right.nd rfl (.inl rfl) (pe_la (pa_cons (pe_clW W_raised (hr.mono (by omega)) gd pass0 (by rfl) (pk_cons (pv 2) (pk_cons (pv 1) (pk_cons (pv 0) pk_nil)))) pa_nil)))
      (pss_cons (ps_expr (pe_bm PySem.F.plainAttrs_list PySem.F.slot_list_append PySem.F.type_list_append mt_app (pv 6) (pa_cons (pe_clW W_lower_bound (hr.mono (by omega)) gd pass0 (by rfl) (pk_cons (pv 1) (pk_cons (pv 0) (pk_cons (pv 2) pk_nil)))) pa_nil)))
      (pss_cons (ps_expr (pe_bm PySem.F.plainAttrs_list PySem.F.slot_list_append PySem.F.type_list_append mt_app (pv 6) (pa_cons (pe_clW W_raise_cost (hr.mono (by omega)) gd pass0 (by rfl) (pk_cons (pv 3) (pk_cons (pv 1) (pk_cons (pv 0) pk_nil)))) pa_nil)))
      (pss_cons (ps_expr (pe_bm PySem.F.plainAttrs_list PySem.F.slot_list_append PySem.F.type_list_append mt_app (pv 6) (pa_cons (pe_clW W_shows_lower_bound (hr.mono (by omega)) gd pass0 (by rfl) (pk_cons (pv 4) (pk_cons (pv 5) (pk_cons (pv 2) (pk_cons (pv 1) (pk_cons (pv 0) pk_nil)))))) pa_nil)))
      (pss_one (ps_ret (pe_cmpR op_eq (pe_callB (call_reprX (K := K) rfl hr gd) (by rfl) m_repr (by decide +kernel) (pa_cons (pv 6) pa_nil)) (pe_callB (call_reprX (K := K) rfl hr gd) (by rfl) m_repr (by decide +kernel) (pa_cons (pe_la (pa_cons (pv 3) (pa_cons (pv 4) (pa_cons (pv 5) (pa_cons (pe_cl C_shows_lower_bound (hr.mono (by omega)) gd pass0 (by rfl) (pa_cons (pv 0) (pa_cons (pv 1) (pa_cons (pv 2) (pa_cons (pv 5) (pa_cons (pv 4) pa_nil)))))) pa_nil))))) pa_nil)) (nomark _)))))))))), ?_⟩
    refine ⟨_, rfl, _, rfl, _, rfl, p, wa, ns, ws, g, rfl, hp, hw, wl, hl1, by omega, hg, hT, fun t1 H1 ms fs k1 nt1 h1 pm sm hz => ?_⟩
    refine ⟨_, rfl, _, rfl, _, rfl, p, wa, ns, ws, g, rfl, k1.tup0 hp, k1.tup0 hw, wl, hl1, by omega, hg, fun x hx => (hwb x hx).1, k1.tab hT, fun t2 H2 ys rs k2 nt2 h2 hR hL hLD => ?_⟩
    have k12 := k1.trans k2
    have fl : fs.length = ns.length := hz.len
    have hml : ms.length = ns.length := by rw [pm.length_eq, upto_len]
    have hfb := hz.bound hg hg2 hnb (by simp only [List.length_nil]; omega) (fun _ z => nomatch z) hnb
    have ht1 : SqT K H2 t1 (fs.map V.int) := k2.tup0 (sqT h1)
    refine ⟨_, _, rfl, ?_⟩
    have three : ∀ {H' : Hp}, Kt T H2 H' → Three K H' p wa t1 ns ws fs ns.length := fun k => ⟨k.tup0 (k12.tup0 hp), k.tup0 (k12.tup0 hw), k.tup0 ht1, rfl, ⟨wl, hwb⟩, fl, by omega⟩
    refine ⟨_, rfl, _, rfl, _, rfl, p, wa, t1, ns, ws, fs, ns.length, rfl, three Kt.refl, fun H3 k3 => ?_⟩
    have k23 : Kt T H2 H3 := k3.kt
    have k13 := k12.trans k23
    refine ⟨_, rfl, _, rfl, _, rfl, rfl, p, wa, ns, ws, g, rfl, k13.tup0 hp, k13.tup0 hw, wl, hl1, by omega, hg, k13.tab hT, fun t4 H4 ms' fs' k4 nt4 h4 pm' sm' hz' => ?_⟩
    obtain rfl : ms = ms' := order_uniq (pm.trans pm'.symm) sm sm'
    obtain rfl : fs = fs' := rz_uniq hz hz'
    refine ⟨Nat.le_of_ble_eq_true rfl, fun L H5 nL k5 hL5 => ?_⟩
    have zL : Nt H L := (k13.trans k4).nt0 nL
    have k25 := (k23.trans k4).kp k5
    have k15 := k12.trans k25
    let N0 : Addr → Prop := fun _ => False
    let N1 : Addr → Prop := fun q => N0 q ∨ q = L
    have d4 : Db K N1 H5 (.ref t4) (.tuple (fs.map PyData.int)) := .tup (k5.tup0 (sqT h4)) (.ints fs)
    have d1 : Db K N1 H5 (.ref t1) (.tuple (fs.map PyData.int)) := .tup (k25.tup0 ht1) (.ints fs)
    have d2 : Db K N1 H5 (.ref t2) (.tuple (rs.map rwD)) := .tup (k25.tup0 (sqT h2)) (rr_db (hR.kt k25))
    -- lower_bound
    refine ⟨_, rfl, .inl ⟨rfl, _, sqL hL5⟩, _, rfl, _, rfl, _, rfl, rfl, p, wa, ns, ws, g, rfl, k15.tup0 hp, k15.tup0 hw, wl, hl1, by omega, hg, fun x hx => (hwb x hx).1, k15.tab hT, fun t6 H6 ys' rs' k6 nt6 h6 hR' hL' hLD' => ?_⟩
    obtain rfl : rs = rs' := hLD.uniq hLD'
    have hL6 := k6.atL hL5
    refine ⟨L, _, _, rfl, rfl, hL6, Nat.le_of_ble_eq_true rfl, fun H7 m7 hL7 => ?_⟩
    have st7 : Stay K N1 H5 H7 := (k6.stay).trans (m7.kp.stayO hL6 (.inr rfl))
    have d6 : Db K N1 H7 (.ref t6) (.tuple (rs.map rwD)) := .tup (m7.kp.tup1 hL6 (sqT h6)) (rr_db (hR'.mdl hL6 m7))
    have k17 := (k15.trans k6).md zL hL6 m7
    have ht17 : SqT K H7 t1 (fs.map V.int) := st7.t _ _ (k25.tup0 ht1)
    have hR7 : Rr H7 ys rs := ((hR.kt k25).kt k6).mdl hL6 m7
    have ht27 : SqT K H7 t2 ys := st7.t _ _ (k25.tup0 (sqT h2))
    -- raise_cost
    refine ⟨_, rfl, .inl ⟨rfl, _, sqL hL7⟩, _, rfl, _, rfl, _, rfl, rfl, p, wa, t1, ns, ws, fs, ns.length, rfl, ⟨k17.tup0 hp, k17.tup0 hw, ht17, rfl, ⟨wl, hwb⟩, fl, by omega⟩, fun H8 k8 => ?_⟩
    have hL8 := k8.at0 hL7
    refine ⟨L, _, _, rfl, rfl, hL8, Nat.le_of_ble_eq_true rfl, fun H9 m9 hL9 => ?_⟩
    have st9 : Stay K N1 H7 H9 := (k8.stay).trans (m9.kp.stayO hL8 (.inr rfl))
    have k19 := (k17.kp k8).md zL hL8 m9
    have ht29 : SqT K H9 t2 ys := st9.t _ _ ht27
    have hR9 : Rr H9 ys rs := (hR7.kp0 k8).mdl hL8 m9
    have r63 : ∀ r ∈ rs, r.1 < 2 ^ 63 := fun r hr => by
      have := hL.2.2.2.1 1000000000000 (fun x hx => (hwb x hx).2) r hr
      omega
    -- shows_lower_bound
    refine ⟨_, rfl, .inl ⟨rfl, _, sqL hL9⟩, _, rfl, _, rfl, _, rfl, _, rfl, _, rfl, rfl, p, wa, t2, ns, ws, g, .int (dot ws ns fs), ys, rs, rfl, .int _, k19.tup0 hp, k19.tup0 hw, wl, by omega, ht29, hR9, hL.1, by have := hL.2.2.1; omega, r63, fun H10 k10 => ?_⟩
    have hL10 := k10.at0 hL9
    refine ⟨L, _, _, rfl, rfl, hL10, Nat.le_of_ble_eq_true rfl, fun H11 m11 hL11 => ?_⟩
    have st11 : Stay K N1 H9 H11 := (k10.stay).trans (m11.kp.stayO hL10 (.inr rfl))
    have k111 := (k19.kp k10).md zL hL10 m11
    have st511 := (st7.trans st9).trans st11
    have sh : ∀ b : Bool, Shows (.list [.tuple (fs.map PyData.int), .tuple (rs.map rwD), .int (dot ws ns fs), .bool b]) := fun b => sh_four ((sm_ints hfb (by omega)).mono (by decide) (by decide)) (sm_rows (by omega) hL.1 hL.2.2.1 fun r hr => hL.2.2.2.1 1000000000000 (fun x hx => (hwb x hx).2) r hr) (by
      have := dot_bd ws ns fs hwb hnb hfb
      omega)
    have nL0 : ¬ N0 L := fun z => z
    refine ⟨_, rfl, _, _, N0, rfl, .lst hL11 nL0 (.cons (d4.stay st511).less (.cons (d6.stay (st9.trans st11)).less (.cons (.int _) (.cons (.bl _) .nil)))), sh _, ?_⟩
    have ht211 : SqT K H11 t2 ys := st11.t _ _ ht29
    have hR11 : Rr H11 ys rs := (hR9.kp0 k10).mdl hL10 m11
    refine ⟨_, rfl, _, rfl, _, rfl, _, rfl, _, rfl, _, rfl, _, rfl, _, rfl, p, wa, t2, ns, ws, g, .int (dot ws ns fs), ys, rs, rfl, .int _, k111.tup0 hp, k111.tup0 hw, wl, by omega, ht211, hR11, hL.1, by have := hL.2.2.1; omega, r63, fun H12 k12' => ?_⟩
    refine ⟨Nat.le_of_ble_eq_true rfl, fun L2 H13 n13 k13' h13 => ?_⟩
    have kk := (k12'.trans k13')
    refine ⟨_, _, N0, rfl, .lst h13 (fun z => z) (.cons ((d1.stay st511).stay kk.stay).less (.cons ((d2.stay st511).stay kk.stay).less (.cons (.int _) (.cons (.bl _) .nil)))), sh _, rfl, ?_⟩
    refine (show Q (.bl (decide (V.str _ = V.str _))) H13 from ?_)
    rw [decide_eq_true rfl]
    exact q H13 (k111.kp kk)
def sp_l_withdrawals_right (K : PySem.W.Frag) (T : List (Addr × Str)) : Sp := fun vs H Q _ => ∃ (p w : Addr) (ns ws : List Int) (g : Int), vs = [.ref p, .ref w, .int g] ∧ SqT K H p (ns.map V.int) ∧ SqT K H w (ws.map V.int) ∧ ws.length = ns.length ∧ 1 ≤ ns.length ∧ ns.length ≤ 39 ∧ 1 ≤ g ∧ g ≤ 1000000 ∧
  gapOf g ns = none ∧ (∀ x ∈ ns, 0 ≤ x ∧ x ≤ 1000000000000) ∧ (∀ x ∈ ws, 0 ≤ x ∧ x ≤ 1000000000000) ∧ Tabs T H ∧ ∀ H', Kt T H H' → Q (.bl true) H'
theorem ok__law_withdrawals_right {f : Addr} {fd : FuncData} {k : Nat} {T : List (Addr × Str)} (F : Fun K "_law_withdrawals_right" "_law_withdrawals_right" s__law_withdrawals_right f fd) (m_repr : mg "repr" = none) (X_w : PkgW P w K mg base T)
    (C_withdrawn : Cl P w K mg base CX0 7 "withdrawn" 3 (sp_withdrawn K T)) (C_upper_bound : Cl P w K mg base CX0 8 "upper_bound" 3 (sp_upper_bound K T)) (C_withdrawal_value : Cl P w K mg base CX0 1 "withdrawal_value" 3 (sp_withdrawal_value K)) (C_shows_upper_bound : Cl P w K mg base CX0 6 "shows_upper_bound" 5 (sp_shows_upper_bound K)) :
    FnG P w K mg base CX0 (k + 9) f fd ["_law_some", "_law_weights", "_law_level"] (sp_l_withdrawals_right K T) := by
  obtain ⟨_, _, _, _, W_withdrawn, W_upper_bound, W_withdrawal_value, W_shows_upper_bound, _, _, _, _, _⟩ := X_w
  refine ok0 F sc__law_withdrawals_right (fun vs H Q E h => ?_) (fun cdv A outer s H vs Q E gd hr h => ?_)
  · obtain ⟨p, wa, ns, ws, g, rfl, _⟩ := h
    rfl
  · obtain ⟨p, wa, ns, ws, g, rfl, hp, hw, wl, hl1, hl, hg, hg2, eg, hnb, hwb, hT, q⟩ := h
    refine ⟨_, (pss_cons (ps_par (by rfl) sc__law_withdrawals_right.nd (i := 3) (j := 4) rfl rfl (by decide) rfl rfl (pa_cons (pe_cl C_withdrawn (hr.mono (by omega)) gd pass0 (by rfl) (pa_cons (pv 0) (pa_cons (pv 1) (pa_cons (pv 2) pa_nil)))) (pa_cons (pe_cl C_upper_bound (hr.mono (by omega)) gd pass0 (by rfl) (pa_cons (pv 0) (pa_cons (pv 1) (pa_cons (pv 2) pa_nil)))) pa_nil)) (by rfl))
      (pss_cons (ps_set (i := 5) sc__law_withdrawals_right.nd rfl (.inl rfl) (pe_cl C_withdrawal_value (hr.mono (by omega)) gd pass0 (by rfl) (pa_cons (pv 0) (pa_cons (pv 1) (pa_cons (pv 3) pa_nil)))))
      (pss_cons (ps_set (i := 6) sc__law_withdrawals_right.nd rfl (.inl rfl) (pe_la (pa_cons (pe_clW W_withdrawn (hr.mono (by omega)) gd pass0 (by rfl) (pk_cons (pv 2) (pk_cons (pv 1) (pk_cons (pv 0) pk_nil)))) pa_nil)))
      (pss_cons (ps_expr (pe_bm PySem.F.plainAttrs_list PySem.F.slot_list_append PySem.F.type_list_append mt_app (pv 6) (pa_cons (pe_clW W_upper_bound (hr.mono (by omega)) gd pass0 (by rfl) (pk_cons (pv 1) (pk_cons (pv 0) (pk_cons (pv 2) pk_nil)))) pa_nil)))
      (pss_cons (ps_expr (pe_bm PySem.F.plainAttrs_list PySem.F.slot_list_append PySem.F.type_list_append mt_app (pv 6) (pa_cons (pe_clW W_withdrawal_value (hr.mono (by omega)) gd pass0 (by rfl) (pk_cons (pv 3) (pk_cons (pv 1) (pk_cons (pv 0) pk_nil)))) pa_nil)))
      (pss_cons (ps_expr (pe_bm PySem.F.plainAttrs_list PySem.F.slot_list_append PySem.F.type_list_append mt_app (pv 6) (pa_cons (pe_clW W_shows_upper_bound (hr.mono (by omega)) gd pass0 (by rfl) (pk_cons (pv 4) (pk_cons (pv 5) (pk_cons (pv 2) (pk_cons (pv 1) (pk_cons (pv 0) pk_nil)))))) pa_nil)))
      (pss_one (ps_ret (pe_cmpR op_eq (pe_callB (call_reprX (K := K) rfl hr gd) (by rfl) m_repr (by decide +kernel) (pa_cons (pv 6) pa_nil)) (pe_callB (call_reprX (K := K) rfl hr gd) (by rfl) m_repr (by decide +kernel) (pa_cons (pe_la (pa_cons (pv 3) (pa_cons (pv 4) (pa_cons (pv 5) (pa_cons (pe_cl C_shows_upper_bound (hr.mono (by omega)) gd pass0 (by rfl) (pa_cons (pv 0) (pa_cons (pv 1) (pa_cons (pv 2) (pa_cons (pv 5) (pa_cons (pv 4) pa_nil)))))) pa_nil))))) pa_nil)) (nomark _)))))))))), ?_⟩
    refine ⟨_, rfl, _, rfl, _, rfl, p, wa, ns, ws, g, rfl, hp, hw, wl, hl1, by omega, hg, eg, hT, fun t1 H1 ms fs k1 nt1 h1 pm sm hz => ?_⟩
    refine ⟨_, rfl, _, rfl, _, rfl, p, wa, ns, ws, g, rfl, k1.tup0 hp, k1.tup0 hw, wl, hl1, by omega, hg, eg, fun x hx => (hwb x hx).1, k1.tab hT, fun t2 H2 ys rs k2 nt2 h2 hR hL hLD => ?_⟩
    have k12 := k1.trans k2
    have fl : fs.length = ns.length := hz.len
    have hml : ms.length = ns.length := by rw [pm.length_eq, upto_len]
    have hfb := hz.bound (B := 1000000000000) hg eg hnb
    have ht1 : SqT K H2 t1 (fs.map V.int) := k2.tup0 (sqT h1)
    refine ⟨_, _, rfl, ?_⟩
    have three : ∀ {H' : Hp}, Kt T H2 H' → Three K H' p wa t1 ns ws fs ns.length := fun k => ⟨k.tup0 (k12.tup0 hp), k.tup0 (k12.tup0 hw), k.tup0 ht1, rfl, ⟨wl, hwb⟩, fl, by omega⟩
    refine ⟨_, rfl, _, rfl, _, rfl, p, wa, t1, ns, ws, fs, ns.length, rfl, three Kt.refl, fun H3 k3 => ?_⟩
    have k23 : Kt T H2 H3 := k3.kt
    have k13 := k12.trans k23
    refine ⟨_, rfl, _, rfl, _, rfl, rfl, p, wa, ns, ws, g, rfl, k13.tup0 hp, k13.tup0 hw, wl, hl1, by omega, hg, eg, k13.tab hT, fun t4 H4 ms' fs' k4 nt4 h4 pm' sm' hz' => ?_⟩
    obtain rfl : ms = ms' := order_uniq (pm.trans pm'.symm) sm sm'
    obtain rfl : fs = fs' := wd_uniq hz hz'
    refine ⟨Nat.le_of_ble_eq_true rfl, fun L H5 nL k5 hL5 => ?_⟩
    have zL : Nt H L := (k13.trans k4).nt0 nL
    have k25 := (k23.trans k4).kp k5
    have k15 := k12.trans k25
    let N0 : Addr → Prop := fun _ => False
    let N1 : Addr → Prop := fun q => N0 q ∨ q = L
    have d4 : Db K N1 H5 (.ref t4) (.tuple (fs.map PyData.int)) := .tup (k5.tup0 (sqT h4)) (.ints fs)
    have d1 : Db K N1 H5 (.ref t1) (.tuple (fs.map PyData.int)) := .tup (k25.tup0 ht1) (.ints fs)
    have d2 : Db K N1 H5 (.ref t2) (.tuple (rs.map rwD)) := .tup (k25.tup0 (sqT h2)) (rr_db (hR.kt k25))
    -- upper_bound
    refine ⟨_, rfl, .inl ⟨rfl, _, sqL hL5⟩, _, rfl, _, rfl, _, rfl, rfl, p, wa, ns, ws, g, rfl, k15.tup0 hp, k15.tup0 hw, wl, hl1, by omega, hg, eg, fun x hx => (hwb x hx).1, k15.tab hT, fun t6 H6 ys' rs' k6 nt6 h6 hR' hL' hLD' => ?_⟩
    obtain rfl : rs = rs' := hLD.uniq hLD'
    have hL6 := k6.atL hL5
    refine ⟨L, _, _, rfl, rfl, hL6, Nat.le_of_ble_eq_true rfl, fun H7 m7 hL7 => ?_⟩
    have st7 : Stay K N1 H5 H7 := (k6.stay).trans (m7.kp.stayO hL6 (.inr rfl))
    have d6 : Db K N1 H7 (.ref t6) (.tuple (rs.map rwD)) := .tup (m7.kp.tup1 hL6 (sqT h6)) (rr_db (hR'.mdl hL6 m7))
    have k17 := (k15.trans k6).md zL hL6 m7
    have ht17 : SqT K H7 t1 (fs.map V.int) := st7.t _ _ (k25.tup0 ht1)
    have hR7 : Rr H7 ys rs := ((hR.kt k25).kt k6).mdl hL6 m7
    have ht27 : SqT K H7 t2 ys := st7.t _ _ (k25.tup0 (sqT h2))
    -- value
    refine ⟨_, rfl, .inl ⟨rfl, _, sqL hL7⟩, _, rfl, _, rfl, _, rfl, rfl, p, wa, t1, ns, ws, fs, ns.length, rfl, ⟨k17.tup0 hp, k17.tup0 hw, ht17, rfl, ⟨wl, hwb⟩, fl, by omega⟩, fun H8 k8 => ?_⟩
    have hL8 := k8.at0 hL7
    refine ⟨L, _, _, rfl, rfl, hL8, Nat.le_of_ble_eq_true rfl, fun H9 m9 hL9 => ?_⟩
    have st9 : Stay K N1 H7 H9 := (k8.stay).trans (m9.kp.stayO hL8 (.inr rfl))
    have k19 := (k17.kp k8).md zL hL8 m9
    have ht29 : SqT K H9 t2 ys := st9.t _ _ ht27
    have hR9 : Rr H9 ys rs := (hR7.kp0 k8).mdl hL8 m9
    have r63 : ∀ r ∈ rs, r.1 < 2 ^ 63 := fun r hr => by
      have := hL.2.2.2.1 1000000000000 (fun x hx => (hwb x hx).2) r hr
      omega
    -- shows_upper_bound
    refine ⟨_, rfl, .inl ⟨rfl, _, sqL hL9⟩, _, rfl, _, rfl, _, rfl, _, rfl, _, rfl, rfl, p, wa, t2, ns, ws, g, .int (dot ws fs ns), ys, rs, rfl, .int _, k19.tup0 hp, k19.tup0 hw, wl, by omega, ht29, hR9, hL.1, by have := hL.2.2.1; omega, r63, fun H10 k10 => ?_⟩
    have hL10 := k10.at0 hL9
    refine ⟨L, _, _, rfl, rfl, hL10, Nat.le_of_ble_eq_true rfl, fun H11 m11 hL11 => ?_⟩
    have st11 : Stay K N1 H9 H11 := (k10.stay).trans (m11.kp.stayO hL10 (.inr rfl))
    have k111 := (k19.kp k10).md zL hL10 m11
    have st511 := (st7.trans st9).trans st11
    have sh : ∀ b : Bool, Shows (.list [.tuple (fs.map PyData.int), .tuple (rs.map rwD), .int (dot ws fs ns), .bool b]) := fun b => sh_four ((sm_ints hfb (by omega)).mono (by decide) (by decide)) (sm_rows (by omega) hL.1 hL.2.2.1 fun r hr => hL.2.2.2.1 1000000000000 (fun x hx => (hwb x hx).2) r hr) (by
      have := dot_bd ws fs ns hwb hfb hnb
      omega)
    have nL0 : ¬ N0 L := fun z => z
    refine ⟨_, rfl, _, _, N0, rfl, .lst hL11 nL0 (.cons (d4.stay st511).less (.cons (d6.stay (st9.trans st11)).less (.cons (.int _) (.cons (.bl _) .nil)))), sh _, ?_⟩
    have ht211 : SqT K H11 t2 ys := st11.t _ _ ht29
    have hR11 : Rr H11 ys rs := (hR9.kp0 k10).mdl hL10 m11
    refine ⟨_, rfl, _, rfl, _, rfl, _, rfl, _, rfl, _, rfl, _, rfl, _, rfl, p, wa, t2, ns, ws, g, .int (dot ws fs ns), ys, rs, rfl, .int _, k111.tup0 hp, k111.tup0 hw, wl, by omega, ht211, hR11, hL.1, by have := hL.2.2.1; omega, r63, fun H12 k12' => ?_⟩
    refine ⟨Nat.le_of_ble_eq_true rfl, fun L2 H13 n13 k13' h13 => ?_⟩
    have kk := (k12'.trans k13')
    refine ⟨_, _, N0, rfl, .lst h13 (fun z => z) (.cons ((d1.stay st511).stay kk.stay).less (.cons ((d2.stay st511).stay kk.stay).less (.cons (.int _) (.cons (.bl _) .nil)))), sh _, rfl, ?_⟩
    refine (show Q (.bl (decide (V.str _ = V.str _))) H13 from ?_)
    rw [decide_eq_true rfl]
    exact q H13 (k111.kp kk)
theorem sum_bd : ∀ ns : List Int, (∀ x ∈ ns, 0 ≤ x ∧ x ≤ 1000000000000) → 0 ≤ ns.sum ∧ ns.sum ≤ 1000000000000 * ns.length
  | [], _ => ⟨by simp, by simp⟩
  | n :: ns, h => by
    obtain ⟨i1, i2⟩ := sum_bd ns fun x hx => h x (List.mem_cons_of_mem _ hx)
    have := h n List.mem_cons_self
    rw [List.sum_cons, List.length_cons]
    omega
def sp_l_spares_right (K : PySem.W.Frag) (T : List (Addr × Str)) : Sp := fun vs H Q _ => ∃ (p : Addr) (ns : List Int) (g : Int), vs = [.ref p, .int g] ∧ SqT K H p (ns.map V.int) ∧ 1 ≤ ns.length ∧ ns.length ≤ 39 ∧ 1 ≤ g ∧ g ≤ 1000000 ∧
  gapOf g ns = none ∧ (∀ x ∈ ns, 0 ≤ x ∧ x ≤ 1000000000000) ∧ Tabs T H ∧ ∀ H', Kt T H H' → Q (.bl true) H'
theorem ok__law_spares_right {f : Addr} {fd : FuncData} {k : Nat} {T : List (Addr × Str)} (F : Fun K "_law_spares_right" "_law_spares_right" s__law_spares_right f fd) (m_repr : mg "repr" = none) (X_w : PkgW P w K mg base T)
    (C_spare : Cl P w K mg base CX0 7 "spare" 3 (sp_spare K T)) (C_spares : Cl P w K mg base CX0 7 "spares" 2 (sp_spares K T)) (C_total_spare : Cl P w K mg base CX0 7 "total_spare" 2 (sp_total_spare K T)) (C_entry : Cl P w K mg base CX0 7 "entry" 2 (sp_entry K T)) (C_greatest_budget : Cl P w K mg base CX0 4 "greatest_budget" 1 (sp_greatest_budget K)) :
    FnG P w K mg base CX0 (k + 9) f fd ["_law_some", "_law_level"] (sp_l_spares_right K T) := by
  obtain ⟨_, _, _, _, _, _, _, _, W_spare, W_spares, W_total_spare, W_entry, W_greatest_budget⟩ := X_w
  refine ok0 F sc__law_spares_right (fun vs H Q E h => ?_) (fun cdv A outer s H vs Q E gd hr h => ?_)
  · obtain ⟨p, ns, g, rfl, _⟩ := h
    rfl
  · obtain ⟨p, ns, g, rfl, hp, hl1, hl, hg, hg2, eg, hnb, hT, q⟩ := h
    refine ⟨_, (pss_cons (ps_set (i := 2) sc__law_spares_right.nd rfl (.inl rfl) (pe_la (pa_cons (pe_clW W_spare (hr.mono (by omega)) gd pass0 (by rfl) (pk_cons pe_int (pk_cons (pv 1) (pk_cons (pv 0) pk_nil)))) (pa_cons (pe_clW W_spares (hr.mono (by omega)) gd pass0 (by rfl) (pk_cons (pv 1) (pk_cons (pv 0) pk_nil))) pa_nil))))
      (pss_cons (ps_set (i := 2) sc__law_spares_right.nd rfl (.inl rfl) (pe_op op_catLA (pv 2) (pe_li (pa_cons (pe_clW W_total_spare (hr.mono (by omega)) gd pass0 (by rfl) (pk_cons (pv 1) (pk_cons (pv 0) pk_nil))) (pa_cons (pe_clW W_entry (hr.mono (by omega)) gd pass0 (by rfl) (pk_cons (pv 1) (pk_cons (pv 0) pk_nil))) pa_nil)))))
      (pss_cons (ps_expr (pe_bm PySem.F.plainAttrs_list PySem.F.slot_list_append PySem.F.type_list_append mt_app (pv 2) (pa_cons (pe_clW W_greatest_budget (hr.mono (by omega)) gd pass0 (by rfl) (pk_cons (pv 0) pk_nil)) pa_nil)))
      (pss_cons (ps_set (i := 3) sc__law_spares_right.nd rfl (.inl rfl) (pe_la (pa_cons (pe_cl C_spare (hr.mono (by omega)) gd pass0 (by rfl) (pa_cons (pv 0) (pa_cons (pv 1) (pa_cons pe_int pa_nil)))) (pa_cons (pe_cl C_spares (hr.mono (by omega)) gd pass0 (by rfl) (pa_cons (pv 0) (pa_cons (pv 1) pa_nil))) (pa_cons (pe_cl C_total_spare (hr.mono (by omega)) gd pass0 (by rfl) (pa_cons (pv 0) (pa_cons (pv 1) pa_nil))) (pa_cons (pe_cl C_entry (hr.mono (by omega)) gd pass0 (by rfl) (pa_cons (pv 0) (pa_cons (pv 1) pa_nil))) pa_nil))))))
      (pss_one (ps_ret (pe_cmpR op_eq (pe_callB (call_reprX (K := K) rfl hr gd) (by rfl) m_repr (by decide +kernel) (pa_cons (pv 2) pa_nil)) (pe_callB (call_reprX (K := K) rfl hr gd) (by rfl) m_repr (by decide +kernel) (pa_cons (pe_op op_catLA (pv 3) (pe_li (pa_cons (pe_cl C_greatest_budget (hr.mono (by omega)) gd pass0 (by rfl) (pa_cons (pv 0) pa_nil)) pa_nil))) pa_nil)) (nomark _)))))))), ?_⟩
    refine ⟨_, rfl, _, rfl, rfl, p, ns, g, 0, rfl, hp, by omega, by omega, hg, eg, hT, fun m1 H1 k1 hm1 => ?_⟩
    refine ⟨_, rfl, _, rfl, rfl, p, ns, g, rfl, k1.tup0 hp, hl1, by omega, hg, eg, k1.kt.tab hT, fun t2 H2 us nt2 k2 h2 hu => ?_⟩
    refine ⟨Nat.le_of_ble_eq_true rfl, fun L H3 nL k3 hL => ?_⟩
    have k13 := (k1.trans k2).trans k3
    -- two more
    refine ⟨_, rfl, _, rfl, _, rfl, rfl, p, ns, g, rfl, k13.tup0 hp, hl1, by omega, hg, eg, k13.kt.tab hT, fun H4 k4 => ?_⟩
    have k14 := k13.trans k4
    refine ⟨_, rfl, _, rfl, rfl, p, ns, g, rfl, k14.tup0 hp, hl1, by omega, hg, eg, k14.kt.tab hT, fun m5 H5 k5 hm5 => ?_⟩
    refine ⟨[ns.sum - R g ns.length, m5], rfl, Nat.le_of_ble_eq_true rfl, fun M H6 nM k6 hM => ?_⟩
    have k16 := (k14.trans k5).trans k6
    refine ⟨L, M, _, _, rfl, rfl, ((k4.trans k5).trans k6).at0 hL, hM, Nat.le_of_lt (small1000 (show 2 + 2 ≤ 1000 by decide)), fun W H7 nW k7 hW => ?_⟩
    have k17 := k16.trans k7
    have zW : H W = none := k16.free0 nW
    -- the greatest budget
    refine ⟨_, rfl, .inl ⟨rfl, _, sqL hW⟩, _, rfl, rfl, p, ns, rfl, k17.tup0 hp, hl1, by omega, hnb, fun b8 H8 k8 hb8 hb8' => ?_⟩
    refine ⟨W, _, _, rfl, rfl, k8.at0 hW, Nat.le_of_ble_eq_true rfl, fun H9 m9 hW9 => ?_⟩
    have k19 := (k17.trans k8).md (.inl zW) m9
    have ht9 : SqT K H9 t2 (us.map V.int) := m9.kp.tup1 (k8.at0 hW) (((((k3.trans k4).trans k5).trans k6).trans (k7.trans k8)).tup0 (sqT h2))
    -- due
    refine ⟨_, rfl, _, rfl, p, ns, g, 0, rfl, k19.tup0 hp, by omega, by omega, hg, eg, k19.kt.tab hT, fun m10 H10 k10 hm10 => ?_⟩
    obtain rfl := hm1.uniq hm10
    have k110 := k19.trans k10
    refine ⟨_, rfl, _, rfl, p, ns, g, rfl, k110.tup0 hp, hl1, by omega, hg, eg, k110.kt.tab hT, fun t11 H11 us' nt11 k11 h11 hu' => ?_⟩
    obtain rfl := sp_uniq hu hu'
    have k111 := k110.trans k11
    refine ⟨_, rfl, _, rfl, p, ns, g, rfl, k111.tup0 hp, hl1, by omega, hg, eg, k111.kt.tab hT, fun H12 k12 => ?_⟩
    have k112 := k111.trans k12
    refine ⟨_, rfl, _, rfl, p, ns, g, rfl, k112.tup0 hp, hl1, by omega, hg, eg, k112.kt.tab hT, fun m13 H13 k13' hm13 => ?_⟩
    obtain rfl := hm5.uniq hm13
    refine ⟨Nat.le_of_ble_eq_true rfl, fun D H14 nD k14' hD => ?_⟩
    have k114 := (k112.trans k13').trans k14'
    have k914 := (((k10.trans k11).trans k12).trans k13').trans k14'
    let N0 : Addr → Prop := fun _ => False
    have hub : ∀ x ∈ us, x.natAbs < 2 ^ 90 := fun x hx => by
      obtain ⟨j, hj, rfl⟩ := List.getElem_of_mem hx
      have a := hu.2 j (by rw [← hu.1]; exact hj)
      rw [getD_at' hj] at a
      have b1 := a.ge
      have hjn : j < ns.length := by rw [← hu.1]; exact hj
      have b2 := a.le hg (fun y hy => (hnb y (List.mem_of_mem_eraseIdx hy)).1)
      have b3 := R_small hg hg2 (n := (ns.eraseIdx j).length + 1) (by rw [List.length_eraseIdx]; split <;> omega)
      have b4 := hnb (ns.getD j 0) (by rw [getD_at' hjn]; exact List.getElem_mem _)
      omega
    have m5b : m5.natAbs < 2 ^ 90 := by
      have b1 := hm5.ge
      have b2 := hm5.le hg (fun y hy => (hnb y hy).1)
      have b3 := R_small hg hg2 (n := ns.length + 1) (by omega)
      omega
    have m1b : (ns.getD 0 0 - m1).natAbs < 2 ^ 90 := by
      have b1 := hm1.ge
      have b2 := hm1.le hg (fun y hy => (hnb y (List.mem_of_mem_eraseIdx hy)).1)
      have b3 := R_small hg hg2 (n := (ns.eraseIdx 0).length + 1) (by rw [List.length_eraseIdx]; split <;> omega)
      have b4 := hnb (ns.getD 0 0) (by rw [getD_at' hl1]; exact List.getElem_mem _)
      omega
    have tsb : (ns.sum - R g ns.length).natAbs < 2 ^ 90 := by
      have b1 := R_small hg hg2 (n := ns.length) (by omega)
      have b2 := R_nn hg ns.length
      have b3 := sum_bd ns hnb
      omega
    have gbb : b8.natAbs < 2 ^ 90 := by
      have := hb8.1
      omega
    have sh : Shows (.list [.int (ns.getD 0 0 - m1), .tuple (us.map PyData.int), .int (ns.sum - R g ns.length), .int m5, .int b8]) := by
      refine Sm.shows (n := 60000) (e := 2) ((Sm.lst (n := 5000) (e := 1) fun x hx => ?_).mono (show 5 * (5000 + 2) + 3 ≤ 60000 by decide) (Nat.le_refl _))
      simp only [List.mem_cons, List.not_mem_nil, or_false] at hx
      rcases hx with rfl | rfl | rfl | rfl | rfl
      · exact (Sm.int (by omega)).mono (by decide) (by decide)
      · refine (Sm.tup (n := 101) (e := 0) fun d hd => ?_).mono (by rw [List.length_map, hu.1]; omega) (by decide)
        obtain ⟨x, hx, rfl⟩ := List.mem_map.mp hd
        exact Sm.int (by have := hub x hx; omega)
      · exact (Sm.int (by omega)).mono (by decide) (by decide)
      · exact (Sm.int (by omega)).mono (by decide) (by decide)
      · exact (Sm.int (by omega)).mono (by decide) (by decide)
    refine ⟨_, rfl, _, _, N0, rfl, .lst (k914.at0 hW9) (fun z => z) (.cons (.int _) (.cons (.tup (k914.tup0 ht9) (.ints us)) (.cons (.int _) (.cons (.int _) (.cons (.int _) .nil))))), sh, ?_⟩
    refine ⟨_, rfl, _, rfl, p, ns, rfl, k114.tup0 hp, hl1, by omega, hnb, fun b15 H15 k15' hb15 _ => ?_⟩
    obtain rfl := gb_uniq hb8 hb15
    refine ⟨[b8], rfl, Nat.le_of_ble_eq_true rfl, fun E1 H16 nE k16' hE => ?_⟩
    refine ⟨D, E1, _, _, rfl, rfl, (k15'.trans k16').at0 hD, hE, Nat.le_of_lt (small1000 (show 4 + 1 ≤ 1000 by decide)), fun Z H17 nZ k17' hZ => ?_⟩
    have k1117 : Kp [] H11 H17 := ((((k12.trans k13').trans k14').trans k15').trans k16').trans k17'
    refine ⟨_, _, N0, rfl, .lst hZ (fun z => z) (.cons (.int _) (.cons (.tup (k1117.tup0 (sqT h11)) (.ints us)) (.cons (.int _) (.cons (.int _) (.cons (.int _) .nil))))), sh, rfl, ?_⟩
    refine (show Q (.bl (decide (V.str _ = V.str _))) H17 from ?_)
    rw [decide_eq_true rfl]
    exact q H17 (((k114.trans k15').trans k16').trans k17').kt
/-! ### k50, the law -/
theorem take39 {g : Int} {ms : List Int} (hl : ms.length ≤ 40) (e : gapOf g ms = none) : gapOf g (ms.take 39) = none := by
  by_cases c : ms.length ≤ 39
  · rw [List.take_of_length_le c]
    exact e
  · have : ms.take 39 = ms.eraseIdx 39 := by
      rw [List.eraseIdx_eq_take_drop_succ, List.drop_of_length_le (by omega), List.append_nil]
    rw [this]
    exact safe_erase (by omega) e
theorem ok_law {f : Addr} {fd : FuncData} {k : Nat} {T : List (Addr × Str)} (F : Fun K "law" "law" s_law f fd) (m_range : mg "range" = none) (m_max : mg "max" = none) (m_min : mg "min" = none) (m_len : mg "len" = none) (m_tuple : mg "tuple" = none)
    (C_l_take : Cl P w K mg base CX0 1 "_law_take" 2 (sp_l_take K)) (C_l_hand : Cl P w K mg base CX0 1 "_law_hand" 2 (sp_l_hand K)) {ls : Nat} (C_l_safe_case : Cl P w K mg base CX0 ls "_law_safe_case" 2 (sp_l_safe_case K)) (hls : ls ≤ k + 10) (C_l_amounts : Cl P w K mg base CX0 3 "_law_amounts" 2 (sp_l_amounts K))
    {la lb lc : Nat} (C_l_prices_right : Cl P w K mg base CX0 la "_law_prices_right" 3 (sp_l_prices_right K T)) (hla : la ≤ k + 10) (C_l_withdrawals_right : Cl P w K mg base CX0 lb "_law_withdrawals_right" 3 (sp_l_withdrawals_right K T)) (hlb : lb ≤ k + 10) (C_l_spares_right : Cl P w K mg base CX0 lc "_law_spares_right" 2 (sp_l_spares_right K T)) (hlc : lc ≤ k + 10) :
    FnG P w K mg base CX0 (k + 11) f fd ["_law_script"] (sp_law K T) := by
  refine ok0 F sc_law (fun vs H Q E h => ?_) (fun cdv A outer s H vs Q E gd hr h => ?_)
  · obtain ⟨a, ns, rfl, _⟩ := h
    rfl
  · obtain ⟨a, ns, rfl, hS, hl, hT, q⟩ := h
    refine ⟨_, (pss_cons (ps_forW PassesOwn.never rfl (pi_range1 (by rfl) m_range (pa_cons (pe_callB (call_max2 rfl) (by rfl) m_max (by decide +kernel) (pa_cons pe_int (pa_cons (pe_callB (call_min2 rfl) (by rfl) m_min (by decide +kernel) (pa_cons pe_int (pa_cons (pe_callB (call_len_seqK (K := K) rfl) (by rfl) m_len (by decide +kernel) (pa_cons (pv 0) pa_nil)) pa_nil))) pa_nil))) pa_nil)) (pg_name (i := 1) sc_law.nd rfl (.inl rfl))
      (pss_cons (ps_set (i := 2) sc_law.nd rfl (.inr rfl) (pe_cl C_l_hand (hr.mono (by omega)) gd pass0 (by rfl) (pa_cons (pv 0) (pa_cons (pv 1) pa_nil))))
      (pss_cons (ps_asg (pe_cl C_l_safe_case (hr.mono (by omega)) gd pass0 (by rfl) (pa_cons (pv 2) (pa_cons pe_int pa_nil))) (pg_tup rfl (pgs_cons (pg_name (i := 3) sc_law.nd rfl (.inl rfl)) (pgs_cons (pg_name (i := 4) sc_law.nd rfl (.inl rfl)) pgs_nil))))
      (pss_cons (ps_set (i := 3) sc_law.nd rfl (.inl rfl) (pe_slice (sl_tupU (K := K) rfl) (pv 3) po_none (po_some pe_int)))
      (pss_cons (ps_set (i := 5) sc_law.nd rfl (.inl rfl) (pe_cl C_l_amounts (hr.mono (by omega)) gd pass0 (by rfl) (pa_cons (pv 2) (pa_cons (pe_callB (call_len_seqK (K := K) rfl) (by rfl) m_len (by decide +kernel) (pa_cons (pv 3) pa_nil)) pa_nil))))
      (pss_cons (ps_set (i := 6) sc_law.nd rfl (.inl rfl) (pe_callTy (call_tupLK (K := K) rfl) (by rfl) m_tuple (by decide +kernel) (pa_cons (pe_lcW (own := [("_law_one", 7)]) (g := (gName 7)) rfl sc_law.nd (pi_tup (pv 3)) (blkOk_by (own := [("_law_one", 7)]) (N := ["_law_script", "_law_k", "_law_hand_here", "_law_some", "_law_level", "_law_weights", "_law_less", "_law_one"]) (sc := defScope s_law) (by decide +kernel)) (fun _ _ _ _ _ => (pg_name (i := 7) sc_law.nd rfl (.inl rfl))) (fun _ _ _ _ _ => pts_nil) (fun _ _ _ _ _ => (pe_callB (call_max2 rfl) (by rfl) m_max (by decide +kernel) (pa_cons pe_int (pa_cons (pe_op op_sub (pv 7) (pe_cl C_l_take (hr.mono (by omega)) gd pass0 (by rfl) (pa_cons (pv 2) (pa_cons pe_int pa_nil)))) pa_nil))))) pa_nil)))
      (pss_cons (ps_if (PW.pt (pw_or (pt_not (pt_val (pe_cl C_l_prices_right (hr.mono (by omega)) gd pass0 (by rfl) (pa_cons (pv 6) (pa_cons (pv 5) (pa_cons (pv 4) pa_nil)))))) (pw_or1 (pt_not (pt_val (pe_cl C_l_withdrawals_right (hr.mono (by omega)) gd pass0 (by rfl) (pa_cons (pv 3) (pa_cons (pv 5) (pa_cons (pv 4) pa_nil)))))))))
      (pss_one (ps_ret pe_bl))
      pss_nil)
      (pss_one (ps_if (pt_not (pt_val (pe_cl C_l_spares_right (hr.mono (by omega)) gd pass0 (by rfl) (pa_cons (pv 3) (pa_cons (pv 4) pa_nil)))))
      (pss_one (ps_ret pe_bl))
      pss_nil)))))))))
      (pss_one (ps_ret pe_bl))), ?_⟩
    have hf := few (n := (ns.map V.int).length) (by rw [List.length_map]; exact hl) 2 (by decide)
    refine ⟨_, rfl, a, _, rfl, .inl hS, _, _, rfl, _, _, rfl, _, rfl, by omega, by omega, _, _, _, walk_rg,
      fun i σ H1 => ∃ y1 y2 y3 y4 y5 y6 y7, σ = [some (.ref a), y1, y2, y3, y4, y5, y6, y7] ∧ Kt T H H1, ⟨_, _, _, _, _, _, _, rfl, Kt.refl⟩, fun _ _ _ _ _ => trivial, ?_, ?_⟩
    · rintro i x σ _ H1 hi ⟨y1, y2, y3, y4, y5, y6, y7, rfl, k1⟩ ⟨rfl, rfl⟩
      refine ⟨_, rfl, _, rfl, a, ns, _, rfl, k1.lst0 hS, by omega, by omega, fun h0 H2 n0 k2 hd2 => ?_⟩
      have z0 : Nt H h0 := k1.nt0 n0
      have k2 := k1.kp k2
      refine ⟨_, rfl, h0, _, 6, rfl, hd2, by omega, by decide, by decide, fun t t2 H3 ms g k3 _ hd3 ht ht2 ml1 ml hg1 hg2 mb eg => ?_⟩
      have k3 := k2.hand z0 hd2 k3
      refine ⟨t, _, rfl, sqT ht, rfl, _, _, rfl, _, _, rfl, rfl, ?_⟩
      refine ⟨_, rfl, _, rfl, t2, _, rfl, sqT ht2, fun p H4 k4 hp4 => ?_⟩
      rw [show (39 : Int) = ((39 : Nat) : Int) from rfl, cut_take, ← List.map_take] at hp4
      have eg := take39 ml eg
      have mb : ∀ x ∈ ms.take 39, 0 ≤ x ∧ x ≤ 1000000000000 := fun x hx => mb x (List.mem_of_mem_take hx)
      have ml1 : 1 ≤ (ms.take 39).length := by rw [List.length_take]; omega
      have ml : (ms.take 39).length ≤ 39 := by rw [List.length_take]; omega
      generalize ms.take 39 = ms at eg mb ml1 ml hp4
      have k4' := k3.kp k4
      have hd4 := hd3.kp0 k4
      refine ⟨_, rfl, _, rfl, p, _, rfl, .inr hp4, h0, _, ms.length, by rw [List.length_map]; rfl, hd4, by omega, ml1, by omega, fun wa H5 ws k5 hd5 hw5 hAm => ?_⟩
      have hp5 := hd4.tup k5 hp4
      have k5' := k4'.hand z0 hd4 k5
      refine ⟨_, rfl, p, rfl, ⟨_, hp5⟩, _, _, _, walk_ti (ns := ms), small1000 (by omega), fun D H6 nD k6 hD => ?_⟩
      have hd6 := hd5.kp0 k6
      have nDh : D ≠ h0 := fun z => hd5.ne nD z.symm
      refine ⟨fun j acc H' => ∃ us : List Int, acc = us.map V.int ∧ us.length = j ∧ (∀ x ∈ us, 0 ≤ x ∧ x ≤ 1000000000000) ∧ Kp [h0] H5 H' ∧ Hand H' h0 (600 + j) ∧ SqT K H' p (ms.map V.int), ⟨[], rfl, rfl, (fun _ z => nomatch z), k6.wide, hd6.mono (by omega), k6.tup0 hp5⟩, fun _ _ _ _ ⟨_, _, _, _, _, _, z⟩ => z, ?_, ?_⟩
      · rintro j acc x _ H7 hj ⟨us, ea, el, ub, k7, hd7, hp7⟩ hD7 ⟨rfl, rfl⟩
        have hj2 : j < ms.length := hj
        refine ⟨rfl, yesT ?_⟩
        refine ⟨_, rfl, _, rfl, h0, _, 3, rfl, hd7, by omega, by decide, by decide, fun d H8 k8 hd8 d0 d1 => ?_⟩
        refine ⟨_, _, rfl, rfl, _, _, rfl, ?_⟩
        have hD8 := k8.at1 nDh hD7
        refine ⟨hD8, fun H9 m9 h9 => ?_⟩
        have hmj := mb (ms.getD j 0) (by rw [getD_at' hj2]; exact List.getElem_mem _)
        refine ⟨us ++ [_], by rw [List.map_append, ea]; rfl, by rw [List.length_append, el]; rfl, fun y hy => ?_, (k7.trans k8).md (.inl nD) m9, (hd8.md m9 nDh.symm).mono (by omega), m9.kp.tup1 hD8 (hd7.tup k8 hp7)⟩
        rcases List.mem_append.mp hy with hy | hy
        · exact ub y hy
        · rw [List.mem_singleton.mp hy]
          split <;> omega
      rintro acc H7 _ hD7 ⟨us, ea, el, ub, k7, hd7, hp7⟩
      subst ea
      have el : us.length = ms.length := el
      refine ⟨D, _, rfl, sqL hD7, fun l8 H8 n8 k8 h8 => ?_⟩
      have k58 := k7.trans k8.wide
      have hd8 := hd7.kp0 k8
      have k8' := k5'.hand z0 hd5 k58
      have hp8 := k8.tup0 hp7
      have hw8 : SqT K H8 wa (ws.map V.int) := k8.tup0 (hd5.tup k7 hw5)
      refine ⟨_, rfl, _, rfl, _, rfl, l8, wa, us, ws, g, rfl, sqT h8, hw8, by rw [hAm.1, el], by omega, by omega, hg1, hg2, ub, hAm.2, k8'.tab hT, fun H9 k9 => ?_⟩
      refine ⟨_, rfl, (show if (!true) = true then _ else _ from iteF ?_)⟩
      have k9' := k8'.trans k9
      refine ⟨_, rfl, _, rfl, _, rfl, p, wa, ms, ws, g, rfl, k9.tup0 hp8, k9.tup0 hw8, hAm.1, by omega, by omega, hg1, hg2, eg, mb, hAm.2, k9'.tab hT, fun H10 k10 => ?_⟩
      refine ⟨_, rfl, (show if (!true) = true then _ else _ from iteF ?_)⟩
      have k10' := k9'.trans k10
      refine ⟨_, rfl, _, rfl, p, ms, g, rfl, k10.tup0 (k9.tup0 hp8), by omega, by omega, hg1, hg2, eg, mb, k10'.tab hT, fun H11 k11 => ?_⟩
      refine ⟨_, rfl, (show if (!true) = true then _ else _ from iteF ?_)⟩
      exact ⟨_, _, _, _, _, _, _, rfl, k10'.trans k11⟩
    · rintro σ H1 ⟨y1, y2, y3, y4, y5, y6, y7, rfl, k1⟩
      exact q H1
end
theorem all_mk {l : PySem.W.OpenLaw} {w : World} {K : PySem.W.Frag} {h : Heap} {mg : Str → Option Value} {fa : Addr} (X : K.In h) (G : h.Ns mainGlobals mg) (hfa : mg "law" = some (.ref fa))
    {f0 : Addr} {od0 an0 : Option Addr} {sl0 : Array (Option Value)} {oc0 kV0 dc0 pm0 cd0 ct0 : Value}
    (a0 : PySem.W.nsIn K mainGlobals "thresholds" = some (some (.ref f0)))
    (l0 : K.lookup f0 = some ⟨oc0, od0, .func (PySem.W.fnOf "thresholds" "thresholds" (defArgs s_thresholds) (defBody s_thresholds) (defScope s_thresholds) .none kV0 dc0 pm0 an0 cd0 ct0), sl0⟩)
    (c0 : PySem.W.codeIn K cd0 "thresholds" = true) (k0 : PySem.W.keepIn K (.ref f0) = true)
    {f1 : Addr} {od1 an1 : Option Addr} {sl1 : Array (Option Value)} {oc1 kV1 dc1 pm1 cd1 ct1 : Value}
    (a1 : PySem.W.nsIn K mainGlobals "threshold" = some (some (.ref f1)))
    (l1 : K.lookup f1 = some ⟨oc1, od1, .func (PySem.W.fnOf "threshold" "threshold" (defArgs s_threshold) (defBody s_threshold) (defScope s_threshold) .none kV1 dc1 pm1 an1 cd1 ct1), sl1⟩)
    (c1 : PySem.W.codeIn K cd1 "threshold" = true) (k1 : PySem.W.keepIn K (.ref f1) = true)
    {f2 : Addr} {od2 an2 : Option Addr} {sl2 : Array (Option Value)} {oc2 kV2 dc2 pm2 cd2 ct2 : Value}
    (a2 : PySem.W.nsIn K mainGlobals "sums" = some (some (.ref f2)))
    (l2 : K.lookup f2 = some ⟨oc2, od2, .func (PySem.W.fnOf "sums" "sums" (defArgs s_sums) (defBody s_sums) (defScope s_sums) .none kV2 dc2 pm2 an2 cd2 ct2), sl2⟩)
    (c2 : PySem.W.codeIn K cd2 "sums" = true) (k2 : PySem.W.keepIn K (.ref f2) = true)
    {f3 : Addr} {od3 an3 : Option Addr} {sl3 : Array (Option Value)} {oc3 kV3 dc3 pm3 cd3 ct3 : Value}
    (a3 : PySem.W.nsIn K mainGlobals "gap" = some (some (.ref f3)))
    (l3 : K.lookup f3 = some ⟨oc3, od3, .func (PySem.W.fnOf "gap" "gap" (defArgs s_gap) (defBody s_gap) (defScope s_gap) .none kV3 dc3 pm3 an3 cd3 ct3), sl3⟩)
    (c3 : PySem.W.codeIn K cd3 "gap" = true) (k3 : PySem.W.keepIn K (.ref f3) = true)
    {f4 : Addr} {od4 an4 : Option Addr} {sl4 : Array (Option Value)} {oc4 kV4 dc4 pm4 cd4 ct4 : Value}
    (a4 : PySem.W.nsIn K mainGlobals "is_safe" = some (some (.ref f4)))
    (l4 : K.lookup f4 = some ⟨oc4, od4, .func (PySem.W.fnOf "is_safe" "is_safe" (defArgs s_is_safe) (defBody s_is_safe) (defScope s_is_safe) .none kV4 dc4 pm4 an4 cd4 ct4), sl4⟩)
    (c4 : PySem.W.codeIn K cd4 "is_safe" = true) (k4 : PySem.W.keepIn K (.ref f4) = true)
    {f5 : Addr} {od5 an5 : Option Addr} {sl5 : Array (Option Value)} {oc5 kV5 dc5 pm5 cd5 ct5 : Value}
    (a5 : PySem.W.nsIn K mainGlobals "poorest_first" = some (some (.ref f5)))
    (l5 : K.lookup f5 = some ⟨oc5, od5, .func (PySem.W.fnOf "poorest_first" "poorest_first" (defArgs s_poorest_first) (defBody s_poorest_first) (defScope s_poorest_first) .none kV5 dc5 pm5 an5 cd5 ct5), sl5⟩)
    (c5 : PySem.W.codeIn K cd5 "poorest_first" = true) (k5 : PySem.W.keepIn K (.ref f5) = true)
    {cc5 pp5 : Addr} {oo5 : Value} {op5 : Option Addr} {us5 : Array Value} {sq5 : Array (Option Value)}
    (q5 : cd5 = .ref cc5) (t5 : K.lookup cc5 = some ⟨oo5, op5, .fields us5, sq5⟩) (p5 : us5[11]? = some (.ref pp5)) (h5 : PySem.W.codeHdIn K cc5 pp5 = true) (n5 : K.lookup pp5 = none)
    (y5 : h.get? pp5 = some { cls := .none, data := .fields #[] })
    {f6 : Addr} {od6 an6 : Option Addr} {sl6 : Array (Option Value)} {oc6 kV6 dc6 pm6 cd6 ct6 : Value}
    (a6 : PySem.W.nsIn K mainGlobals "weak_set" = some (some (.ref f6)))
    (l6 : K.lookup f6 = some ⟨oc6, od6, .func (PySem.W.fnOf "weak_set" "weak_set" (defArgs s_weak_set) (defBody s_weak_set) (defScope s_weak_set) .none kV6 dc6 pm6 an6 cd6 ct6), sl6⟩)
    (c6 : PySem.W.codeIn K cd6 "weak_set" = true) (k6 : PySem.W.keepIn K (.ref f6) = true)
    {f7 : Addr} {od7 an7 : Option Addr} {sl7 : Array (Option Value)} {oc7 kV7 dc7 pm7 cd7 ct7 : Value}
    (a7 : PySem.W.nsIn K mainGlobals "require_safe" = some (some (.ref f7)))
    (l7 : K.lookup f7 = some ⟨oc7, od7, .func (PySem.W.fnOf "require_safe" "require_safe" (defArgs s_require_safe) (defBody s_require_safe) (defScope s_require_safe) .none kV7 dc7 pm7 an7 cd7 ct7), sl7⟩)
    (c7 : PySem.W.codeIn K cd7 "require_safe" = true) (k7 : PySem.W.keepIn K (.ref f7) = true)
    {f8 : Addr} {od8 an8 : Option Addr} {sl8 : Array (Option Value)} {oc8 kV8 dc8 pm8 cd8 ct8 : Value}
    (a8 : PySem.W.nsIn K mainGlobals "is_integer" = some (some (.ref f8)))
    (l8 : K.lookup f8 = some ⟨oc8, od8, .func (PySem.W.fnOf "is_integer" "is_integer" (defArgs s_is_integer) (defBody s_is_integer) (defScope s_is_integer) .none kV8 dc8 pm8 an8 cd8 ct8), sl8⟩)
    (c8 : PySem.W.codeIn K cd8 "is_integer" = true) (k8 : PySem.W.keepIn K (.ref f8) = true)
    {f9 : Addr} {od9 an9 : Option Addr} {sl9 : Array (Option Value)} {oc9 kV9 dc9 pm9 cd9 ct9 : Value}
    (a9 : PySem.W.nsIn K mainGlobals "is_between" = some (some (.ref f9)))
    (l9 : K.lookup f9 = some ⟨oc9, od9, .func (PySem.W.fnOf "is_between" "is_between" (defArgs s_is_between) (defBody s_is_between) (defScope s_is_between) .none kV9 dc9 pm9 an9 cd9 ct9), sl9⟩)
    (c9 : PySem.W.codeIn K cd9 "is_between" = true) (k9 : PySem.W.keepIn K (.ref f9) = true)
    {f10 : Addr} {od10 an10 : Option Addr} {sl10 : Array (Option Value)} {oc10 kV10 dc10 pm10 cd10 ct10 : Value}
    (a10 : PySem.W.nsIn K mainGlobals "require_sender" = some (some (.ref f10)))
    (l10 : K.lookup f10 = some ⟨oc10, od10, .func (PySem.W.fnOf "require_sender" "require_sender" (defArgs s_require_sender) (defBody s_require_sender) (defScope s_require_sender) .none kV10 dc10 pm10 an10 cd10 ct10), sl10⟩)
    (c10 : PySem.W.codeIn K cd10 "require_sender" = true) (k10 : PySem.W.keepIn K (.ref f10) = true)
    {f11 : Addr} {od11 an11 : Option Addr} {sl11 : Array (Option Value)} {oc11 kV11 dc11 pm11 cd11 ct11 : Value}
    (a11 : PySem.W.nsIn K mainGlobals "least_beside" = some (some (.ref f11)))
    (l11 : K.lookup f11 = some ⟨oc11, od11, .func (PySem.W.fnOf "least_beside" "least_beside" (defArgs s_least_beside) (defBody s_least_beside) (defScope s_least_beside) .none kV11 dc11 pm11 an11 cd11 ct11), sl11⟩)
    (c11 : PySem.W.codeIn K cd11 "least_beside" = true) (k11 : PySem.W.keepIn K (.ref f11) = true)
    {f12 : Addr} {od12 an12 : Option Addr} {sl12 : Array (Option Value)} {oc12 kV12 dc12 pm12 cd12 ct12 : Value}
    (a12 : PySem.W.nsIn K mainGlobals "spare_at" = some (some (.ref f12)))
    (l12 : K.lookup f12 = some ⟨oc12, od12, .func (PySem.W.fnOf "spare_at" "spare_at" (defArgs s_spare_at) (defBody s_spare_at) (defScope s_spare_at) .none kV12 dc12 pm12 an12 cd12 ct12), sl12⟩)
    (c12 : PySem.W.codeIn K cd12 "spare_at" = true) (k12 : PySem.W.keepIn K (.ref f12) = true)
    {f13 : Addr} {od13 an13 : Option Addr} {sl13 : Array (Option Value)} {oc13 kV13 dc13 pm13 cd13 ct13 : Value}
    (a13 : PySem.W.nsIn K mainGlobals "spare" = some (some (.ref f13)))
    (l13 : K.lookup f13 = some ⟨oc13, od13, .func (PySem.W.fnOf "spare" "spare" (defArgs s_spare) (defBody s_spare) (defScope s_spare) .none kV13 dc13 pm13 an13 cd13 ct13), sl13⟩)
    (c13 : PySem.W.codeIn K cd13 "spare" = true) (k13 : PySem.W.keepIn K (.ref f13) = true)
    {f14 : Addr} {od14 an14 : Option Addr} {sl14 : Array (Option Value)} {oc14 kV14 dc14 pm14 cd14 ct14 : Value}
    (a14 : PySem.W.nsIn K mainGlobals "spares" = some (some (.ref f14)))
    (l14 : K.lookup f14 = some ⟨oc14, od14, .func (PySem.W.fnOf "spares" "spares" (defArgs s_spares) (defBody s_spares) (defScope s_spares) .none kV14 dc14 pm14 an14 cd14 ct14), sl14⟩)
    (c14 : PySem.W.codeIn K cd14 "spares" = true) (k14 : PySem.W.keepIn K (.ref f14) = true)
    {f15 : Addr} {od15 an15 : Option Addr} {sl15 : Array (Option Value)} {oc15 kV15 dc15 pm15 cd15 ct15 : Value}
    (a15 : PySem.W.nsIn K mainGlobals "total_spare" = some (some (.ref f15)))
    (l15 : K.lookup f15 = some ⟨oc15, od15, .func (PySem.W.fnOf "total_spare" "total_spare" (defArgs s_total_spare) (defBody s_total_spare) (defScope s_total_spare) .none kV15 dc15 pm15 an15 cd15 ct15), sl15⟩)
    (c15 : PySem.W.codeIn K cd15 "total_spare" = true) (k15 : PySem.W.keepIn K (.ref f15) = true)
    {f16 : Addr} {od16 an16 : Option Addr} {sl16 : Array (Option Value)} {oc16 kV16 dc16 pm16 cd16 ct16 : Value}
    (a16 : PySem.W.nsIn K mainGlobals "entry" = some (some (.ref f16)))
    (l16 : K.lookup f16 = some ⟨oc16, od16, .func (PySem.W.fnOf "entry" "entry" (defArgs s_entry) (defBody s_entry) (defScope s_entry) .none kV16 dc16 pm16 an16 cd16 ct16), sl16⟩)
    (c16 : PySem.W.codeIn K cd16 "entry" = true) (k16 : PySem.W.keepIn K (.ref f16) = true)
    {f17 : Addr} {od17 an17 : Option Addr} {sl17 : Array (Option Value)} {oc17 kV17 dc17 pm17 cd17 ct17 : Value}
    (a17 : PySem.W.nsIn K mainGlobals "greatest_budget" = some (some (.ref f17)))
    (l17 : K.lookup f17 = some ⟨oc17, od17, .func (PySem.W.fnOf "greatest_budget" "greatest_budget" (defArgs s_greatest_budget) (defBody s_greatest_budget) (defScope s_greatest_budget) .none kV17 dc17 pm17 an17 cd17 ct17), sl17⟩)
    (c17 : PySem.W.codeIn K cd17 "greatest_budget" = true) (k17 : PySem.W.keepIn K (.ref f17) = true)
    {f18 : Addr} {od18 an18 : Option Addr} {sl18 : Array (Option Value)} {oc18 kV18 dc18 pm18 cd18 ct18 : Value}
    (a18 : PySem.W.nsIn K mainGlobals "dearest_first" = some (some (.ref f18)))
    (l18 : K.lookup f18 = some ⟨oc18, od18, .func (PySem.W.fnOf "dearest_first" "dearest_first" (defArgs s_dearest_first) (defBody s_dearest_first) (defScope s_dearest_first) .none kV18 dc18 pm18 an18 cd18 ct18), sl18⟩)
    (c18 : PySem.W.codeIn K cd18 "dearest_first" = true) (k18 : PySem.W.keepIn K (.ref f18) = true)
    {cc18 pp18 : Addr} {oo18 : Value} {op18 : Option Addr} {us18 : Array Value} {sq18 : Array (Option Value)}
    (q18 : cd18 = .ref cc18) (t18 : K.lookup cc18 = some ⟨oo18, op18, .fields us18, sq18⟩) (p18 : us18[11]? = some (.ref pp18)) (h18 : PySem.W.codeHdIn K cc18 pp18 = true) (n18 : K.lookup pp18 = none)
    (y18 : h.get? pp18 = some { cls := .none, data := .fields #[] })
    {f19 : Addr} {od19 an19 : Option Addr} {sl19 : Array (Option Value)} {oc19 kV19 dc19 pm19 cd19 ct19 : Value}
    (a19 : PySem.W.nsIn K mainGlobals "raised" = some (some (.ref f19)))
    (l19 : K.lookup f19 = some ⟨oc19, od19, .func (PySem.W.fnOf "raised" "raised" (defArgs s_raised) (defBody s_raised) (defScope s_raised) .none kV19 dc19 pm19 an19 cd19 ct19), sl19⟩)
    (c19 : PySem.W.codeIn K cd19 "raised" = true) (k19 : PySem.W.keepIn K (.ref f19) = true)
    {f20 : Addr} {od20 an20 : Option Addr} {sl20 : Array (Option Value)} {oc20 kV20 dc20 pm20 cd20 ct20 : Value}
    (a20 : PySem.W.nsIn K mainGlobals "raise_cost" = some (some (.ref f20)))
    (l20 : K.lookup f20 = some ⟨oc20, od20, .func (PySem.W.fnOf "raise_cost" "raise_cost" (defArgs s_raise_cost) (defBody s_raise_cost) (defScope s_raise_cost) .none kV20 dc20 pm20 an20 cd20 ct20), sl20⟩)
    (c20 : PySem.W.codeIn K cd20 "raise_cost" = true) (k20 : PySem.W.keepIn K (.ref f20) = true)
    {f21 : Addr} {od21 an21 : Option Addr} {sl21 : Array (Option Value)} {oc21 kV21 dc21 pm21 cd21 ct21 : Value}
    (a21 : PySem.W.nsIn K mainGlobals "withdrawn" = some (some (.ref f21)))
    (l21 : K.lookup f21 = some ⟨oc21, od21, .func (PySem.W.fnOf "withdrawn" "withdrawn" (defArgs s_withdrawn) (defBody s_withdrawn) (defScope s_withdrawn) .none kV21 dc21 pm21 an21 cd21 ct21), sl21⟩)
    (c21 : PySem.W.codeIn K cd21 "withdrawn" = true) (k21 : PySem.W.keepIn K (.ref f21) = true)
    {f22 : Addr} {od22 an22 : Option Addr} {sl22 : Array (Option Value)} {oc22 kV22 dc22 pm22 cd22 ct22 : Value}
    (a22 : PySem.W.nsIn K mainGlobals "withdrawal_value" = some (some (.ref f22)))
    (l22 : K.lookup f22 = some ⟨oc22, od22, .func (PySem.W.fnOf "withdrawal_value" "withdrawal_value" (defArgs s_withdrawal_value) (defBody s_withdrawal_value) (defScope s_withdrawal_value) .none kV22 dc22 pm22 an22 cd22 ct22), sl22⟩)
    (c22 : PySem.W.codeIn K cd22 "withdrawal_value" = true) (k22 : PySem.W.keepIn K (.ref f22) = true)
    {f23 : Addr} {od23 an23 : Option Addr} {sl23 : Array (Option Value)} {oc23 kV23 dc23 pm23 cd23 ct23 : Value}
    (a23 : PySem.W.nsIn K mainGlobals "is_senders" = some (some (.ref f23)))
    (l23 : K.lookup f23 = some ⟨oc23, od23, .func (PySem.W.fnOf "is_senders" "is_senders" (defArgs s_is_senders) (defBody s_is_senders) (defScope s_is_senders) .none kV23 dc23 pm23 an23 cd23 ct23), sl23⟩)
    (c23 : PySem.W.codeIn K cd23 "is_senders" = true) (k23 : PySem.W.keepIn K (.ref f23) = true)
    {f24 : Addr} {od24 an24 : Option Addr} {sl24 : Array (Option Value)} {oc24 kV24 dc24 pm24 cd24 ct24 : Value}
    (a24 : PySem.W.nsIn K mainGlobals "slack" = some (some (.ref f24)))
    (l24 : K.lookup f24 = some ⟨oc24, od24, .func (PySem.W.fnOf "slack" "slack" (defArgs s_slack) (defBody s_slack) (defScope s_slack) .none kV24 dc24 pm24 an24 cd24 ct24), sl24⟩)
    (c24 : PySem.W.codeIn K cd24 "slack" = true) (k24 : PySem.W.keepIn K (.ref f24) = true)
    {f25 : Addr} {od25 an25 : Option Addr} {sl25 : Array (Option Value)} {oc25 kV25 dc25 pm25 cd25 ct25 : Value}
    (a25 : PySem.W.nsIn K mainGlobals "weakest_set" = some (some (.ref f25)))
    (l25 : K.lookup f25 = some ⟨oc25, od25, .func (PySem.W.fnOf "weakest_set" "weakest_set" (defArgs s_weakest_set) (defBody s_weakest_set) (defScope s_weakest_set) .none kV25 dc25 pm25 an25 cd25 ct25), sl25⟩)
    (c25 : PySem.W.codeIn K cd25 "weakest_set" = true) (k25 : PySem.W.keepIn K (.ref f25) = true)
    {f26 : Addr} {od26 an26 : Option Addr} {sl26 : Array (Option Value)} {oc26 kV26 dc26 pm26 cd26 ct26 : Value}
    (a26 : PySem.W.nsIn K mainGlobals "rows_of_falls" = some (some (.ref f26)))
    (l26 : K.lookup f26 = some ⟨oc26, od26, .func (PySem.W.fnOf "rows_of_falls" "rows_of_falls" (defArgs s_rows_of_falls) (defBody s_rows_of_falls) (defScope s_rows_of_falls) .none kV26 dc26 pm26 an26 cd26 ct26), sl26⟩)
    (c26 : PySem.W.codeIn K cd26 "rows_of_falls" = true) (k26 : PySem.W.keepIn K (.ref f26) = true)
    {f27 : Addr} {od27 an27 : Option Addr} {sl27 : Array (Option Value)} {oc27 kV27 dc27 pm27 cd27 ct27 : Value}
    (a27 : PySem.W.nsIn K mainGlobals "lower_bound" = some (some (.ref f27)))
    (l27 : K.lookup f27 = some ⟨oc27, od27, .func (PySem.W.fnOf "lower_bound" "lower_bound" (defArgs s_lower_bound) (defBody s_lower_bound) (defScope s_lower_bound) .none kV27 dc27 pm27 an27 cd27 ct27), sl27⟩)
    (c27 : PySem.W.codeIn K cd27 "lower_bound" = true) (k27 : PySem.W.keepIn K (.ref f27) = true)
    {f28 : Addr} {od28 an28 : Option Addr} {sl28 : Array (Option Value)} {oc28 kV28 dc28 pm28 cd28 ct28 : Value}
    (a28 : PySem.W.nsIn K mainGlobals "tightest_set" = some (some (.ref f28)))
    (l28 : K.lookup f28 = some ⟨oc28, od28, .func (PySem.W.fnOf "tightest_set" "tightest_set" (defArgs s_tightest_set) (defBody s_tightest_set) (defScope s_tightest_set) .none kV28 dc28 pm28 an28 cd28 ct28), sl28⟩)
    (c28 : PySem.W.codeIn K cd28 "tightest_set" = true) (k28 : PySem.W.keepIn K (.ref f28) = true)
    {cc28 pp28 : Addr} {oo28 : Value} {op28 : Option Addr} {us28 : Array Value} {sq28 : Array (Option Value)}
    (q28 : cd28 = .ref cc28) (t28 : K.lookup cc28 = some ⟨oo28, op28, .fields us28, sq28⟩) (p28 : us28[11]? = some (.ref pp28)) (h28 : PySem.W.codeHdIn K cc28 pp28 = true) (n28 : K.lookup pp28 = none)
    (y28 : h.get? pp28 = some { cls := .none, data := .fields #[] })
    {f29 : Addr} {od29 an29 : Option Addr} {sl29 : Array (Option Value)} {oc29 kV29 dc29 pm29 cd29 ct29 : Value}
    (a29 : PySem.W.nsIn K mainGlobals "upper_bound" = some (some (.ref f29)))
    (l29 : K.lookup f29 = some ⟨oc29, od29, .func (PySem.W.fnOf "upper_bound" "upper_bound" (defArgs s_upper_bound) (defBody s_upper_bound) (defScope s_upper_bound) .none kV29 dc29 pm29 an29 cd29 ct29), sl29⟩)
    (c29 : PySem.W.codeIn K cd29 "upper_bound" = true) (k29 : PySem.W.keepIn K (.ref f29) = true)
    {f30 : Addr} {od30 an30 : Option Addr} {sl30 : Array (Option Value)} {oc30 kV30 dc30 pm30 cd30 ct30 : Value}
    (a30 : PySem.W.nsIn K mainGlobals "is_row" = some (some (.ref f30)))
    (l30 : K.lookup f30 = some ⟨oc30, od30, .func (PySem.W.fnOf "is_row" "is_row" (defArgs s_is_row) (defBody s_is_row) (defScope s_is_row) .none kV30 dc30 pm30 an30 cd30 ct30), sl30⟩)
    (c30 : PySem.W.codeIn K cd30 "is_row" = true) (k30 : PySem.W.keepIn K (.ref f30) = true)
    {f31 : Addr} {od31 an31 : Option Addr} {sl31 : Array (Option Value)} {oc31 kV31 dc31 pm31 cd31 ct31 : Value}
    (a31 : PySem.W.nsIn K mainGlobals "is_rows" = some (some (.ref f31)))
    (l31 : K.lookup f31 = some ⟨oc31, od31, .func (PySem.W.fnOf "is_rows" "is_rows" (defArgs s_is_rows) (defBody s_is_rows) (defScope s_is_rows) .none kV31 dc31 pm31 an31 cd31 ct31), sl31⟩)
    (c31 : PySem.W.codeIn K cd31 "is_rows" = true) (k31 : PySem.W.keepIn K (.ref f31) = true)
    {f32 : Addr} {od32 an32 : Option Addr} {sl32 : Array (Option Value)} {oc32 kV32 dc32 pm32 cd32 ct32 : Value}
    (a32 : PySem.W.nsIn K mainGlobals "loads" = some (some (.ref f32)))
    (l32 : K.lookup f32 = some ⟨oc32, od32, .func (PySem.W.fnOf "loads" "loads" (defArgs s_loads) (defBody s_loads) (defScope s_loads) .none kV32 dc32 pm32 an32 cd32 ct32), sl32⟩)
    (c32 : PySem.W.codeIn K cd32 "loads" = true) (k32 : PySem.W.keepIn K (.ref f32) = true)
    {f33 : Addr} {od33 an33 : Option Addr} {sl33 : Array (Option Value)} {oc33 kV33 dc33 pm33 cd33 ct33 : Value}
    (a33 : PySem.W.nsIn K mainGlobals "shows_lower_bound" = some (some (.ref f33)))
    (l33 : K.lookup f33 = some ⟨oc33, od33, .func (PySem.W.fnOf "shows_lower_bound" "shows_lower_bound" (defArgs s_shows_lower_bound) (defBody s_shows_lower_bound) (defScope s_shows_lower_bound) .none kV33 dc33 pm33 an33 cd33 ct33), sl33⟩)
    (c33 : PySem.W.codeIn K cd33 "shows_lower_bound" = true) (k33 : PySem.W.keepIn K (.ref f33) = true)
    {f34 : Addr} {od34 an34 : Option Addr} {sl34 : Array (Option Value)} {oc34 kV34 dc34 pm34 cd34 ct34 : Value}
    (a34 : PySem.W.nsIn K mainGlobals "shows_upper_bound" = some (some (.ref f34)))
    (l34 : K.lookup f34 = some ⟨oc34, od34, .func (PySem.W.fnOf "shows_upper_bound" "shows_upper_bound" (defArgs s_shows_upper_bound) (defBody s_shows_upper_bound) (defScope s_shows_upper_bound) .none kV34 dc34 pm34 an34 cd34 ct34), sl34⟩)
    (c34 : PySem.W.codeIn K cd34 "shows_upper_bound" = true) (k34 : PySem.W.keepIn K (.ref f34) = true)
    {f35 : Addr} {od35 an35 : Option Addr} {sl35 : Array (Option Value)} {oc35 kV35 dc35 pm35 cd35 ct35 : Value}
    (a35 : PySem.W.nsIn K mainGlobals "_law_take" = some (some (.ref f35)))
    (l35 : K.lookup f35 = some ⟨oc35, od35, .func (PySem.W.fnOf "_law_take" "_law_take" (defArgs s__law_take) (defBody s__law_take) (defScope s__law_take) .none kV35 dc35 pm35 an35 cd35 ct35), sl35⟩)
    (c35 : PySem.W.codeIn K cd35 "_law_take" = true) (k35 : PySem.W.keepIn K (.ref f35) = true)
    {f36 : Addr} {od36 an36 : Option Addr} {sl36 : Array (Option Value)} {oc36 kV36 dc36 pm36 cd36 ct36 : Value}
    (a36 : PySem.W.nsIn K mainGlobals "_law_of" = some (some (.ref f36)))
    (l36 : K.lookup f36 = some ⟨oc36, od36, .func (PySem.W.fnOf "_law_of" "_law_of" (defArgs s__law_of) (defBody s__law_of) (defScope s__law_of) .none kV36 dc36 pm36 an36 cd36 ct36), sl36⟩)
    (c36 : PySem.W.codeIn K cd36 "_law_of" = true) (k36 : PySem.W.keepIn K (.ref f36) = true)
    {f37 : Addr} {od37 an37 : Option Addr} {sl37 : Array (Option Value)} {oc37 kV37 dc37 pm37 cd37 ct37 : Value}
    (a37 : PySem.W.nsIn K mainGlobals "_law_hand" = some (some (.ref f37)))
    (l37 : K.lookup f37 = some ⟨oc37, od37, .func (PySem.W.fnOf "_law_hand" "_law_hand" (defArgs s__law_hand) (defBody s__law_hand) (defScope s__law_hand) .none kV37 dc37 pm37 an37 cd37 ct37), sl37⟩)
    (c37 : PySem.W.codeIn K cd37 "_law_hand" = true) (k37 : PySem.W.keepIn K (.ref f37) = true)
    {f38 : Addr} {od38 an38 : Option Addr} {sl38 : Array (Option Value)} {oc38 kV38 dc38 pm38 cd38 ct38 : Value}
    (a38 : PySem.W.nsIn K mainGlobals "_law_rows" = some (some (.ref f38)))
    (l38 : K.lookup f38 = some ⟨oc38, od38, .func (PySem.W.fnOf "_law_rows" "_law_rows" (defArgs s__law_rows) (defBody s__law_rows) (defScope s__law_rows) .none kV38 dc38 pm38 an38 cd38 ct38), sl38⟩)
    (c38 : PySem.W.codeIn K cd38 "_law_rows" = true) (k38 : PySem.W.keepIn K (.ref f38) = true)
    {f39 : Addr} {od39 an39 : Option Addr} {sl39 : Array (Option Value)} {oc39 kV39 dc39 pm39 cd39 ct39 : Value}
    (a39 : PySem.W.nsIn K mainGlobals "_law_mixed" = some (some (.ref f39)))
    (l39 : K.lookup f39 = some ⟨oc39, od39, .func (PySem.W.fnOf "_law_mixed" "_law_mixed" (defArgs s__law_mixed) (defBody s__law_mixed) (defScope s__law_mixed) .none kV39 dc39 pm39 an39 cd39 ct39), sl39⟩)
    (c39 : PySem.W.codeIn K cd39 "_law_mixed" = true) (k39 : PySem.W.keepIn K (.ref f39) = true)
    {f40 : Addr} {od40 an40 : Option Addr} {sl40 : Array (Option Value)} {oc40 kV40 dc40 pm40 cd40 ct40 : Value}
    (a40 : PySem.W.nsIn K mainGlobals "_law_gap" = some (some (.ref f40)))
    (l40 : K.lookup f40 = some ⟨oc40, od40, .func (PySem.W.fnOf "_law_gap" "_law_gap" (defArgs s__law_gap) (defBody s__law_gap) (defScope s__law_gap) .none kV40 dc40 pm40 an40 cd40 ct40), sl40⟩)
    (c40 : PySem.W.codeIn K cd40 "_law_gap" = true) (k40 : PySem.W.keepIn K (.ref f40) = true)
    {f41 : Addr} {od41 an41 : Option Addr} {sl41 : Array (Option Value)} {oc41 kV41 dc41 pm41 cd41 ct41 : Value}
    (a41 : PySem.W.nsIn K mainGlobals "_law_near" = some (some (.ref f41)))
    (l41 : K.lookup f41 = some ⟨oc41, od41, .func (PySem.W.fnOf "_law_near" "_law_near" (defArgs s__law_near) (defBody s__law_near) (defScope s__law_near) .none kV41 dc41 pm41 an41 cd41 ct41), sl41⟩)
    (c41 : PySem.W.codeIn K cd41 "_law_near" = true) (k41 : PySem.W.keepIn K (.ref f41) = true)
    {f42 : Addr} {od42 an42 : Option Addr} {sl42 : Array (Option Value)} {oc42 kV42 dc42 pm42 cd42 ct42 : Value}
    (a42 : PySem.W.nsIn K mainGlobals "_law_safe_case" = some (some (.ref f42)))
    (l42 : K.lookup f42 = some ⟨oc42, od42, .func (PySem.W.fnOf "_law_safe_case" "_law_safe_case" (defArgs s__law_safe_case) (defBody s__law_safe_case) (defScope s__law_safe_case) .none kV42 dc42 pm42 an42 cd42 ct42), sl42⟩)
    (c42 : PySem.W.codeIn K cd42 "_law_safe_case" = true) (k42 : PySem.W.keepIn K (.ref f42) = true)
    {f43 : Addr} {od43 an43 : Option Addr} {sl43 : Array (Option Value)} {oc43 kV43 dc43 pm43 cd43 ct43 : Value}
    (a43 : PySem.W.nsIn K mainGlobals "_law_amounts" = some (some (.ref f43)))
    (l43 : K.lookup f43 = some ⟨oc43, od43, .func (PySem.W.fnOf "_law_amounts" "_law_amounts" (defArgs s__law_amounts) (defBody s__law_amounts) (defScope s__law_amounts) .none kV43 dc43 pm43 an43 cd43 ct43), sl43⟩)
    (c43 : PySem.W.codeIn K cd43 "_law_amounts" = true) (k43 : PySem.W.keepIn K (.ref f43) = true)
    {f44 : Addr} {od44 an44 : Option Addr} {sl44 : Array (Option Value)} {oc44 kV44 dc44 pm44 cd44 ct44 : Value}
    (a44 : PySem.W.nsIn K mainGlobals "_law_prices_right" = some (some (.ref f44)))
    (l44 : K.lookup f44 = some ⟨oc44, od44, .func (PySem.W.fnOf "_law_prices_right" "_law_prices_right" (defArgs s__law_prices_right) (defBody s__law_prices_right) (defScope s__law_prices_right) .none kV44 dc44 pm44 an44 cd44 ct44), sl44⟩)
    (c44 : PySem.W.codeIn K cd44 "_law_prices_right" = true) (k44 : PySem.W.keepIn K (.ref f44) = true)
    {f45 : Addr} {od45 an45 : Option Addr} {sl45 : Array (Option Value)} {oc45 kV45 dc45 pm45 cd45 ct45 : Value}
    (a45 : PySem.W.nsIn K mainGlobals "_law_withdrawals_right" = some (some (.ref f45)))
    (l45 : K.lookup f45 = some ⟨oc45, od45, .func (PySem.W.fnOf "_law_withdrawals_right" "_law_withdrawals_right" (defArgs s__law_withdrawals_right) (defBody s__law_withdrawals_right) (defScope s__law_withdrawals_right) .none kV45 dc45 pm45 an45 cd45 ct45), sl45⟩)
    (c45 : PySem.W.codeIn K cd45 "_law_withdrawals_right" = true) (k45 : PySem.W.keepIn K (.ref f45) = true)
    {f46 : Addr} {od46 an46 : Option Addr} {sl46 : Array (Option Value)} {oc46 kV46 dc46 pm46 cd46 ct46 : Value}
    (a46 : PySem.W.nsIn K mainGlobals "_law_spares_right" = some (some (.ref f46)))
    (l46 : K.lookup f46 = some ⟨oc46, od46, .func (PySem.W.fnOf "_law_spares_right" "_law_spares_right" (defArgs s__law_spares_right) (defBody s__law_spares_right) (defScope s__law_spares_right) .none kV46 dc46 pm46 an46 cd46 ct46), sl46⟩)
    (c46 : PySem.W.codeIn K cd46 "_law_spares_right" = true) (k46 : PySem.W.keepIn K (.ref f46) = true)
    {f47 : Addr} {od47 an47 : Option Addr} {sl47 : Array (Option Value)} {oc47 kV47 dc47 pm47 cd47 ct47 : Value}
    (a47 : PySem.W.nsIn K mainGlobals "law" = some (some (.ref f47)))
    (l47 : K.lookup f47 = some ⟨oc47, od47, .func (PySem.W.fnOf "law" "law" (defArgs s_law) (defBody s_law) (defScope s_law) .none kV47 dc47 pm47 an47 cd47 ct47), sl47⟩)
    (c47 : PySem.W.codeIn K cd47 "law" = true) (k47 : PySem.W.keepIn K (.ref f47) = true)
    (d5_18 : (pp5 == pp18) = false)
    (d28_18 : (pp28 == pp18) = false)
    (d28_5 : (pp28 == pp5) = false)
    (z_range : PySem.W.nsIn K mainGlobals "range" = some none)
    (z_tuple : PySem.W.nsIn K mainGlobals "tuple" = some none)
    (z_sorted : PySem.W.nsIn K mainGlobals "sorted" = some none)
    (z_enumerate : PySem.W.nsIn K mainGlobals "enumerate" = some none)
    (z_len : PySem.W.nsIn K mainGlobals "len" = some none)
    (z_list : PySem.W.nsIn K mainGlobals "list" = some none)
    (z_isinstance : PySem.W.nsIn K mainGlobals "isinstance" = some none)
    (z_int : PySem.W.nsIn K mainGlobals "int" = some none)
    (z_bool : PySem.W.nsIn K mainGlobals "bool" = some none)
    (z_max : PySem.W.nsIn K mainGlobals "max" = some none)
    (z_zip : PySem.W.nsIn K mainGlobals "zip" = some none)
    (z_sum : PySem.W.nsIn K mainGlobals "sum" = some none)
    (z_min : PySem.W.nsIn K mainGlobals "min" = some none)
    (z_all : PySem.W.nsIn K mainGlobals "all" = some none)
    (z_set : PySem.W.nsIn K mainGlobals "set" = some none)
    (z_any : PySem.W.nsIn K mainGlobals "any" = some none)
    (z_abs : PySem.W.nsIn K mainGlobals "abs" = some none)
    (z_repr : PySem.W.nsIn K mainGlobals "repr" = some none)
    : ∃ (fd : FuncData) (cs : List (Addr × Addr)) (sp : Sp), (∀ t ∈ cs, h.get? t.2 = some { cls := .none, data := .fields #[] }) ∧ (∀ t ∈ cs, K.lookup t.2 = none) ∧ (∀ t ∈ cs, PySem.W.CodeHd h t.1 t.2) ∧ (∀ (s : Shared) (u : Value), BindsTo s fd ⟨[u], []⟩ [("_law_script", u)]) ∧
        (∀ (H : Hp) (a : Addr) (ns : List Int), ns.length ≤ 63 → (∀ t ∈ cs, H t.2 = some (.tbl #[])) → SqL K H a (ns.map V.int) → sp [.ref a] H (fun v _ => v = .bl true) fun _ _ _ => False) ∧
        ∀ base : Heap, K.In base → base.Ns mainGlobals mg → (∀ t ∈ cs, TabB base mg t.1 t.2) → FnG l.prog w K mg base CX0 11 fa fd ["_law_script"] sp := by
  have e := hfa.symm.trans (PySem.W.mg_of X G a47)
  cases e
  have m_range := PySem.W.mg_none_of X G z_range
  have m_tuple := PySem.W.mg_none_of X G z_tuple
  have m_sorted := PySem.W.mg_none_of X G z_sorted
  have m_enumerate := PySem.W.mg_none_of X G z_enumerate
  have m_len := PySem.W.mg_none_of X G z_len
  have m_list := PySem.W.mg_none_of X G z_list
  have m_isinstance := PySem.W.mg_none_of X G z_isinstance
  have m_int := PySem.W.mg_none_of X G z_int
  have m_bool := PySem.W.mg_none_of X G z_bool
  have m_max := PySem.W.mg_none_of X G z_max
  have m_zip := PySem.W.mg_none_of X G z_zip
  have m_sum := PySem.W.mg_none_of X G z_sum
  have m_min := PySem.W.mg_none_of X G z_min
  have m_all := PySem.W.mg_none_of X G z_all
  have m_set := PySem.W.mg_none_of X G z_set
  have m_any := PySem.W.mg_none_of X G z_any
  have m_abs := PySem.W.mg_none_of X G z_abs
  have m_repr := PySem.W.mg_none_of X G z_repr
  have F0 := fun_mk (st := s_thresholds) l0 c0 k0
  have b0 := F0.binds (ps := ["count", "budget"]) fun _ _ _ _ _ _ us hl => match us, hl with | [_, _], _ => rfl
  have F1 := fun_mk (st := s_threshold) l1 c1 k1
  have b1 := F1.binds (ps := ["size", "budget"]) fun _ _ _ _ _ _ us hl => match us, hl with | [_, _], _ => rfl
  have F2 := fun_mk (st := s_sums) l2 c2 k2
  have b2 := F2.binds (ps := ["balances"]) fun _ _ _ _ _ _ us hl => match us, hl with | [_], _ => rfl
  have F3 := fun_mk (st := s_gap) l3 c3 k3
  have b3 := F3.binds (ps := ["balances", "budget"]) fun _ _ _ _ _ _ us hl => match us, hl with | [_, _], _ => rfl
  have F4 := fun_mk (st := s_is_safe) l4 c4 k4
  have b4 := F4.binds (ps := ["balances", "budget"]) fun _ _ _ _ _ _ us hl => match us, hl with | [_, _], _ => rfl
  have F5 := fun_mk (st := s_poorest_first) l5 c5 k5
  have b5 := F5.binds (ps := ["balances", "senders"]) fun _ _ _ _ _ _ us hl => match us, hl with | [_, _], _ => rfl
  have F6 := fun_mk (st := s_weak_set) l6 c6 k6
  have b6 := F6.binds (ps := ["balances", "budget"]) fun _ _ _ _ _ _ us hl => match us, hl with | [_, _], _ => rfl
  have F7 := fun_mk (st := s_require_safe) l7 c7 k7
  have b7 := F7.binds (ps := ["balances", "budget"]) fun _ _ _ _ _ _ us hl => match us, hl with | [_, _], _ => rfl
  have F8 := fun_mk (st := s_is_integer) l8 c8 k8
  have b8 := F8.binds (ps := ["thing"]) fun _ _ _ _ _ _ us hl => match us, hl with | [_], _ => rfl
  have F9 := fun_mk (st := s_is_between) l9 c9 k9
  have b9 := F9.binds (ps := ["thing", "least", "most"]) fun _ _ _ _ _ _ us hl => match us, hl with | [_, _, _], _ => rfl
  have F10 := fun_mk (st := s_require_sender) l10 c10 k10
  have b10 := F10.binds (ps := ["balances", "sender"]) fun _ _ _ _ _ _ us hl => match us, hl with | [_, _], _ => rfl
  have F11 := fun_mk (st := s_least_beside) l11 c11 k11
  have b11 := F11.binds (ps := ["others", "budget"]) fun _ _ _ _ _ _ us hl => match us, hl with | [_, _], _ => rfl
  have F12 := fun_mk (st := s_spare_at) l12 c12 k12
  have b12 := F12.binds (ps := ["balances", "budget", "sender"]) fun _ _ _ _ _ _ us hl => match us, hl with | [_, _, _], _ => rfl
  have F13 := fun_mk (st := s_spare) l13 c13 k13
  have b13 := F13.binds (ps := ["balances", "budget", "sender"]) fun _ _ _ _ _ _ us hl => match us, hl with | [_, _, _], _ => rfl
  have F14 := fun_mk (st := s_spares) l14 c14 k14
  have b14 := F14.binds (ps := ["balances", "budget"]) fun _ _ _ _ _ _ us hl => match us, hl with | [_, _], _ => rfl
  have F15 := fun_mk (st := s_total_spare) l15 c15 k15
  have b15 := F15.binds (ps := ["balances", "budget"]) fun _ _ _ _ _ _ us hl => match us, hl with | [_, _], _ => rfl
  have F16 := fun_mk (st := s_entry) l16 c16 k16
  have b16 := F16.binds (ps := ["balances", "budget"]) fun _ _ _ _ _ _ us hl => match us, hl with | [_, _], _ => rfl
  have F17 := fun_mk (st := s_greatest_budget) l17 c17 k17
  have b17 := F17.binds (ps := ["balances"]) fun _ _ _ _ _ _ us hl => match us, hl with | [_], _ => rfl
  have F18 := fun_mk (st := s_dearest_first) l18 c18 k18
  have b18 := F18.binds (ps := ["prices"]) fun _ _ _ _ _ _ us hl => match us, hl with | [_], _ => rfl
  have F19 := fun_mk (st := s_raised) l19 c19 k19
  have b19 := F19.binds (ps := ["balances", "prices", "budget"]) fun _ _ _ _ _ _ us hl => match us, hl with | [_, _, _], _ => rfl
  have F20 := fun_mk (st := s_raise_cost) l20 c20 k20
  have b20 := F20.binds (ps := ["balances", "prices", "other"]) fun _ _ _ _ _ _ us hl => match us, hl with | [_, _, _], _ => rfl
  have F21 := fun_mk (st := s_withdrawn) l21 c21 k21
  have b21 := F21.binds (ps := ["balances", "values", "budget"]) fun _ _ _ _ _ _ us hl => match us, hl with | [_, _, _], _ => rfl
  have F22 := fun_mk (st := s_withdrawal_value) l22 c22 k22
  have b22 := F22.binds (ps := ["balances", "values", "other"]) fun _ _ _ _ _ _ us hl => match us, hl with | [_, _, _], _ => rfl
  have F23 := fun_mk (st := s_is_senders) l23 c23 k23
  have b23 := F23.binds (ps := ["thing", "count"]) fun _ _ _ _ _ _ us hl => match us, hl with | [_, _], _ => rfl
  have F24 := fun_mk (st := s_slack) l24 c24 k24
  have b24 := F24.binds (ps := ["balances", "budget", "senders"]) fun _ _ _ _ _ _ us hl => match us, hl with | [_, _, _], _ => rfl
  have F25 := fun_mk (st := s_weakest_set) l25 c25 k25
  have b25 := F25.binds (ps := ["balances", "budget", "among"]) fun _ _ _ _ _ _ us hl => match us, hl with | [_, _, _], _ => rfl
  have F26 := fun_mk (st := s_rows_of_falls) l26 c26 k26
  have b26 := F26.binds (ps := ["prices", "groups"]) fun _ _ _ _ _ _ us hl => match us, hl with | [_, _], _ => rfl
  have F27 := fun_mk (st := s_lower_bound) l27 c27 k27
  have b27 := F27.binds (ps := ["balances", "prices", "budget"]) fun _ _ _ _ _ _ us hl => match us, hl with | [_, _, _], _ => rfl
  have F28 := fun_mk (st := s_tightest_set) l28 c28 k28
  have b28 := F28.binds (ps := ["balances", "budget", "taken"]) fun _ _ _ _ _ _ us hl => match us, hl with | [_, _, _], _ => rfl
  have F29 := fun_mk (st := s_upper_bound) l29 c29 k29
  have b29 := F29.binds (ps := ["balances", "values", "budget"]) fun _ _ _ _ _ _ us hl => match us, hl with | [_, _, _], _ => rfl
  have F30 := fun_mk (st := s_is_row) l30 c30 k30
  have b30 := F30.binds (ps := ["thing", "count"]) fun _ _ _ _ _ _ us hl => match us, hl with | [_, _], _ => rfl
  have F31 := fun_mk (st := s_is_rows) l31 c31 k31
  have b31 := F31.binds (ps := ["thing", "count"]) fun _ _ _ _ _ _ us hl => match us, hl with | [_, _], _ => rfl
  have F32 := fun_mk (st := s_loads) l32 c32 k32
  have b32 := F32.binds (ps := ["rows", "count"]) fun _ _ _ _ _ _ us hl => match us, hl with | [_, _], _ => rfl
  have F33 := fun_mk (st := s_shows_lower_bound) l33 c33 k33
  have b33 := F33.binds (ps := ["balances", "prices", "budget", "amount", "thing"]) fun _ _ _ _ _ _ us hl => match us, hl with | [_, _, _, _, _], _ => rfl
  have F34 := fun_mk (st := s_shows_upper_bound) l34 c34 k34
  have b34 := F34.binds (ps := ["balances", "values", "budget", "amount", "thing"]) fun _ _ _ _ _ _ us hl => match us, hl with | [_, _, _, _, _], _ => rfl
  have F35 := fun_mk (st := s__law_take) l35 c35 k35
  have b35 := F35.binds (ps := ["_law_hand_here", "_law_many"]) fun _ _ _ _ _ _ us hl => match us, hl with | [_, _], _ => rfl
  have F36 := fun_mk (st := s__law_of) l36 c36 k36
  have b36 := F36.binds (ps := ["_law_hand_here", "_law_some"]) fun _ _ _ _ _ _ us hl => match us, hl with | [_, _], _ => rfl
  have F37 := fun_mk (st := s__law_hand) l37 c37 k37
  have b37 := F37.binds (ps := ["_law_script", "_law_k"]) fun _ _ _ _ _ _ us hl => match us, hl with | [_, _], _ => rfl
  have F38 := fun_mk (st := s__law_rows) l38 c38 k38
  have b38 := F38.binds (ps := ["_law_count", "_law_rate"]) fun _ _ _ _ _ _ us hl => match us, hl with | [_, _], _ => rfl
  have F39 := fun_mk (st := s__law_mixed) l39 c39 k39
  have b39 := F39.binds (ps := ["_law_hand_here", "_law_some"]) fun _ _ _ _ _ _ us hl => match us, hl with | [_, _], _ => rfl
  have F40 := fun_mk (st := s__law_gap) l40 c40 k40
  have b40 := F40.binds (ps := ["_law_held", "_law_rate"]) fun _ _ _ _ _ _ us hl => match us, hl with | [_, _], _ => rfl
  have F41 := fun_mk (st := s__law_near) l41 c41 k41
  have b41 := F41.binds (ps := ["_law_hand_here", "_law_count", "_law_rate"]) fun _ _ _ _ _ _ us hl => match us, hl with | [_, _, _], _ => rfl
  have F42 := fun_mk (st := s__law_safe_case) l42 c42 k42
  have b42 := F42.binds (ps := ["_law_hand_here", "_law_most"]) fun _ _ _ _ _ _ us hl => match us, hl with | [_, _], _ => rfl
  have F43 := fun_mk (st := s__law_amounts) l43 c43 k43
  have b43 := F43.binds (ps := ["_law_hand_here", "_law_count"]) fun _ _ _ _ _ _ us hl => match us, hl with | [_, _], _ => rfl
  have F44 := fun_mk (st := s__law_prices_right) l44 c44 k44
  have b44 := F44.binds (ps := ["_law_less", "_law_weights", "_law_level"]) fun _ _ _ _ _ _ us hl => match us, hl with | [_, _, _], _ => rfl
  have F45 := fun_mk (st := s__law_withdrawals_right) l45 c45 k45
  have b45 := F45.binds (ps := ["_law_some", "_law_weights", "_law_level"]) fun _ _ _ _ _ _ us hl => match us, hl with | [_, _, _], _ => rfl
  have F46 := fun_mk (st := s__law_spares_right) l46 c46 k46
  have b46 := F46.binds (ps := ["_law_some", "_law_level"]) fun _ _ _ _ _ _ us hl => match us, hl with | [_, _], _ => rfl
  have F47 := fun_mk (st := s_law) l47 c47 k47
  have b47 := F47.binds (ps := ["_law_script"]) fun _ _ _ _ _ _ us hl => match us, hl with | [_], _ => rfl
  refine ⟨PySem.W.fnOf "law" "law" (defArgs s_law) (defBody s_law) (defScope s_law) .none kV47 dc47 pm47 an47 cd47 ct47, [(cc18, pp18), (cc5, pp5), (cc28, pp28)], sp_law K [(pp18, qLam "dearest_first"), (pp5, qLam "poorest_first"), (pp28, qLam "tightest_set")], (List.forall_mem_cons.mpr ⟨y18, (List.forall_mem_cons.mpr ⟨y5, (List.forall_mem_cons.mpr ⟨y28, (List.forall_mem_nil _)⟩)⟩)⟩), (List.forall_mem_cons.mpr ⟨n18, (List.forall_mem_cons.mpr ⟨n5, (List.forall_mem_cons.mpr ⟨n28, (List.forall_mem_nil _)⟩)⟩)⟩), (List.forall_mem_cons.mpr ⟨PySem.W.codeHd_of_K X h18, (List.forall_mem_cons.mpr ⟨PySem.W.codeHd_of_K X h5, (List.forall_mem_cons.mpr ⟨PySem.W.codeHd_of_K X h28, (List.forall_mem_nil _)⟩)⟩)⟩), fun s v => .of_eq rfl, fun H a ns hl hT hS => ⟨a, ns, rfl, hS, hl, ?_, fun _ => rfl⟩, fun base _ _ hTB => ?_⟩
  · exact (List.forall_mem_cons.mpr ⟨LamX.TabS.nil (hT (cc18, pp18) (List.mem_cons_self ..)), (List.forall_mem_cons.mpr ⟨LamX.TabS.nil (hT (cc5, pp5) (List.mem_cons_of_mem _ (List.mem_cons_self ..))), (List.forall_mem_cons.mpr ⟨LamX.TabS.nil (hT (cc28, pp28) (List.mem_cons_of_mem _ (List.mem_cons_of_mem _ (List.mem_cons_self ..)))), (List.forall_mem_nil _)⟩)⟩)⟩)
  generalize hTT : ([(pp18, qLam "dearest_first"), (pp5, qLam "poorest_first"), (pp28, qLam "tightest_set")] : List (Addr × Str)) = T
  have tb18 := hTB (cc18, pp18) (List.mem_cons_self ..)
  have mt18 : (pp18, qLam "dearest_first") ∈ T := by rw [← hTT]; exact (List.mem_cons_self ..)
  have ut18 : ∀ r ∈ T, r.1 = pp18 → r.2 = qLam "dearest_first" := by rw [← hTT]; exact (List.forall_mem_cons.mpr ⟨fun _ => rfl, (List.forall_mem_cons.mpr ⟨fun z => absurd z (by simpa using d5_18), (List.forall_mem_cons.mpr ⟨fun z => absurd z (by simpa using d28_18), (List.forall_mem_nil _)⟩)⟩)⟩)
  have tb5 := hTB (cc5, pp5) (List.mem_cons_of_mem _ (List.mem_cons_self ..))
  have mt5 : (pp5, qLam "poorest_first") ∈ T := by rw [← hTT]; exact (List.mem_cons_of_mem _ (List.mem_cons_self ..))
  have ut5 : ∀ r ∈ T, r.1 = pp5 → r.2 = qLam "poorest_first" := by rw [← hTT]; exact (List.forall_mem_cons.mpr ⟨fun z => absurd z.symm (by simpa using d5_18), (List.forall_mem_cons.mpr ⟨fun _ => rfl, (List.forall_mem_cons.mpr ⟨fun z => absurd z (by simpa using d28_5), (List.forall_mem_nil _)⟩)⟩)⟩)
  have tb28 := hTB (cc28, pp28) (List.mem_cons_of_mem _ (List.mem_cons_of_mem _ (List.mem_cons_self ..)))
  have mt28 : (pp28, qLam "tightest_set") ∈ T := by rw [← hTT]; exact (List.mem_cons_of_mem _ (List.mem_cons_of_mem _ (List.mem_cons_self ..)))
  have ut28 : ∀ r ∈ T, r.1 = pp28 → r.2 = qLam "tightest_set" := by rw [← hTT]; exact (List.forall_mem_cons.mpr ⟨fun z => absurd z.symm (by simpa using d28_18), (List.forall_mem_cons.mpr ⟨fun z => absurd z.symm (by simpa using d28_5), (List.forall_mem_cons.mpr ⟨fun _ => rfl, (List.forall_mem_nil _)⟩)⟩)⟩)
  have C_thresholds : Cl l.prog w K mg base CX0 1 "thresholds" 2 (sp_thresholds K) := ⟨⟨_, _, _, ok_thresholds (k := 0) F0 m_range m_tuple, PySem.W.mg_of X G a0, k0, b0⟩⟩
  have C_threshold : Cl l.prog w K mg base CX0 2 "threshold" 2 (sp_threshold K) := ⟨⟨_, _, _, ok_threshold (k := 0) F1 C_thresholds, PySem.W.mg_of X G a1, k1, b1⟩⟩
  have C_sums : Cl l.prog w K mg base CX0 1 "sums" 1 (sp_sums K) := ⟨⟨_, _, _, ok_sums (k := 0) F2 m_sorted m_tuple, PySem.W.mg_of X G a2, k2, b2⟩⟩
  have C_gap : Cl l.prog w K mg base CX0 2 "gap" 2 (sp_gap K) := ⟨⟨_, _, _, ok_gap (k := 0) F3 m_enumerate m_len C_thresholds C_sums, PySem.W.mg_of X G a3, k3, b3⟩⟩
  have C_is_safe : Cl l.prog w K mg base CX0 3 "is_safe" 2 (sp_is_safe K) := ⟨⟨_, _, _, ok_is_safe (k := 0) F4 C_gap, PySem.W.mg_of X G a4, k4, b4⟩⟩
  have C_poorest_first : Cl l.prog w K mg base CX0 4 "poorest_first" 2 (sp_poorest_first K T) := ⟨⟨_, _, _, ok_poorest_first (k := 0) F5 q5 tb5 mt5 ut5 m_sorted, PySem.W.mg_of X G a5, k5, b5⟩⟩
  have C_weak_set : Cl l.prog w K mg base CX0 5 "weak_set" 2 (sp_weak_set K T) := ⟨⟨_, _, _, ok_weak_set (k := 0) F6 m_list m_range m_len m_tuple m_sorted C_gap C_poorest_first, PySem.W.mg_of X G a6, k6, b6⟩⟩
  have C_require_safe : Cl l.prog w K mg base CX0 6 "require_safe" 2 (sp_require_safe K T) := ⟨⟨_, _, _, ok_require_safe (k := 0) F7 C_weak_set, PySem.W.mg_of X G a7, k7, b7⟩⟩
  have C_is_integer : Cl l.prog w K mg base CX0 1 "is_integer" 1 (sp_is_integer K) := ⟨⟨_, _, _, ok_is_integer (k := 0) F8 m_isinstance m_int m_bool, PySem.W.mg_of X G a8, k8, b8⟩⟩
  have C_is_between : Cl l.prog w K mg base CX0 2 "is_between" 3 (sp_is_between K) := ⟨⟨_, _, _, ok_is_between (k := 0) F9 C_is_integer, PySem.W.mg_of X G a9, k9, b9⟩⟩
  have C_require_sender : Cl l.prog w K mg base CX0 3 "require_sender" 2 (sp_require_sender K) := ⟨⟨_, _, _, ok_require_sender (k := 0) F10 m_len C_is_between, PySem.W.mg_of X G a10, k10, b10⟩⟩
  have C_least_beside : Cl l.prog w K mg base CX0 2 "least_beside" 2 (sp_least_beside K) := ⟨⟨_, _, _, ok_least_beside (k := 0) F11 m_max m_zip m_len C_sums C_thresholds, PySem.W.mg_of X G a11, k11, b11⟩⟩
  have C_spare_at : Cl l.prog w K mg base CX0 3 "spare_at" 3 (sp_spare_at K) := ⟨⟨_, _, _, ok_spare_at (k := 0) F12 C_least_beside, PySem.W.mg_of X G a12, k12, b12⟩⟩
  have C_spare : Cl l.prog w K mg base CX0 7 "spare" 3 (sp_spare K T) := ⟨⟨_, _, _, ok_spare (k := 0) F13 C_require_safe C_require_sender C_spare_at, PySem.W.mg_of X G a13, k13, b13⟩⟩
  have C_spares : Cl l.prog w K mg base CX0 7 "spares" 2 (sp_spares K T) := ⟨⟨_, _, _, ok_spares (k := 0) F14 m_tuple m_range m_len C_require_safe C_spare_at, PySem.W.mg_of X G a14, k14, b14⟩⟩
  have C_total_spare : Cl l.prog w K mg base CX0 7 "total_spare" 2 (sp_total_spare K T) := ⟨⟨_, _, _, ok_total_spare (k := 0) F15 m_sum m_len C_require_safe C_threshold, PySem.W.mg_of X G a15, k15, b15⟩⟩
  have C_entry : Cl l.prog w K mg base CX0 7 "entry" 2 (sp_entry K T) := ⟨⟨_, _, _, ok_entry (k := 0) F16 C_require_safe C_least_beside, PySem.W.mg_of X G a16, k16, b16⟩⟩
  have C_greatest_budget : Cl l.prog w K mg base CX0 4 "greatest_budget" 1 (sp_greatest_budget K) := ⟨⟨_, _, _, ok_greatest_budget (k := 0) F17 m_min C_is_safe, PySem.W.mg_of X G a17, k17, b17⟩⟩
  have C_dearest_first : Cl l.prog w K mg base CX0 4 "dearest_first" 1 (sp_dearest_first K T) := ⟨⟨_, _, _, ok_dearest_first (k := 0) F18 q18 tb18 mt18 ut18 m_sorted m_range m_len, PySem.W.mg_of X G a18, k18, b18⟩⟩
  have C_raised : Cl l.prog w K mg base CX0 5 "raised" 3 (sp_raised K T) := ⟨⟨_, _, _, ok_raised (k := 0) F19 m_list m_tuple m_max C_dearest_first C_least_beside, PySem.W.mg_of X G a19, k19, b19⟩⟩
  have C_raise_cost : Cl l.prog w K mg base CX0 1 "raise_cost" 3 (sp_raise_cost K) := ⟨⟨_, _, _, ok_raise_cost (k := 0) F20 m_sum m_zip, PySem.W.mg_of X G a20, k20, b20⟩⟩
  have C_withdrawn : Cl l.prog w K mg base CX0 7 "withdrawn" 3 (sp_withdrawn K T) := ⟨⟨_, _, _, ok_withdrawn (k := 0) F21 m_list m_tuple C_require_safe C_dearest_first C_least_beside, PySem.W.mg_of X G a21, k21, b21⟩⟩
  have C_withdrawal_value : Cl l.prog w K mg base CX0 1 "withdrawal_value" 3 (sp_withdrawal_value K) := ⟨⟨_, _, _, ok_withdrawal_value (k := 0) F22 m_sum m_zip, PySem.W.mg_of X G a22, k22, b22⟩⟩
  have C_is_senders : Cl l.prog w K mg base CX0 3 "is_senders" 2 (sp_is_senders K) := ⟨⟨_, _, _, ok_is_senders (k := 0) F23 m_isinstance m_tuple m_len m_all m_zip C_is_between, PySem.W.mg_of X G a23, k23, b23⟩⟩
  have C_slack : Cl l.prog w K mg base CX0 3 "slack" 3 (sp_slack K) := ⟨⟨_, _, _, ok_slack (k := 0) F24 m_sum m_len C_threshold, PySem.W.mg_of X G a24, k24, b24⟩⟩
  have C_weakest_set : Cl l.prog w K mg base CX0 5 "weakest_set" 3 (sp_weakest_set K T) := ⟨⟨_, _, _, ok_weakest_set (k := 0) F25 m_max m_zip m_len m_tuple m_sorted C_poorest_first C_sums C_thresholds, PySem.W.mg_of X G a25, k25, b25⟩⟩
  have C_rows_of_falls : Cl l.prog w K mg base CX0 5 "rows_of_falls" 2 (sp_rows_of_falls K T) := ⟨⟨_, _, _, ok_rows_of_falls (k := 0) F26 m_zip m_tuple C_dearest_first, PySem.W.mg_of X G a26, k26, b26⟩⟩
  have C_lower_bound : Cl l.prog w K mg base CX0 6 "lower_bound" 3 (sp_lower_bound K T) := ⟨⟨_, _, _, ok_lower_bound (k := 0) F27 m_range m_len C_dearest_first C_weakest_set C_rows_of_falls, PySem.W.mg_of X G a27, k27, b27⟩⟩
  have C_tightest_set : Cl l.prog w K mg base CX0 7 "tightest_set" 3 (sp_tightest_set K T) := ⟨⟨_, _, _, ok_tightest_set (k := 0) F28 q28 tb28 mt28 ut28 m_range m_len m_tuple m_sorted m_min C_poorest_first C_slack, PySem.W.mg_of X G a28, k28, b28⟩⟩
  have C_upper_bound : Cl l.prog w K mg base CX0 8 "upper_bound" 3 (sp_upper_bound K T) := ⟨⟨_, _, _, ok_upper_bound (k := 0) F29 m_range m_len C_require_safe C_dearest_first C_tightest_set C_rows_of_falls, PySem.W.mg_of X G a29, k29, b29⟩⟩
  have C_is_row : Cl l.prog w K mg base CX0 4 "is_row" 2 (sp_is_row K) := ⟨⟨_, _, _, ok_is_row (k := 0) F30 m_isinstance m_tuple m_len C_is_integer C_is_senders, PySem.W.mg_of X G a30, k30, b30⟩⟩
  have C_is_rows : Cl l.prog w K mg base CX0 5 "is_rows" 2 (sp_is_rows K) := ⟨⟨_, _, _, ok_is_rows (k := 0) F31 m_isinstance m_tuple m_len m_all m_set C_is_row, PySem.W.mg_of X G a31, k31, b31⟩⟩
  have C_loads : Cl l.prog w K mg base CX0 1 "loads" 2 (sp_loads K) := ⟨⟨_, _, _, ok_loads (k := 0) F32 m_range, PySem.W.mg_of X G a32, k32, b32⟩⟩
  have C_shows_lower_bound : Cl l.prog w K mg base CX0 6 "shows_lower_bound" 5 (sp_shows_lower_bound K) := ⟨⟨_, _, _, ok_shows_lower_bound (k := 0) F33 m_any m_len m_zip m_sum C_is_integer C_is_rows C_loads C_slack, PySem.W.mg_of X G a33, k33, b33⟩⟩
  have C_shows_upper_bound : Cl l.prog w K mg base CX0 6 "shows_upper_bound" 5 (sp_shows_upper_bound K) := ⟨⟨_, _, _, ok_shows_upper_bound (k := 0) F34 m_any m_len m_zip m_sum C_is_integer C_is_rows C_loads C_slack, PySem.W.mg_of X G a34, k34, b34⟩⟩
  have C_l_take : Cl l.prog w K mg base CX0 1 "_law_take" 2 (sp_l_take K) := ⟨⟨_, _, _, ok__law_take (k := 0) F35 , PySem.W.mg_of X G a35, k35, b35⟩⟩
  have C_l_of : Cl l.prog w K mg base CX0 2 "_law_of" 2 (sp_l_of K) := ⟨⟨_, _, _, ok__law_of (k := 0) F36 m_len C_l_take, PySem.W.mg_of X G a36, k36, b36⟩⟩
  have C_l_hand : Cl l.prog w K mg base CX0 1 "_law_hand" 2 (sp_l_hand K) := ⟨⟨_, _, _, ok__law_hand (k := 0) F37 m_len m_abs m_int, PySem.W.mg_of X G a37, k37, b37⟩⟩
  have C_l_rows : Cl l.prog w K mg base CX0 1 "_law_rows" 2 (sp_l_rows K) := ⟨⟨_, _, _, ok__law_rows (k := 0) F38 m_len, PySem.W.mg_of X G a38, k38, b38⟩⟩
  have C_l_mixed : Cl l.prog w K mg base CX0 2 "_law_mixed" 2 (sp_l_mixed K) := ⟨⟨_, _, _, ok__law_mixed (k := 0) F39 m_list m_len C_l_take, PySem.W.mg_of X G a39, k39, b39⟩⟩
  have C_l_gap : Cl l.prog w K mg base CX0 2 "_law_gap" 2 (sp_l_gap K) := ⟨⟨_, _, _, ok__law_gap (k := 0) F40 m_enumerate m_zip m_sorted m_len C_l_rows, PySem.W.mg_of X G a40, k40, b40⟩⟩
  have C_l_near : Cl l.prog w K mg base CX0 3 "_law_near" 3 (sp_l_near K) := ⟨⟨_, _, _, ok__law_near (k := 0) F41 m_range m_max m_tuple C_l_take C_l_of C_l_rows C_l_mixed, PySem.W.mg_of X G a41, k41, b41⟩⟩
  have C_l_safe_case : Cl l.prog w K mg base CX0 4 "_law_safe_case" 2 (sp_l_safe_case K) := ⟨⟨_, _, _, ok__law_safe_case (k := 0) F42 m_list m_min m_tuple m_sum m_sorted C_l_take C_l_of C_l_gap C_l_near C_l_rows, PySem.W.mg_of X G a42, k42, b42⟩⟩
  have C_l_amounts : Cl l.prog w K mg base CX0 3 "_law_amounts" 2 (sp_l_amounts K) := ⟨⟨_, _, _, ok__law_amounts (k := 0) F43 m_range m_tuple C_l_take C_l_of, PySem.W.mg_of X G a43, k43, b43⟩⟩
  have X_w : PkgW l.prog w K mg base T := ⟨⟨⟨_, _, _, ok_raised (k := 0) F19 m_list m_tuple m_max C_dearest_first C_least_beside, PySem.W.mg_of X G a19, k19, Cf.Fun.bindsW F19 (ps := ["balances", "prices", "budget"]) (ks := ["budget", "prices", "balances"]) (js := [2, 1, 0]) fun _ _ _ _ _ _ ws hl => match ws, hl with | [_, _, _], _ => rfl⟩⟩, ⟨⟨_, _, _, ok_lower_bound (k := 0) F27 m_range m_len C_dearest_first C_weakest_set C_rows_of_falls, PySem.W.mg_of X G a27, k27, Cf.Fun.bindsW F27 (ps := ["balances", "prices", "budget"]) (ks := ["prices", "balances", "budget"]) (js := [1, 0, 2]) fun _ _ _ _ _ _ ws hl => match ws, hl with | [_, _, _], _ => rfl⟩⟩, ⟨⟨_, _, _, ok_raise_cost (k := 0) F20 m_sum m_zip, PySem.W.mg_of X G a20, k20, Cf.Fun.bindsW F20 (ps := ["balances", "prices", "other"]) (ks := ["other", "prices", "balances"]) (js := [2, 1, 0]) fun _ _ _ _ _ _ ws hl => match ws, hl with | [_, _, _], _ => rfl⟩⟩, ⟨⟨_, _, _, ok_shows_lower_bound (k := 0) F33 m_any m_len m_zip m_sum C_is_integer C_is_rows C_loads C_slack, PySem.W.mg_of X G a33, k33, Cf.Fun.bindsW F33 (ps := ["balances", "prices", "budget", "amount", "thing"]) (ks := ["thing", "amount", "budget", "prices", "balances"]) (js := [4, 3, 2, 1, 0]) fun _ _ _ _ _ _ ws hl => match ws, hl with | [_, _, _, _, _], _ => rfl⟩⟩, ⟨⟨_, _, _, ok_withdrawn (k := 0) F21 m_list m_tuple C_require_safe C_dearest_first C_least_beside, PySem.W.mg_of X G a21, k21, Cf.Fun.bindsW F21 (ps := ["balances", "values", "budget"]) (ks := ["budget", "values", "balances"]) (js := [2, 1, 0]) fun _ _ _ _ _ _ ws hl => match ws, hl with | [_, _, _], _ => rfl⟩⟩, ⟨⟨_, _, _, ok_upper_bound (k := 0) F29 m_range m_len C_require_safe C_dearest_first C_tightest_set C_rows_of_falls, PySem.W.mg_of X G a29, k29, Cf.Fun.bindsW F29 (ps := ["balances", "values", "budget"]) (ks := ["values", "balances", "budget"]) (js := [1, 0, 2]) fun _ _ _ _ _ _ ws hl => match ws, hl with | [_, _, _], _ => rfl⟩⟩, ⟨⟨_, _, _, ok_withdrawal_value (k := 0) F22 m_sum m_zip, PySem.W.mg_of X G a22, k22, Cf.Fun.bindsW F22 (ps := ["balances", "values", "other"]) (ks := ["other", "values", "balances"]) (js := [2, 1, 0]) fun _ _ _ _ _ _ ws hl => match ws, hl with | [_, _, _], _ => rfl⟩⟩, ⟨⟨_, _, _, ok_shows_upper_bound (k := 0) F34 m_any m_len m_zip m_sum C_is_integer C_is_rows C_loads C_slack, PySem.W.mg_of X G a34, k34, Cf.Fun.bindsW F34 (ps := ["balances", "values", "budget", "amount", "thing"]) (ks := ["thing", "amount", "budget", "values", "balances"]) (js := [4, 3, 2, 1, 0]) fun _ _ _ _ _ _ ws hl => match ws, hl with | [_, _, _, _, _], _ => rfl⟩⟩, ⟨⟨_, _, _, ok_spare (k := 0) F13 C_require_safe C_require_sender C_spare_at, PySem.W.mg_of X G a13, k13, Cf.Fun.bindsW F13 (ps := ["balances", "budget", "sender"]) (ks := ["sender", "budget", "balances"]) (js := [2, 1, 0]) fun _ _ _ _ _ _ ws hl => match ws, hl with | [_, _, _], _ => rfl⟩⟩, ⟨⟨_, _, _, ok_spares (k := 0) F14 m_tuple m_range m_len C_require_safe C_spare_at, PySem.W.mg_of X G a14, k14, Cf.Fun.bindsW F14 (ps := ["balances", "budget"]) (ks := ["budget", "balances"]) (js := [1, 0]) fun _ _ _ _ _ _ ws hl => match ws, hl with | [_, _], _ => rfl⟩⟩, ⟨⟨_, _, _, ok_total_spare (k := 0) F15 m_sum m_len C_require_safe C_threshold, PySem.W.mg_of X G a15, k15, Cf.Fun.bindsW F15 (ps := ["balances", "budget"]) (ks := ["budget", "balances"]) (js := [1, 0]) fun _ _ _ _ _ _ ws hl => match ws, hl with | [_, _], _ => rfl⟩⟩, ⟨⟨_, _, _, ok_entry (k := 0) F16 C_require_safe C_least_beside, PySem.W.mg_of X G a16, k16, Cf.Fun.bindsW F16 (ps := ["balances", "budget"]) (ks := ["budget", "balances"]) (js := [1, 0]) fun _ _ _ _ _ _ ws hl => match ws, hl with | [_, _], _ => rfl⟩⟩, ⟨⟨_, _, _, ok_greatest_budget (k := 0) F17 m_min C_is_safe, PySem.W.mg_of X G a17, k17, Cf.Fun.bindsW F17 (ps := ["balances"]) (ks := ["balances"]) (js := [0]) fun _ _ _ _ _ _ ws hl => match ws, hl with | [_], _ => rfl⟩⟩⟩
  have C_l_prices_right : Cl l.prog w K mg base CX0 9 "_law_prices_right" 3 (sp_l_prices_right K T) := ⟨⟨_, _, _, ok__law_prices_right (k := 0) F44 m_repr X_w C_raised C_lower_bound C_raise_cost C_shows_lower_bound, PySem.W.mg_of X G a44, k44, b44⟩⟩
  have C_l_withdrawals_right : Cl l.prog w K mg base CX0 9 "_law_withdrawals_right" 3 (sp_l_withdrawals_right K T) := ⟨⟨_, _, _, ok__law_withdrawals_right (k := 0) F45 m_repr X_w C_withdrawn C_upper_bound C_withdrawal_value C_shows_upper_bound, PySem.W.mg_of X G a45, k45, b45⟩⟩
  have C_l_spares_right : Cl l.prog w K mg base CX0 9 "_law_spares_right" 2 (sp_l_spares_right K T) := ⟨⟨_, _, _, ok__law_spares_right (k := 0) F46 m_repr X_w C_spare C_spares C_total_spare C_entry C_greatest_budget, PySem.W.mg_of X G a46, k46, b46⟩⟩
  exact ok_law (k := 0) F47 m_range m_max m_min m_len m_tuple C_l_take C_l_hand C_l_safe_case (by decide) C_l_amounts C_l_prices_right (by decide) C_l_withdrawals_right (by decide) C_l_spares_right (by decide)
end Cf
open PySem PySem.W PyProof.Rows
set_option maxHeartbeats 0 in
theorem PySem.Challenge.cw_creditfloor_k50_prices_and_spares_by_nam_holds : PySem.Challenge.rw_creditfloor_k50_prices_and_spares_by_nam.Holds := by
  w_on; o_law; k_head; (case hw => w_witness2)
  k_fill
  refine Cf.walkT (l := PySem.Challenge.rw_creditfloor_k50_prices_and_spares_by_nam) (n := 63) (k := 11) (x := "_law_script") rfl (by decide) rfl ⟨rfl, by decide, by decide⟩ (fun w h Y => PySem.W.km_in_of Y) ?F
  case F =>
    intro w mg fa h Y KX G hmg
    refine' Cf.all_mk KX G hmg ?a0 ?l0 ?c0 ?k0 ?a1 ?l1 ?c1 ?k1 ?a2 ?l2 ?c2 ?k2 ?a3 ?l3 ?c3 ?k3 ?a4 ?l4 ?c4 ?k4 ?a5 ?l5 ?c5 ?k5 ?q5 ?t5 ?p5 ?h5 ?n5 ?y5 ?a6 ?l6 ?c6 ?k6 ?a7 ?l7 ?c7 ?k7 ?a8 ?l8 ?c8 ?k8 ?a9 ?l9 ?c9 ?k9 ?a10 ?l10 ?c10 ?k10 ?a11 ?l11 ?c11 ?k11 ?a12 ?l12 ?c12 ?k12 ?a13 ?l13 ?c13 ?k13 ?a14 ?l14 ?c14 ?k14 ?a15 ?l15 ?c15 ?k15 ?a16 ?l16 ?c16 ?k16 ?a17 ?l17 ?c17 ?k17 ?a18 ?l18 ?c18 ?k18 ?q18 ?t18 ?p18 ?h18 ?n18 ?y18 ?a19 ?l19 ?c19 ?k19 ?a20 ?l20 ?c20 ?k20 ?a21 ?l21 ?c21 ?k21 ?a22 ?l22 ?c22 ?k22 ?a23 ?l23 ?c23 ?k23 ?a24 ?l24 ?c24 ?k24 ?a25 ?l25 ?c25 ?k25 ?a26 ?l26 ?c26 ?k26 ?a27 ?l27 ?c27 ?k27 ?a28 ?l28 ?c28 ?k28 ?q28 ?t28 ?p28 ?h28 ?n28 ?y28 ?a29 ?l29 ?c29 ?k29 ?a30 ?l30 ?c30 ?k30 ?a31 ?l31 ?c31 ?k31 ?a32 ?l32 ?c32 ?k32 ?a33 ?l33 ?c33 ?k33 ?a34 ?l34 ?c34 ?k34 ?a35 ?l35 ?c35 ?k35 ?a36 ?l36 ?c36 ?k36 ?a37 ?l37 ?c37 ?k37 ?a38 ?l38 ?c38 ?k38 ?a39 ?l39 ?c39 ?k39 ?a40 ?l40 ?c40 ?k40 ?a41 ?l41 ?c41 ?k41 ?a42 ?l42 ?c42 ?k42 ?a43 ?l43 ?c43 ?k43 ?a44 ?l44 ?c44 ?k44 ?a45 ?l45 ?c45 ?k45 ?a46 ?l46 ?c46 ?k46 ?a47 ?l47 ?c47 ?k47 ?d5_18 ?d28_18 ?d28_5 ?z_range ?z_tuple ?z_sorted ?z_enumerate ?z_len ?z_list ?z_isinstance ?z_int ?z_bool ?z_max ?z_zip ?z_sum ?z_min ?z_all ?z_set ?z_any ?z_abs ?z_repr
    (case a0 => k_is); (case l0 => k_is); (case c0 => k_is); (case k0 => k_is); (case a1 => k_is); (case l1 => k_is); (case c1 => k_is); (case k1 => k_is); (case a2 => k_is); (case l2 => k_is); (case c2 => k_is); (case k2 => k_is); (case a3 => k_is); (case l3 => k_is); (case c3 => k_is); (case k3 => k_is); (case a4 => k_is); (case l4 => k_is); (case c4 => k_is); (case k4 => k_is); (case a5 => k_is); (case l5 => k_is); (case c5 => k_is); (case k5 => k_is); (case q5 => rfl); (case t5 => k_is); (case p5 => rfl); (case h5 => kernel_rfl); (case n5 => kernel_rfl); (case y5 => exact PySem.W.km_tabs_of Y _ (by k_mem)); (case a6 => k_is); (case l6 => k_is); (case c6 => k_is); (case k6 => k_is); (case a7 => k_is); (case l7 => k_is); (case c7 => k_is); (case k7 => k_is); (case a8 => k_is); (case l8 => k_is); (case c8 => k_is); (case k8 => k_is); (case a9 => k_is); (case l9 => k_is); (case c9 => k_is); (case k9 => k_is); (case a10 => k_is); (case l10 => k_is); (case c10 => k_is); (case k10 => k_is); (case a11 => k_is); (case l11 => k_is); (case c11 => k_is); (case k11 => k_is); (case a12 => k_is); (case l12 => k_is); (case c12 => k_is); (case k12 => k_is); (case a13 => k_is); (case l13 => k_is); (case c13 => k_is); (case k13 => k_is); (case a14 => k_is); (case l14 => k_is); (case c14 => k_is); (case k14 => k_is); (case a15 => k_is); (case l15 => k_is); (case c15 => k_is); (case k15 => k_is); (case a16 => k_is); (case l16 => k_is); (case c16 => k_is); (case k16 => k_is); (case a17 => k_is); (case l17 => k_is); (case c17 => k_is); (case k17 => k_is); (case a18 => k_is); (case l18 => k_is); (case c18 => k_is); (case k18 => k_is); (case q18 => rfl); (case t18 => k_is); (case p18 => rfl); (case h18 => kernel_rfl); (case n18 => kernel_rfl); (case y18 => exact PySem.W.km_tabs_of Y _ (by k_mem)); (case a19 => k_is); (case l19 => k_is); (case c19 => k_is); (case k19 => k_is); (case a20 => k_is); (case l20 => k_is); (case c20 => k_is); (case k20 => k_is); (case a21 => k_is); (case l21 => k_is); (case c21 => k_is); (case k21 => k_is); (case a22 => k_is); (case l22 => k_is); (case c22 => k_is); (case k22 => k_is); (case a23 => k_is); (case l23 => k_is); (case c23 => k_is); (case k23 => k_is); (case a24 => k_is); (case l24 => k_is); (case c24 => k_is); (case k24 => k_is); (case a25 => k_is); (case l25 => k_is); (case c25 => k_is); (case k25 => k_is); (case a26 => k_is); (case l26 => k_is); (case c26 => k_is); (case k26 => k_is); (case a27 => k_is); (case l27 => k_is); (case c27 => k_is); (case k27 => k_is); (case a28 => k_is); (case l28 => k_is); (case c28 => k_is); (case k28 => k_is); (case q28 => rfl); (case t28 => k_is); (case p28 => rfl); (case h28 => kernel_rfl); (case n28 => kernel_rfl); (case y28 => exact PySem.W.km_tabs_of Y _ (by k_mem)); (case a29 => k_is); (case l29 => k_is); (case c29 => k_is); (case k29 => k_is); (case a30 => k_is); (case l30 => k_is); (case c30 => k_is); (case k30 => k_is); (case a31 => k_is); (case l31 => k_is); (case c31 => k_is); (case k31 => k_is); (case a32 => k_is); (case l32 => k_is); (case c32 => k_is); (case k32 => k_is); (case a33 => k_is); (case l33 => k_is); (case c33 => k_is); (case k33 => k_is); (case a34 => k_is); (case l34 => k_is); (case c34 => k_is); (case k34 => k_is); (case a35 => k_is); (case l35 => k_is); (case c35 => k_is); (case k35 => k_is); (case a36 => k_is); (case l36 => k_is); (case c36 => k_is); (case k36 => k_is); (case a37 => k_is); (case l37 => k_is); (case c37 => k_is); (case k37 => k_is); (case a38 => k_is); (case l38 => k_is); (case c38 => k_is); (case k38 => k_is); (case a39 => k_is); (case l39 => k_is); (case c39 => k_is); (case k39 => k_is); (case a40 => k_is); (case l40 => k_is); (case c40 => k_is); (case k40 => k_is); (case a41 => k_is); (case l41 => k_is); (case c41 => k_is); (case k41 => k_is); (case a42 => k_is); (case l42 => k_is); (case c42 => k_is); (case k42 => k_is); (case a43 => k_is); (case l43 => k_is); (case c43 => k_is); (case k43 => k_is); (case a44 => k_is); (case l44 => k_is); (case c44 => k_is); (case k44 => k_is); (case a45 => k_is); (case l45 => k_is); (case c45 => k_is); (case k45 => k_is); (case a46 => k_is); (case l46 => k_is); (case c46 => k_is); (case k46 => k_is); (case a47 => k_is); (case l47 => k_is); (case c47 => k_is); (case k47 => k_is); (case d5_18 => decide); (case d28_18 => decide); (case d28_5 => decide); (case z_range => k_is); (case z_tuple => k_is); (case z_sorted => k_is); (case z_enumerate => k_is); (case z_len => k_is); (case z_list => k_is); (case z_isinstance => k_is); (case z_int => k_is); (case z_bool => k_is); (case z_max => k_is); (case z_zip => k_is); (case z_sum => k_is); (case z_min => k_is); (case z_all => k_is); (case z_set => k_is); (case z_any => k_is); (case z_abs => k_is); (case z_repr => k_is)
