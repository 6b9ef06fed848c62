import PyProof.Rows.All
import Wide.All
import OpenK.AllK
import Wide.FinOn
import HandS.ForMost
import HandS.Flow
import HandS.Wide
import HandS.RaiseMore
import HandS.SortInts
import HandS.Zip
import HandS.Walk
import HandS.Star
import HandS.TupAny
import HandS.TupMul
import HandS.IsInst
import PyProof.ReprRoads
import KE.KDictZip
import KE.GoesMore
import PyProof.EnumMake
import HandS.FStr
import HandS.Conv
import HandS.Strs
import KE.GoesZip
import KE.GoesEnum
import HandS.Lambda
import KE.KSortKey
import KE.SortCalls
import HandS.Keys
import HandS.EndTab
import HandS.TupLe
import HandS.Deep
import KE.DataMinMax
import KE.SortData
import HandS.Style
import HandS.SetFor
import HandS.SortRule
import KE.DataMinKey
import KE.KRevSl
import HandS.DictTup
import HandS.TupSets
import KE.KSortTupG
import HandS.ExcIs
import HandS.Exc
import HandS.ExcOwn
import HandS.ExcValue
import HandS.ExcField
import HandS.ExcInit
import HandS.ReHeld
import KE.KExcIs
import PyProof.StrLawsRepr
import PyProof.Ascii
import PyProof.Rows.IntBool
import PyProof.Rows.EqBoolInt
import HandS.Text
import PyProof.ReprReads
import HandS.DictComp
import HandS.TryMany
import PyProof.TupleOfSeq
import KE.KDictPairs
import HandS.SortOrd
import HandS.DictEq
import HandS.More
import HandS.ListItems
import HandS.SetTxt0
import PyProof.NeKinds
import HandS.SlotsOwn
import HandS.Codes
import HandS.SuiteRaise
import HandS.RaiseFrom
import HandS.ExcInitHot
import HandS.SortKw
import KE.GoesEnumKw
import HandS.ReplaceLit
import PySem.Challenge.RW_creditfloor_k66_whole_links_that_were_re
set_option Elab.async false
set_option linter.all false
set_option maxRecDepth 100000
namespace Cf
open PySem PySem.Spec PyProof.Rows L2

/-! defs that run where nothing is being shown (no guard is up), so that repr may be used in them -/
structure FnG (P : Program) (w : World) (K : PySem.W.Frag) (mg : Str → Option Value)
    (base : Heap) (CX : CXT) (k : Nat) (f : Addr) (fd : FuncData)
    (ps : List Str) (sp : Sp) : Prop where
  len : ∀ vs H Q E, sp vs H Q E →
    vs.length = ps.length
  run : ∀ (A : Around) (outer : List Env) (s : Shared) (H : Hp) (args : Args) (us : List Value)
    (vs : List V) (Q : VK) (E : XK), Room k A → A.guards = some [] →
    Env0 P w K mg base A outer s H → BindsTo s fd args (ps.zip us) →
    Vals vs us → sp vs H Q E →
    codeAny (model P w) A (.call (.ref f) args) (CR CX outer P w H s Q E) s

section
variable {P : Program} {w : World} {K : PySem.W.Frag}
  {mg : Str → Option Value} {base : Heap}
theorem FnG.mono {CX : CXT} {j k : Nat} {f : Addr} {fd : FuncData} {ps : List Str} {sp : Sp}
    (F : FnG P w K mg base CX j f fd ps sp) (h : j ≤ k) :
    FnG P w K mg base CX k f fd ps sp :=
  ⟨F.len, fun A o s H a us vs Q E hr hg e b r q => F.run A o s H a us vs Q E (hr.mono h) hg e b r q⟩

theorem fnG_of {CX : CXT} {k : Nat} {x qual : Str} {st : Stmt} {f : Addr} {fd : FuncData}
    {N ps : List Str} {sp : Sp} (F : Fun K x qual st f fd) (S : FnScope N ps (defScope st))
    (len : ∀ vs H Q E, sp vs H Q E → vs.length = ps.length)
    (body : ∀ (cdv : Value) (A : Around) (outer : List Env) (s : Shared) (H : Hp) (vs : List V) (Q : VK) (E : XK),
      A.guards = some [] → Room k (A.deeper (envOfC qual (defScope st) s.heap.objs.size f cdv)) → sp vs H Q E →
      ∃ t, PSs (cxOf CX P w K mg base N qual (defScope st) f cdv A outer s H E) (defBody st) t ∧
        t { nx := fun _ H' => Q .non H', rt := Q } (start N vs) H) :
    FnG P w K mg base CX (k + 1) f fd ps sp := by
  obtain ⟨oc, od, kV, doc, pm, an, cd, ct, sl, rfl, look, code⟩ := F.ex
  constructor
  · exact len
  intro A outer s H args us vs Q E room gd env bind rel wish
  have hlen := len vs H Q E wish
  have keeps : ∀ b o, base.get? b = some o → s.heap.get? b = some o :=
    fun b o e => (env.bs b o e).1
  have inK : K.In s.heap := env.mod.kin.keeps keeps
  have noLim : s.heap.NoLimit := env.mod.nolimit.keeps keeps
  refine codeAny_call_function room.depth (inK f _ look) rfl S.co S.gen rfl
    (PySem.W.codeRec_of inK code) (bind _ _ _ _ ?_)
  refine wpAny_newFunctionEnv_cells S.kind ?_ ?_
  · rintro ⟨n, v⟩ hy
    cases S.par n (List.of_mem_zip hy).1 with
    | inl q => exact Or.inl q
    | inr q => exact Or.inr ⟨q, PySem.W.cellsFrom_some _ _ _ (Or.inl q)⟩
  · intro en hen s1 inCall
    subst hen
    refine ⟨noLim.keeps inCall.toInCall.keep, codeAny_func ?_⟩
    obtain ⟨t, judged, reading⟩ := body cd A outer s H vs Q E gd (room.deeper _) wish
    have I0 := inv_start (CX := CX) (E := E) S room.hd env hlen rel inCall
    have ends : ∀ {σ' : L2.St} {H' : Hp} {v : V} {u : Value} {s' : Shared},
        Inv (cxOf CX P w K mg base N qual (defScope st) f cd A outer s H E) [] σ' H' s' →
        RelV v u → Q v H' → CE outer P w H s Q u s' := by
      intro σ' H' v u s' J rv q
      exact ⟨v, H', J.os, J.bare, J.base, J.hok, rv, q⟩
    refine wpAny_mono (judged.run [] s1 (start N vs) H _ I0 reading) ?_ (fun _ _ h => h)
    intro fl s' hs
    match fl, hs with
    | .ret u, hs =>
      obtain ⟨v, σ', H', J, rv, q⟩ := hs
      exact ends J rv q
    | .next, hs =>
      obtain ⟨σ', H', J, q⟩ := hs
      exact ends (v := V.non) (u := Value.none) J rfl q
    | .brk, hs =>
      obtain ⟨_, _, _, q⟩ := hs
      exact q.elim
    | .cont, hs =>
      obtain ⟨_, _, _, q⟩ := hs
      exact q.elim

/-- a def that lets no exception out -/
theorem ok0 {k : Nat} {x qual : Str} {st : Stmt} {f : Addr} {fd : FuncData}
    {N ps : List Str} {sp : Sp} (F : Fun K x qual st f fd) (S : FnScope N ps (defScope st))
    (len : ∀ vs H Q E, sp vs H Q E → vs.length = ps.length)
    (body : ∀ (cdv : Value) (A : Around) (outer : List Env) (s : Shared) (H : Hp) (vs : List V) (Q : VK) (E : XK),
      (A.deeper (envOfC qual (defScope st) s.heap.objs.size f cdv)).guards = some [] → Room k (A.deeper (envOfC qual (defScope st) s.heap.objs.size f cdv)) → sp vs H Q E →
      ∃ t, PSs (cxOf CX0 P w K mg base N qual (defScope st) f cdv A outer s H E).nox (defBody st) t ∧
        t { nx := fun _ H' => Q .non H', rt := Q } (start N vs) H) :
    FnG P w K mg base CX0 (k + 1) f fd ps sp :=
  fnG_of F S len fun cd A o s H vs Q E g hr q =>
    let ⟨t, h, r⟩ := body cd A o s H vs Q E g hr q
    ⟨t, h.nox, r⟩

/-- what a caller knows of a def by its name -/
structure Cl (P : Program) (w : World) (K : PySem.W.Frag) (mg : Str → Option Value) (base : Heap)
    (CX : CXT) (k : Nat) (x : Str) (n : Nat) (sp : Sp) : Prop where
  ex : ∃ (f : Addr) (fd : FuncData) (ps : List Str), FnG P w K mg base CX k f fd ps sp ∧
    mg x = some (.ref f) ∧ PySem.W.keepIn K (.ref f) = true ∧ Binds K fd ps []
end
section
variable {X : Cx} {CX : CXT} {k n : Nat} {sp : Sp} {E : XK} {x : Str} {p pos : Pos} {e : Expr} {es : List Expr} {t : TA}
theorem pe_cl (C : Cl X.prog X.w X.K X.mg X.base CX k x n sp) (hr : Room k X.A) (hgd : X.A.guards = some [])
    (hx : Passes CX X E) (hg : Gl X x) (ha : PA X (e :: es) t)
    (hdb : (x == ("__debug__" : Str)) = false := by decide)
    (he : starEach (e :: es) X.env = (false, eval e X.env) :: starEach es X.env := by rfl)
    (hpl : (backTo pos (starEach es X.env)).any (·.1) = false := by rfl) :
    PE X (.Call (.Name x p) (e :: es) [] pos) (tCall sp [] E t) := by
  obtain ⟨f, fd, ps, F, hm, hk, hb⟩ := C.ex
  constructor
  intro pins s σ H Q I h
  refine wpAny_Call_Name_kw (ld_glob I hg hm ?_ hdb)
  refine PySem.W.callWith_K (h₀ := X.base) I.ok.mod.kin hk
    (thn (ha.run pos pins s σ H _ I h) ?_) he hpl
  rintro us s1 ⟨vs, H1, I1, r, q⟩
  refine ⟨I1.kIn, ?_⟩
  have q' : sp vs H1 Q E := by
    have q2 : sp (vs ++ []) H1 Q E := q
    rwa [List.append_nil] at q2
  have hl : us.length = ps.length := by
    rw [← r.length]
    exact F.len _ _ _ _ q'
  have hb' := hb s1 us I1.kIn (by rw [List.append_nil]; exact hl)
  rw [List.append_nil] at hb'
  refine wpAny_call (codeAny_mono (F.run X.A X.stack s1 H1 ⟨us, []⟩ us vs Q E hr hgd I1.env0 hb' r q') ?_)
  intro res s' hq
  match res, hq with
  | .error er, hq => exact hx pins σ H1 s1 er s' I1 hq
  | .ok (.ret u), hq => exact I1.after hq
  | .ok .next, hq => exact hq.elim
  | .ok .brk, hq => exact hq.elim
  | .ok .cont, hq => exact hq.elim

/-- repr(x) of data: None, bools, ints, texts, lists and tuples of such -/
def Shows (d : PyData) : Prop := d.showable = true ∧ d.depth ≤ 60 ∧ d.shown.length ≤ sizeLine
def rRepr (K : PySem.W.Frag) : List V → Hp → VK → Prop := fun xs H Q =>
  ∃ x d, xs = [x] ∧ Dp K H x d ∧ Shows d ∧ Q (.str d.shown) H
mutual
theorem noDict {K : PySem.W.Frag} {H : Hp} : ∀ {v : V} {d : PyData}, Dp K H v d → d.hasDict = false
  | _, _, .non => by simp only [PyData.hasDict]
  | _, _, .bl _ => by simp only [PyData.hasDict]
  | _, _, .int _ => by simp only [PyData.hasDict]
  | _, _, .str _ => by simp only [PyData.hasDict]
  | _, _, .lst _ h => by
    simp only [PyData.hasDict]
    exact noDicts h
  | _, _, .tup _ h => by
    simp only [PyData.hasDict]
    exact noDicts h
theorem noDicts {K : PySem.W.Frag} {H : Hp} : ∀ {vs : List V} {ds : List PyData}, DpAll K H vs ds → PyData.hasDictAll ds = false
  | _, _, .nil => by simp only [PyData.hasDictAll]
  | _, _, .cons h t => by
    simp only [PyData.hasDictAll]
    rw [noDict h, noDicts t]
    rfl
end
theorem call_repr {k : Nat} (hr : Room k X.A) (hgd : X.A.guards = some []) : CallR X (.builtin "repr") (rRepr X.K) := by
  intro pins s σ H xs us Q I r h
  obtain ⟨x, d, rfl, hd, ⟨hs, hdp, hz⟩, q⟩ := h
  obtain ⟨u, rfl, ru⟩ := vals1 r
  obtain ⟨as, rd⟩ := Dp.reads I d x u hd ru
  have nd := noDict hd
  have hun := hr.un
  cases hd with
  | non =>
    have e : u = Value.none := ru
    subst e
    simp only [PyData.shown] at q
    exact PySem.P.repr_of_none ⟨.str _, H, I.tok _, ⟨_, rfl⟩, q⟩
  | bl b =>
    have e : u = Value.bool b := ru
    subst e
    simp only [PyData.shown] at q
    exact PySem.P.repr_of_bool ⟨.str _, H, I.tok _, ⟨_, rfl⟩, q⟩
  | int i =>
    obtain ⟨t, rfl⟩ := ru
    simp only [PyData.shown] at q
    simp only [PyData.showable, decide_eq_true_eq] at hs
    exact PySem.P.repr_of_int hs ⟨.str _, H, I.tok _, ⟨_, rfl⟩, q⟩
  | str y =>
    obtain ⟨t, rfl⟩ := ru
    simp only [PyData.shown] at q hz
    exact PySem.P.repr_of_str ⟨.str _, H, I.tok _, ⟨_, rfl⟩, q⟩ hz
  | lst sq al =>
    have e : u = Value.ref _ := ru
    subst e
    exact repr_of_reads' rd hs (PyData.noDict_hsm nd) hgd (by omega) (fun _ _ h => h)
      (fun h' t tk hk => ⟨.str _, H, I.kept hk, ⟨_, rfl⟩, q⟩) hz
  | tup sq al =>
    have e : u = Value.ref _ := ru
    subst e
    exact repr_of_reads' rd hs (PyData.noDict_hsm nd) hgd (by omega) (fun _ _ h => h)
      (fun h' t tk hk => ⟨.str _, H, I.kept hk, ⟨_, rfl⟩, q⟩) hz
end

section
variable {P : Program} {w : World} {K : PySem.W.Frag} {mg mb : Str → Option Value} {CX : CXT}
  {k : Nat} {fa a : Addr} {fd : FuncData} {x : Str} {sp : Sp}
end
/-! ### heaps that grow, and change at most at S -/
def Kp (S : List Addr) (H H' : Hp) : Prop := ∀ b o, b ∉ S → H b = some o → H' b = some o
/-- changed at p alone -/
def Md (p : Addr) (H H' : Hp) : Prop := ∀ b, b ≠ p → H' b = H b
section
variable {K : PySem.W.Frag} {S T : List Addr} {H H1 H2 : Hp} {p b : Addr} {o : HO} {xs : List V}
theorem Kp.refl : Kp S H H := fun _ _ _ h => h
theorem Kp.trans (a : Kp S H H1) (c : Kp S H1 H2) : Kp S H H2 := fun q o n h => c q o n (a q o n h)
theorem Kp.mono (a : Kp S H H1) (h : ∀ q ∈ S, q ∈ T) : Kp T H H1 := fun q o n e => a q o (fun z => n (h q z)) e
theorem Kp.wide (a : Kp [] H H1) : Kp S H H1 := a.mono fun _ z => nomatch z
theorem Kp.new (n : H p = none) : Kp S H (upd H p o) := fun q u _ e => by
  rw [upd_ne (ne_of_none e n)]
  exact e
theorem Kp.md (a : Kp S H H1) (h : H p = none ∨ p ∈ S) (m : Md p H1 H2) : Kp S H H2 := fun q u n e => by
  have hq : q ≠ p := by
    rintro rfl
    cases h with
    | inl h => rw [h] at e; cases e
    | inr h => exact n h
  rw [m q hq]
  exact a q u n e
theorem Md.upd : Md p H (upd H p o) := fun _ h => upd_ne h
theorem Md.kp (m : Md p H H1) : Kp [p] H H1 := fun q u n e => by
  rw [m q (fun z => n (by rw [z]; exact List.mem_singleton.mpr rfl))]
  exact e
theorem Kp.free (a : Kp S H H1) (n : p ∉ S) (h : H1 p = none) : H p = none := by
  cases q : H p with
  | none => rfl
  | some u => rw [a p u n q] at h; cases h
theorem Kp.free0 (a : Kp [] H H1) (h : H1 p = none) : H p = none := a.free (fun z => nomatch z) h
theorem Kp.at0 (a : Kp [] H H1) (h : H p = some o) : H1 p = some o := a p o (fun z => nomatch z) h
theorem Kp.at1 (a : Kp [b] H H1) (n : p ≠ b) (h : H p = some o) : H1 p = some o :=
  a p o (fun z => n (List.mem_singleton.mp z)) h
theorem Kp.lst (a : Kp S H H1) (n : p ∉ S) (h : SqL K H p xs) : SqL K H1 p xs := by
  rcases h with (h | ⟨u, h⟩) | h
  · exact .inl (.inl (a _ _ n h))
  · exact .inl (.inr ⟨u, a _ _ n h⟩)
  · exact .inr h
theorem Kp.lst0 (a : Kp [] H H1) (h : SqL K H p xs) : SqL K H1 p xs := a.lst (fun z => nomatch z) h
theorem Kp.lst1 (a : Kp [b] H H1) (n : p ≠ b) (h : SqL K H p xs) : SqL K H1 p xs := a.lst (fun z => n (List.mem_singleton.mp z)) h
theorem Kp.tup (a : Kp S H H1) (n : ∀ u, H p = some u → p ∉ S) (h : SqT K H p xs) : SqT K H1 p xs := by
  rcases h with (h | ⟨u, h⟩) | h
  · exact .inl (.inl (a _ _ (n _ h) h))
  · exact .inl (.inr ⟨u, a _ _ (n _ h) h⟩)
  · exact .inr h
theorem Kp.tup0 (a : Kp [] H H1) (h : SqT K H p xs) : SqT K H1 p xs := a.tup (fun _ _ z => nomatch z) h
/-- a tuple stays where a list is changed -/
theorem Kp.tup1 {ys : List V} (a : Kp [b] H H1) (hb : H b = some (.lst ys)) (h : SqT K H p xs) : SqT K H1 p xs := by
  have ne : ∀ u, H p = some u → (u = .tup xs ∨ ∃ o, u = .frz o (.tup xs)) → p ≠ b := by
    rintro u hu hz rfl
    rw [hb] at hu
    cases hu
    rcases hz with hz | ⟨_, hz⟩ <;> cases hz
  rcases h with (h | ⟨u, h⟩) | h
  · exact .inl (.inl (a.at1 (ne _ h (.inl rfl)) h))
  · exact .inl (.inr ⟨u, a.at1 (ne _ h (.inr ⟨_, rfl⟩)) h⟩)
  · exact .inr h
theorem sqL (h : H p = some (.lst xs)) : SqL K H p xs := .inl (.inl h)
theorem sqT (h : H p = some (.tup xs)) : SqT K H p xs := .inl (.inl h)
end
/-! ### rules whose readings keep heaps closed, and speak of ints -/
abbrev IL (H : Hp) (p : Addr) (ns : List Int) : Prop := H p = some (.lst (ns.map V.int))
section
variable {X : Cx} {e : Expr} {es : List Expr} {ta : TA} {te : TE} {pos : Pos}
theorem pe_imp {t t' : TE} (h : PE X e t) (w : ∀ σ H Q, t' σ H Q → t σ H Q) : PE X e t' :=
  ⟨fun pins s σ H Q I q => h.run pins s σ H Q I (w σ H Q q)⟩
/-- a new object: where it lies, and the heap around it -/
def New (H : Hp) (o : HO) (Q : V → Hp → Prop) : Prop := ∀ p H1, H p = none → Kp [] H H1 → H1 p = some o → Q (.ref p) H1
theorem New.go {H : Hp} {o : HO} {Q : V → Hp → Prop} (h : New H o Q) : ∀ p, H p = none → Q (.ref p) (upd H p o) :=
  fun p n => h p _ n (Kp.new n) upd_same

/-- a rule whose reading may be strengthened on the way -/
def upE (t : TE) : TE := fun σ H Q => ∃ Q0 : VK, t σ H Q0 ∧ ∀ v H1, Q0 v H1 → Q v H1
def upA (t : TA) : TA := fun σ H Q => ∃ Q0 : List V → Hp → Prop, t σ H Q0 ∧ ∀ v H1, Q0 v H1 → Q v H1
theorem pe_up {t : TE} (h : PE X e t) : PE X e (upE t) := ⟨fun pins s σ H Q I ⟨Q0, q, w⟩ =>
  thn (h.run pins s σ H Q0 I q) fun u s1 ⟨v, H1, I1, r, z⟩ => ⟨v, H1, I1, r, w v H1 z⟩⟩
theorem pa_up {t : TA} (h : PA X es t) : PA X es (upA t) := ⟨fun pos pins s σ H Q I ⟨Q0, q, w⟩ =>
  thn (h.run pos pins s σ H Q0 I q) fun u s1 ⟨v, H1, I1, r, z⟩ => ⟨v, H1, I1, r, w v H1 z⟩⟩
/-- [a, b, ..] of ints -/
def tLI (t : TA) : TE := fun σ H Q => t σ H fun xs H1 => ∃ ns : List Int, xs = ns.map V.int ∧ ns.length ≤ sizeLine ∧ New H1 (.lst (ns.map V.int)) Q
theorem pe_li (h : PA X es ta) : PE X (.List es pos) (tLI ta) :=
  pe_imp (pe_lst (pa_up h)) fun σ H Q q => ⟨_, q, fun xs H1 ⟨ns, ex, hl, n⟩ => by
    subst ex
    exact ⟨by rw [List.length_map]; exact hl, n.go⟩⟩
/-- [..] of anything -/
def tLA (t : TA) : TE := fun σ H Q => t σ H fun xs H1 => xs.length ≤ sizeLine ∧ New H1 (.lst xs) Q
theorem pe_la (h : PA X es ta) : PE X (.List es pos) (tLA ta) :=
  pe_imp (pe_lst (pa_up h)) fun σ H Q q => ⟨_, q, fun xs H1 ⟨hl, n⟩ => ⟨hl, n.go⟩⟩
def tTI (t : TA) : TE := fun σ H Q => t σ H fun xs H1 => ∃ ns : List Int, xs = ns.map V.int ∧ ns.length ≤ sizeLine ∧ New H1 (.tup (ns.map V.int)) Q
theorem pe_ti {k : Nat} (h : PA X es ta) : PE X (.Tuple es k pos) (tTI ta) :=
  pe_imp (pe_tup (pa_up h)) fun σ H Q q => ⟨_, q, fun xs H1 ⟨ns, ex, hl, n⟩ => by
    subst ex
    exact ⟨by rw [List.length_map]; exact hl, n.go⟩⟩
def tTA (t : TA) : TE := fun σ H Q => t σ H fun xs H1 => xs.length ≤ sizeLine ∧ New H1 (.tup xs) Q
theorem pe_ta {k : Nat} (h : PA X es ta) : PE X (.Tuple es k pos) (tTA ta) :=
  pe_imp (pe_tup (pa_up h)) fun σ H Q q => ⟨_, q, fun xs H1 ⟨hl, n⟩ => ⟨hl, n.go⟩⟩
theorem call_imp {f : Value} {r r' : List V → Hp → VK → Prop} (h : CallR X f r) (w : ∀ xs H Q, r' xs H Q → r xs H Q) : CallR X f r' :=
  fun pins s σ H xs us Q I rl q => h pins s σ H xs us Q I rl (w xs H Q q)
theorem op_imp {f : Value → Value → Sem Value} {r r' : R2} (h : OpR X f r) (w : ∀ x y H Q, r' x y H Q → r x y H Q) : OpR X f r' :=
  fun pins s σ H x y v u Q I rx ry q => h pins s σ H x y v u Q I rx ry (w x y H Q q)
theorem ix_imp {r r' : R2} (h : IxR X r) (w : ∀ x y H Q, r' x y H Q → r x y H Q) : IxR X r' :=
  fun e1 e2 pins s σ H x y v u Q I rx ry q => h e1 e2 pins s σ H x y v u Q I rx ry (w x y H Q q)
theorem sl_imp {r r' : V → Option Int → Option Int → Hp → VK → Prop} (h : SlR X r) (w : ∀ x lo hi H Q, r' x lo hi H Q → r x lo hi H Q) : SlR X r' :=
  fun pins s σ H x v vl vu lo hi sl Q I rx a b c q => h pins s σ H x v vl vu lo hi sl Q I rx a b c (w x lo hi H Q q)
theorem mt_imp {id : String} {r r' : V → List V → Hp → VK → Prop} (h : MtM X id r) (w : ∀ x xs H Q, r' x xs H Q → r x xs H Q) : MtM X id r' :=
  fun pins s σ H x xs v us Q I rx rs q => h pins s σ H x xs v us Q I rx rs (w x xs H Q q)
theorem set_imp {t t' : TSet} (h : PSet X t) (w : ∀ o i v H Q, t' o i v H Q → t o i v H Q) : PSet X t' :=
  fun pins s σ H o i v ov iv u Q I a b c q => h pins s σ H o i v ov iv u Q I a b c (w o i v H Q q)
/-- tuple(xs), list(xs) of a list or a tuple of ints -/
theorem call_tupL : CallR X (.type "tuple") (fun vs H Q => ∃ p xs, vs = [.ref p] ∧ SqL X.K H p xs ∧ New H (.tup xs) Q) :=
  call_imp call_tuple_of fun _ _ _ ⟨p, xs, e, h, n⟩ => ⟨p, xs, e, .inl ⟨h, n.go⟩⟩
/-- xs[i] of ints, 0 ≤ i -/
theorem getD_map {ns : List Int} {j : Nat} (h : j < ns.length) : (ns.map V.int)[j]? = some (.int (ns.getD j 0)) := by
  rw [List.getElem?_map, List.getElem?_eq_getElem h, List.getD_eq_getElem?_getD, List.getElem?_eq_getElem h]
  rfl
def rIxI (S : Hp → Addr → List V → Prop) : R2 := fun x y H Q => ∃ p, ∃ ns : List Int, ∃ i : Int, x = .ref p ∧ y = .int i ∧ S H p (ns.map V.int) ∧ (0 ≤ i ∧ i < (ns.length : Int)) ∧ Q (.int (ns.getD i.toNat 0)) H
theorem at_of {ns : List Int} {i : Int} (h : 0 ≤ i ∧ i < (ns.length : Int)) : atI (ns.map V.int) i = some (.int (ns.getD i.toNat 0)) := by
  have e : ((i.toNat : Nat) : Int) = i := by omega
  have q := atI_nat (getD_map (ns := ns) (j := i.toNat) (by omega))
  rw [e] at q
  exact q
theorem ix_li : IxR X (rIxI (SqL X.K)) := ix_imp ix_list fun _ _ _ _ ⟨p, ns, i, a, b, c, d, q⟩ => ⟨p, _, i, _, a, b, c, at_of d, q⟩
theorem ix_ti : IxR X (rIxI (SqT X.K)) := ix_imp ix_tup fun _ _ _ _ ⟨p, ns, i, a, b, c, d, q⟩ => ⟨p, _, i, _, a, b, c, at_of d, q⟩
/-- xs[i] of ints, 0 ≤ i, its value said -/
def Get (ns : List Int) (i v : Int) : Prop := 0 ≤ i ∧ ns[i.toNat]? = some v
def rIxV (S : Hp → Addr → List V → Prop) : R2 := fun x y H Q => ∃ p, ∃ ns : List Int, ∃ i v : Int, x = .ref p ∧ y = .int i ∧ S H p (ns.map V.int) ∧ Get ns i v ∧ Q (.int v) H
theorem at_get {ns : List Int} {i v : Int} (h : Get ns i v) : atI (ns.map V.int) i = some (.int v) := by
  have q : (ns.map V.int)[i.toNat]? = some (.int v) := by
    rw [List.getElem?_map, h.2]
    rfl
  have z := atI_nat q
  rw [show ((i.toNat : Nat) : Int) = i by have := h.1; omega] at z
  exact z
theorem ix_lv : IxR X (rIxV (SqL X.K)) := ix_imp ix_list fun _ _ _ _ ⟨p, ns, i, v, a, b, c, d, q⟩ => ⟨p, _, i, _, a, b, c, at_get d, q⟩
/-- xs[:k] of ints, 0 ≤ k -/
theorem cut_take (xs : List V) (k : Nat) : cutV xs none (some (k : Int)) = xs.take k := by
  unfold cutV
  rw [HT.sIx_none, HT.sIx_nat]
  simp only [List.drop_zero, Nat.sub_zero]
  rcases Nat.le_total k xs.length with h | h
  · rw [Nat.min_eq_left h]
  · rw [Nat.min_eq_right h, List.take_of_length_le (Nat.le_refl _), List.take_of_length_le h]
theorem sl_liTo : SlR X (fun x lo hi H Q => ∃ p, ∃ ns : List Int, ∃ k : Int, x = .ref p ∧ lo = none ∧ hi = some k ∧ SqL X.K H p (ns.map V.int) ∧ 0 ≤ k ∧ New H (.lst ((ns.take k.toNat).map V.int)) Q) :=
  sl_imp sl_list fun x lo hi H Q ⟨p, ns, k, a, b, c, d, hk, n⟩ => by
    subst a b c
    refine ⟨p, _, rfl, d, ?_⟩
    have e : cutV (ns.map V.int) none (some k) = (ns.take k.toNat).map V.int := by
      have q := cut_take (ns.map V.int) k.toNat
      rw [show ((k.toNat : Nat) : Int) = k by omega] at q
      rw [q, List.map_take]
    rw [e]
    exact n.go
/-- xs.append(n) -/
theorem mt_app : MtM X "list.append" (fun x vs H Q => ∃ l xs y, x = .ref l ∧ vs = [y] ∧ H l = some (.lst xs) ∧ xs.length < sizeLine ∧ ∀ H1, Md l H H1 → H1 l = some (.lst (xs ++ [y])) → Q .non H1) :=
  mt_imp mt_append fun _ _ _ _ ⟨l, xs, y, a, b, h, z, q⟩ => ⟨l, xs, y, a, b, h, z, q _ Md.upd upd_same⟩
theorem mt_appI : MtM X "list.append" (fun x vs H Q => ∃ l, ∃ ns : List Int, ∃ y : Int, x = .ref l ∧ vs = [.int y] ∧ IL H l ns ∧ ns.length < sizeLine ∧ ∀ H1, Md l H H1 → IL H1 l (ns ++ [y]) → Q .non H1) :=
  mt_imp mt_app fun _ _ _ _ ⟨l, ns, y, a, b, h, z, q⟩ => ⟨l, _, _, a, b, h, by rw [List.length_map]; exact z, fun H1 m e => q H1 m (e.trans (by rw [List.map_append]; rfl))⟩
/-- xs[i] = n, 0 ≤ i -/
theorem set_li : PSet X (fun o i v H Q => ∃ p, ∃ ns : List Int, ∃ k n : Int, o = .ref p ∧ i = .int k ∧ v = .int n ∧ IL H p ns ∧ (0 ≤ k ∧ k < (ns.length : Int)) ∧ ∀ H1, Md p H H1 → IL H1 p (ns.set k.toNat n) → Q H1) :=
  set_imp set_list fun o i v H Q ⟨p, ns, k, n, a, b, c, h, hk, q⟩ => by
    subst c
    refine ⟨p, _, k, k.toNat, a, b, h, ?_, q _ Md.upd ?_⟩
    · unfold ixN
      rw [if_pos hk.1, List.length_map, if_pos hk.2]
    · show upd H p _ p = _
      rw [upd_same, List.map_set]

/-- a if t else b, an int whichever way: P is what is known of it behind -/
def tIfI (t : TT) (ta tb : TE) : TE := fun σ H Q => ∃ P : Int → Prop, (t σ H fun c H1 =>
  if c = true then (ta σ H1 fun v H2 => ∃ i, v = .int i ∧ H2 = H ∧ P i) else (tb σ H1 fun v H2 => ∃ i, v = .int i ∧ H2 = H ∧ P i)) ∧ ∀ i, P i → Q (.int i) H
theorem pe_ifI {c a b : Expr} {tA : TT} {ta tb : TE} (hc : PT X c tA) (ha : PE X a ta) (hb : PE X b tb) : PE X (.IfExp c a b pos) (tIfI tA ta tb) :=
  pe_imp (pe_up (pe_ifExp hc ha hb)) fun σ H Q ⟨P, h, q⟩ => ⟨_, h, fun v H1 ⟨i, a, b, p⟩ => by subst a b; exact q i p⟩
/-- two ways that come together: J is what is known behind both -/
def tIfJ (c : TT) (t u : TS) : TS := fun D σ H => ∃ J : L2.St → Hp → Prop, (c σ H fun b H1 => if b = true then t { D with nx := J } σ H1 else u { D with nx := J } σ H1) ∧ ∀ σ' H', J σ' H' → D.nx σ' H'
theorem ps_ifJ {c : Expr} {a b : List Stmt} {tc : TT} {t u : TS} (hc : PT X c tc) (ha : PSs X a t) (hb : PSs X b u) : PS X (.If c a b pos) (tIfJ tc t u) := by
  refine ⟨fun pins s σ H D I ⟨J, h, w⟩ => ?_⟩
  refine thn ((ps_if hc ha hb).run pins s σ H { D with nx := J } I h) ?_
  intro fl s' hs
  cases fl with
  | next =>
    obtain ⟨σ', H', I', q⟩ := hs
    exact ⟨σ', H', I', w σ' H' q⟩
  | ret u => exact hs
  | brk => exact hs
  | cont => exact hs

/-! ### loops by walks -/
def upI (t : TI) : TI := fun σ H R => ∃ R0 : It → Hp → Prop, t σ H R0 ∧ ∀ J H1, R0 J H1 → R J H1
theorem pi_up {tg iter : Expr} {t : TI} (h : PI X tg iter t) : PI X tg iter (upI t) := by
  refine ⟨fun pins s σ H R I ⟨R0, q, w⟩ => ?_⟩
  refine thn (h.run pins s σ H R0 I q) fun v s1 h1 => thn h1 ?_
  rintro itv s2 ⟨it, fp, tn, J, H', a, b, c, d, e, f⟩
  exact ⟨it, fp, tn, J, H', a, b, c, d, e, w J H' f⟩
def upG (t : TG) : TG := fun v σ H Q => ∃ Q0 : L2.St → Hp → Prop, t v σ H Q0 ∧ ∀ σ' H', Q0 σ' H' → Q σ' H'
theorem pg_up {tg : Expr} {t : TG} (h : PG X tg t) : PG X tg (upG t) := by
  refine ⟨fun pins s σ H v u Q I r ⟨Q0, q, w⟩ => ?_⟩
  refine thn (h.run pins s σ H v u Q0 I r q) ?_
  rintro _ s' ⟨σ', H', I', z⟩
  exact ⟨σ', H', I', w σ' H' z⟩
def upT (t : TT) : TT := fun σ H Q => ∃ Q0 : Bool → Hp → Prop, t σ H Q0 ∧ ∀ b H1, Q0 b H1 → Q b H1
theorem pts_up {ifs : List Expr} {t : TT} (h : PTs X ifs t) : PTs X ifs (upT t) := by
  refine ⟨fun pins s σ H Q I ⟨Q0, q, w⟩ => ?_⟩
  refine thn (h.run pins s σ H Q0 I q) ?_
  rintro b s' ⟨H', I', z⟩
  exact ⟨H', I', w b H' z⟩
/-- for: n turns of J, what holds of the heap that it may go on (G), what a turn gives (Y), the invariant Pv -/
def tForW (wi : TI) (g : TG) (tb : TS) : TS := fun D σ H => wi σ H fun J H1 => ∃ n G Y, Walk J n G Y ∧ ∃ Pv : Nat → L2.St → Hp → Prop, Pv 0 σ H1 ∧
  (∀ i σ H, i ≤ n → Pv i σ H → G H) ∧
  (∀ i x σ H H', i < n → Pv i σ H → Y i H x H' → g x σ H' fun σ2 H2 => tb { D with nx := Pv (i + 1), ct := Pv (i + 1), bk := D.nx } σ2 H2) ∧
  ∀ σ H, Pv n σ H → D.nx σ H
theorem ps_forW {tg iter : Expr} {body : List Stmt} {wi : TI} {g : TG} {tb : TS} (hp : PassesOwn (model X.prog X.w) X.A X.env X.xe) (hc : X.calm = true)
    (hi : PI X tg iter wi) (hg : PG X tg g) (hb : PSs X body tb) (hs : ∀ x, foldedSetIterable iter X.env x = pure x := by intro _; rfl) :
    PS X (.For tg iter body [] pos) (tForW wi g tb) := by
  refine ⟨fun pins s σ H D I h => (ps_for hp hc (pi_up hi) hg hb (hs := hs)).run pins s σ H D I ⟨_, h, ?_⟩⟩
  rintro J H1 ⟨n, G, Y, w, Pv, h0, hG, hs, hd⟩
  exact for_it w Pv h0 hG hs hd
/-- [e for x in ..]: acc is what is made so far -/
def LcW (J : It) (g : TG) (tt : TT) (te : TE) (vs : List Nat) (σ : L2.St) (H1 : Hp) (Q : VK) : Prop := ∃ n G Y, Walk J n G Y ∧ n < sizeLine ∧
  ∀ D H2, H1 D = none → Kp [] H1 H2 → H2 D = some (.lst []) → ∃ Pv : Nat → List V → Hp → Prop, Pv 0 [] H2 ∧ (∀ i acc H, i ≤ n → Pv i acc H → G H) ∧
  (∀ i acc x H H', i < n → Pv i acc H → H D = some (.lst acc) → Y i H x H' → g x (wipe σ vs) H' fun σ2 H3 => wipe σ2 vs = wipe σ vs ∧ tt σ2 H3 fun b H4 =>
    if b = true then (te σ2 H4 fun y H5 => H5 D = some (.lst acc) ∧ ∀ H6, Md D H5 H6 → H6 D = some (.lst (acc ++ [y])) → Pv (i + 1) (acc ++ [y]) H6)
    else H4 D = some (.lst acc) ∧ Pv (i + 1) acc H4) ∧
  ∀ acc H, acc.length ≤ n → H D = some (.lst acc) → Pv n acc H → Q (.ref D) H
def tLcW (wi : TI) (g : TG) (tt : TT) (te : TE) (vs : List Nat) : TE := fun σ H Q => wi σ H fun J H1 => LcW J g tt te vs σ H1 Q
theorem lc_w {wi : TI} {g : TG} {tt : TT} {te : TE} {vs : List Nat} {σ : L2.St} {H : Hp} {Q : VK} (h : tLcW wi g tt te vs σ H Q) : tLc (upI wi) (upG g) (upT tt) (upE te) vs σ H Q := by
  refine ⟨_, h, ?_⟩
  rintro J H1 ⟨n, G, Y, w, hn, body⟩ D nD
  obtain ⟨Pv, h0, hG, hs, hd⟩ := body D _ nD (Kp.new nD) upd_same
  refine lc_it w (fun i H => ∃ acc, H D = some (.lst acc) ∧ acc.length ≤ i ∧ Pv i acc H) ⟨[], upd_same, Nat.le_refl _, h0⟩ (fun i H hi ⟨acc, _, _, p⟩ => hG i acc H hi p) ?_ (fun H ⟨acc, e, l, p⟩ => hd acc H l e p)
  rintro i x H H' hi ⟨acc, ea, la, p⟩ y
  refine ⟨_, hs i acc x H H' hi p ea y, ?_⟩
  rintro σ2 H3 ⟨ew, ht⟩
  refine ⟨ew, _, ht, ?_⟩
  intro b H4 hb
  cases b with
  | true =>
    rw [if_pos rfl] at hb ⊢
    refine ⟨_, hb, ?_⟩
    rintro v H5 ⟨e5, q5⟩
    exact ⟨acc, e5, by omega, acc ++ [v], upd_same, by rw [List.length_append]; exact Nat.succ_le_succ la, q5 _ Md.upd upd_same⟩
  | false =>
    rw [if_neg Bool.false_ne_true] at hb ⊢
    exact ⟨acc, hb.1, by omega, hb.2⟩
theorem pe_lcW {elt tg iter : Expr} {ifs : List Expr} {scope : Scope} {own : List (Str × Nat)} {wi : TI} {g : TG} {tt : TT} {te : TE} (hc : X.calm = true) (hN : X.N.Nodup) (hi : PI X tg iter wi) (ok : BlkOk X.N X.env.scope scope own)
    (hg : ∀ (s : Shared) (H : Hp) (C : Addr) (cl : List (Str × Addr)) (fp : List Addr), PG (X.blk s H scope (compEnvC scope cl C X.env) fp) tg g)
    (ht : ∀ (s : Shared) (H : Hp) (C : Addr) (cl : List (Str × Addr)) (fp : List Addr), PTs (X.blk s H scope (compEnvC scope cl C X.env) fp) ifs tt)
    (he : ∀ (s : Shared) (H : Hp) (C : Addr) (cl : List (Str × Addr)) (fp : List Addr), PE (X.blk s H scope (compEnvC scope cl C X.env) fp) elt te)
    (hs : ∀ x, foldedSetIterable iter X.env x = pure x := by intro _; rfl) :
    PE X (.ListComp elt [⟨tg, iter, ifs, 0⟩] scope pos) (tLcW wi g tt te (own.map (·.2))) :=
  pe_imp (pe_lc hc hN (pi_up hi) ok (fun a b c d e => pg_up (hg a b c d e)) (fun a b c d e => pts_up (ht a b c d e)) (fun a b c d e => pe_up (he a b c d e)) hs) fun _ _ _ q => lc_w q
theorem ps_setLcW {i : Nat} {y : Str} {py spos : Pos} {elt tg iter : Expr} {ifs : List Expr} {scope : Scope} {own : List (Str × Nat)} {wi : TI} {g : TG} {tt : TT} {te : TE} (hc : X.calm = true) (hN : X.N.Nodup)
    (hy : X.N[i]? = some y) (hyl : X.env.scope.names.lookup y = some .local)
    (hsw : swapsWith (.ListComp elt [⟨tg, iter, ifs, 0⟩] scope pos) (some (.Name y py)) spos.line X.env = pure true) (hi : PI X tg iter wi) (ok : BlkOk X.N X.env.scope scope own)
    (hg : ∀ (s : Shared) (H : Hp) (C : Addr) (cl : List (Str × Addr)) (fp : List Addr), PG (X.blk s H scope (compEnvC scope cl C X.env) fp) tg g)
    (ht : ∀ (s : Shared) (H : Hp) (C : Addr) (cl : List (Str × Addr)) (fp : List Addr), PTs (X.blk s H scope (compEnvC scope cl C X.env) fp) ifs tt)
    (he : ∀ (s : Shared) (H : Hp) (C : Addr) (cl : List (Str × Addr)) (fp : List Addr), PE (X.blk s H scope (compEnvC scope cl C X.env) fp) elt te)
    (hs : ∀ x, foldedSetIterable iter X.env x = pure x := by intro _; rfl) :
    PS X (.Assign [.Name y py] (.ListComp elt [⟨tg, iter, ifs, 0⟩] scope pos) spos) (tAsg (tLcW wi g tt te (own.map (·.2))) (gName i)) :=
  ⟨fun pins s σ H D I q => (ps_setLc hc hN hy hyl hsw (pi_up hi) ok (fun a b c d e => pg_up (hg a b c d e)) (fun a b c d e => pts_up (ht a b c d e)) (fun a b c d e => pe_up (he a b c d e)) hs).run pins s σ H D I (lc_w q)⟩
end

/-! ### walks over ints -/
def YI (ns : List Int) : Nat → Hp → V → Hp → Prop := fun i H x H' => H' = H ∧ x = .int (ns.getD i 0)
def YR (lo : Int) : Nat → Hp → V → Hp → Prop := fun i H x H' => H' = H ∧ x = .int (lo + i)
/-- a new pair of ints each turn -/
def YE (ns : List Int) : Nat → Hp → V → Hp → Prop := fun i H x H' => ∃ T, x = .ref T ∧ H T = none ∧ Kp [] H H' ∧ H' T = some (.tup [.int (i : Int), .int (ns.getD i 0)])
def YZ (ns ms : List Int) : Nat → Hp → V → Hp → Prop := fun i H x H' => ∃ T, x = .ref T ∧ H T = none ∧ Kp [] H H' ∧ H' T = some (.tup [.int (ns.getD i 0), .int (ms.getD i 0)])
theorem getD_at {ns : List Int} {i : Nat} {x : V} (hi : i < ns.length) (h : (ns.map V.int)[i]? = some x) : x = .int (ns.getD i 0) := by
  rw [getD_map hi] at h
  exact (Option.some.inj h).symm
section
variable {K : PySem.W.Frag} {a b : Addr} {ns ms : List Int}
theorem walk_li : Walk (Itl K a) ns.length (fun H => SqL K H a (ns.map V.int)) (YI ns) := by
  have w := walk_list (K := K) (a := a) (xs := ns.map V.int)
  rw [List.length_map] at w
  exact w.mono (fun _ h => h) fun i H x H' hi _ ⟨e, h⟩ => ⟨e, getD_at hi h⟩
theorem walk_ti : Walk (Itt K a) ns.length (fun H => SqT K H a (ns.map V.int)) (YI ns) := by
  have w := walk_tup (K := K) (a := a) (xs := ns.map V.int)
  rw [List.length_map] at w
  exact w.mono (fun _ h => h) fun i H x H' hi _ ⟨e, h⟩ => ⟨e, getD_at hi h⟩
theorem walk_zipT {n : Nat} (hn : n = min ns.length ms.length) : Walk (RZ.ItzT K a b) n (fun H => SqT K H a (ns.map V.int) ∧ SqT K H b (ms.map V.int)) (YZ ns ms) := by
  subst hn
  refine ⟨fun i H hi q => ?_, fun H q => ⟨_, _, q.1, q.2, by rw [List.length_map, List.length_map]; omega⟩, ?_⟩
  · exact ⟨_, _, _, _, q.1, q.2, getD_map (by omega), getD_map (by omega)⟩
  · rintro i H x H' hi q ⟨T, x1, x2, e, n, eh, e1, e2⟩
    have z1 := getD_at (by omega) (e1 _ q.1)
    have z2 := getD_at (by omega) (e2 _ q.2)
    subst z1 z2 eh
    exact ⟨T, e, n, Kp.new n, upd_same⟩
theorem walk_rg {lo : Int} {n : Nat} : Walk (Itr lo n) n (fun _ => True) (YR lo) := walk_range
end
theorem yesT {σ : L2.St} {H : Hp} {A B : Hp → Prop} (h : A H) : tYes σ H fun b H4 => if b = true then A H4 else B H4 := by
  show if true = true then A H else B H
  rw [if_pos rfl]
  exact h

/-! ### how long a shown thing is -/
theorem log_small {n k : Nat} (hk : 0 < k) (h : n < 2 ^ k) : n.log2 < k := by
  by_cases h0 : n = 0
  · subst h0
    exact hk
  · exact (Nat.log2_lt h0).mpr h
theorem int_shown {i : Int} (h : i.natAbs < 2 ^ 100) : (PyData.int i).shown.length ≤ 101 := by
  simp only [PyData.shown]
  have hl : i.natAbs.log2 < 100 := log_small (by decide) h
  have q := int_text_length_le (a := i) (k := 100) (by decide) hl
  rw [PySem.ofString_length]
  exact q
theorem shownAll_map : ∀ ds : List PyData, PyData.shownAll ds = ds.map PyData.shown
  | [] => rfl
  | d :: r => by simp only [PyData.shownAll, List.map_cons]; rw [shownAll_map r]
theorem showableAll_of : ∀ {ds : List PyData}, (∀ d ∈ ds, d.showable = true) → PyData.showableAll ds = true
  | [], _ => by simp only [PyData.showableAll]
  | d :: r, h => by
    simp only [PyData.showableAll]
    rw [h d (List.mem_cons_self), showableAll_of fun e he => h e (List.mem_cons_of_mem _ he)]
    rfl
theorem depthAll_of {m : Nat} : ∀ {ds : List PyData}, (∀ d ∈ ds, d.depth ≤ m) → PyData.depthAll ds ≤ m
  | [], _ => by simp only [PyData.depthAll]; omega
  | d :: r, h => by
    simp only [PyData.depthAll]
    have h1 := h d (List.mem_cons_self)
    have h2 := depthAll_of fun e he => h e (List.mem_cons_of_mem _ he)
    omega
theorem piled_of {m : Nat} : ∀ {ts : List Str}, (∀ t ∈ ts, t.length ≤ m) → piled ts ≤ ts.length * (m + 2)
  | [], _ => by simp [piled]
  | t :: r, h => by
    rw [piled_cons, List.length_cons, Nat.succ_mul]
    have h1 := h t (List.mem_cons_self)
    have h2 := piled_of fun e he => h e (List.mem_cons_of_mem _ he)
    omega
theorem tupleText_le (ts : List Str) : (tupleText ts).length ≤ piled ts + 3 := by
  unfold tupleText
  rw [strLen_append, strLen_append]
  have e1 : ((("(" : String) : Str)).length = 1 := rfl
  have e3 : (((if ts.length == 1 then ",)" else ")" : String) : Str)).length ≤ 2 := by split <;> decide
  rw [e1]
  cases ts with
  | nil =>
    have e4 : (Str.join ", " []).length = 0 := rfl
    rw [e4]
    omega
  | cons t r =>
    have := join_length_add (t :: r) (by simp)
    omega
theorem listText_le (ts : List Str) : (listText ts).length ≤ piled ts + 3 := by
  cases ts with
  | nil => decide
  | cons t r =>
    have h := textFrom_length_pos r 1 (("[" : Str) ++ (if (0 : Nat) > 0 then ", " else "" : String) ++ t) (Nat.succ_pos 0)
    have e : ((("[" : Str) ++ (if (0 : Nat) > 0 then ", " else "" : String) ++ t)).length = 1 + t.length := by
      rw [strLen_append, strLen_append]
      rfl
    unfold listText
    rw [strLen_append]
    have e2 : ((("]" : String) : Str)).length = 1 := rfl
    have e3 : (textFrom 0 "[" (t :: r)).length = (textFrom 1 (("[" : Str) ++ (if (0 : Nat) > 0 then ", " else "" : String) ++ t) r).length := rfl
    rw [e2, e3, h, e, piled_cons]
    omega
theorem int_ok {i : Int} (h : i.natAbs < 2 ^ 100) : (PyData.int i).showable = true ∧ (PyData.int i).depth ≤ 0 := by
  refine ⟨?_, ?_⟩
  · simp only [PyData.showable, decide_eq_true_eq]
    exact Nat.lt_trans (log_small (by decide) h) (by decide)
  · simp only [PyData.depth]
    omega
theorem dp_ints {K : PySem.W.Frag} {H : Hp} : ∀ ns : List Int, DpAll K H (ns.map V.int) (ns.map PyData.int)
  | [] => .nil
  | n :: r => .cons (.int n) (dp_ints r)
theorem dp_ti {K : PySem.W.Frag} {H : Hp} {p : Addr} {ns : List Int} (h : SqT K H p (ns.map V.int)) : Dp K H (.ref p) (.tuple (ns.map PyData.int)) := .tup h (dp_ints ns)
section
variable {X : Cx} {e : Expr} {es : List Expr} {ta : TA} {pos : Pos}
/-- a if t else b: P is what is known of it behind -/
def tIfP (t : TT) (ta tb : TE) : TE := fun σ H Q => ∃ P : V → Hp → Prop, (t σ H fun c H1 => if c = true then ta σ H1 P else tb σ H1 P) ∧ ∀ v H1, P v H1 → Q v H1
theorem pe_ifP {c a b : Expr} {tA : TT} {ta tb : TE} (hc : PT X c tA) (ha : PE X a ta) (hb : PE X b tb) : PE X (.IfExp c a b pos) (tIfP tA ta tb) :=
  pe_imp (pe_up (pe_ifExp hc ha hb)) fun σ H Q ⟨P, h, q⟩ => ⟨P, h, q⟩
/-- sorted(xs) of a list of ints -/
theorem cr_srtL : CallR X (.builtin "sorted") (fun vs H Q => ∃ p, ∃ ns : List Int, vs = [.ref p] ∧ SqL X.K H p (ns.map V.int) ∧ ∀ ms : List Int, ms.Perm ns → ms.Pairwise (· ≤ ·) → New H (.lst (ms.map V.int)) Q) :=
  call_imp cr_sortedI fun vs H Q ⟨p, ns, a, b, w⟩ => ⟨p, ns, a, b, fun ms q h1 h2 h3 => (w ms h1 h2).go q h3⟩
end
theorem ifNo {c A B : Prop} [Decidable c] (hc : ¬ c) (h : B) : if decide c = true then A else B := by
  rw [decide_eq_false hc, if_neg Bool.false_ne_true]
  exact h
theorem ifYes {c A B : Prop} [Decidable c] (hc : c) (h : A) : if decide c = true then A else B := by
  rw [decide_eq_true hc, if_pos rfl]
  exact h
end Cf

set_option Elab.async false
set_option linter.all false
set_option maxRecDepth 100000
namespace Cf
open PySem PySem.Spec PyProof.Rows L2
/-! ### enumerate(zip(xs, ys)) -/
section
variable {prog : Program} {w : World} {A : Around} {E : Value → Shared → Prop} {s : Shared}
/-- enumerate's next turn over any iterator: what the iterator gives is told by inner -/
theorem enum_item {e it : Addr} {i : Nat} {old : Value} {Q : Value → Shared → Prop} (he : IsEnum s.heap e it i old)
    (inner : wpAny (model prog w) A (Builtin.SmallTypes.nextOf (.ref it)) (fun x s1 => IsEnum s1.heap e it i old ∧
      ∀ h', IsEnumOut h' e it ((i : Int) + 1) x s1.heap.objs.size →
        h'.get? s1.heap.objs.size = some { cls := .type "tuple", data := .seq #[.int i s1.toks, x] } →
        h'.objs.size = s1.heap.objs.size + 1 → (∀ b o, b ≠ e → s1.heap.get? b = some o → h'.get? b = some o) →
        Q (.ref s1.heap.objs.size) { s1 with heap := h', toks := s1.toks + 1 }) E s) :
    wpAny (model prog w) A (Builtin.«enumerate.__next__» ⟨[.ref e], []⟩) (fun fin s' => ∃ v, fin = .done (.ret v) ∧ Q v s') E s := by
  show wpAny _ _ (field (.ref e) 2 >>= _) _ _ _
  refine wpAny_bind (wpAny_field he rfl (x := .ref it) rfl ?_)
  refine wpAny_bind (thn inner ?_)
  rintro x ⟨hp, gn, dd, tk, os⟩ ⟨e1, wish⟩
  replace e1 : IsEnum hp e it i old := e1
  show wpAny _ _ (field (.ref e) 3 >>= _) _ _ ⟨hp, gn, dd, tk, os⟩
  refine wpAny_bind (wpAny_field e1 rfl (x := rawInt i) rfl ?_)
  show wpAny _ _ (field (.ref e) 4 >>= _) _ _ ⟨hp, gn, dd, tk, os⟩
  refine wpAny_bind (wpAny_field e1 rfl (x := .none) rfl ?_)
  show wpAny _ _ (mkInt i >>= _) _ _ ⟨hp, gn, dd, tk, os⟩
  refine wpAny_bind (wpAny_mkInt ?_)
  show wpAny _ _ (setField (.ref e) 3 (rawInt ((i : Int) + 1)) >>= _) _ _ ⟨hp, gn, dd, tk + 1, os⟩
  refine wpAny_bind (wpAny_setField_rec e1 (by simp) fun g2 e2 k2 => ?_)
  replace k2 : Heap.SameBut e hp g2 := k2
  replace e2 : IsEnum g2 e it ((i : Int) + 1) old := e2
  show wpAny _ _ (setField (.ref e) 4 .none >>= _) _ _ ⟨g2, gn, dd, tk + 1, os⟩
  refine wpAny_bind (wpAny_setField_rec e2 (by simp) fun g3 e3 k3 => ?_)
  replace k3 : Heap.SameBut e g2 g3 := k3
  replace e3 : IsEnum g3 e it ((i : Int) + 1) old := e3
  show wpAny _ _ (newTuple [.int i tk, x] >>= _) _ _ ⟨g3, gn, dd, tk + 1, os⟩
  refine wpAny_bind (wpAny_newTuple ?_)
  have size3 : g3.objs.size = hp.objs.size := by rw [k3.1, k2.1]
  have below : e < hp.objs.size := Heap.lt_size e1
  have e4 : IsEnum (g3.push { cls := .type "tuple", data := .seq #[.int i tk, x] }) e it ((i : Int) + 1) old := Heap.get?_push_of_some _ e3
  have t4 : (g3.push { cls := .type "tuple", data := .seq #[.int i tk, x] }).get? hp.objs.size = some { cls := .type "tuple", data := .seq #[.int i tk, x] } := by
    rw [← size3]
    exact Heap.get?_push_size _ rfl
  have size4 : (g3.push { cls := .type "tuple", data := .seq #[.int i tk, x] }).objs.size = hp.objs.size + 1 := by
    rw [Heap.size_push, size3]
  have kept : ∀ b o, b ≠ e → hp.get? b = some o → (g3.push { cls := .type "tuple", data := .seq #[.int i tk, x] }).get? b = some o := by
    intro b o hb q
    exact Heap.get?_push_of_some _ (k3.extBut b o hb (k2.extBut b o hb q))
  generalize g3.push { cls := .type "tuple", data := .seq #[.int i tk, x] } = g4 at e4 t4 size4 kept
  show wpAny _ _ (Builtin.SmallTypes.ownedTupleIsFree (.ref e) >>= _) _ _ ⟨g4, gn, dd, tk + 1, os⟩
  rw [size3]
  refine wpAny_bind ?_
  unfold Builtin.SmallTypes.ownedTupleIsFree
  refine wpAny_bind (wpAny_field e4 rfl (x := .none) rfl (wpAny_pure ?_))
  simp only [if_true]
  refine wpAny_bind (wpAny_rule ?_)
  refine wpAny_bind (wpAny_field e4 rfl (x := old) rfl ?_)
  refine wpAny_bind (wpAny_setField_rec e4 (by simp) fun g5 e5 k5 => ?_)
  replace k5 : Heap.SameBut e g4 g5 := k5
  replace e5 : IsEnum g5 e it ((i : Int) + 1) x := e5
  show wpAny _ _ (Builtin.SmallTypes.ownedTupleHandOut (.ref e) (.ref hp.objs.size) >>= _) _ _ ⟨g5, gn, dd, tk + 1, os⟩
  refine wpAny_bind ?_
  unfold Builtin.SmallTypes.ownedTupleHandOut
  refine wpAny_bind (wpAny_setField_rec e5 (by simp) fun g6 e6 k6 => ?_)
  replace k6 : Heap.SameBut e g5 g6 := k6
  replace e6 : IsEnumOut g6 e it ((i : Int) + 1) x hp.objs.size := e6
  refine wpAny_setField_rec e6 (by simp) fun g7 e7 k7 => ?_
  replace k7 : Heap.SameBut e g6 g7 := k7
  replace e7 : IsEnumOut g7 e it ((i : Int) + 1) x hp.objs.size := e7
  have far : hp.objs.size ≠ e := Nat.ne_of_gt below
  refine wpAny_bind (wpAny_letGo (wpAny_pure ⟨_, rfl, wish g7 e7 ?_ ?_ ?_⟩))
  · exact k7.extBut _ _ far (k6.extBut _ _ far (k5.extBut _ _ far t4))
  · rw [k7.1, k6.1, k5.1, size4]
  · exact fun b o hb q => k7.extBut b o hb (k6.extBut b o hb (k5.extBut b o hb (kept b o hb q)))
theorem next_enum {e it : Addr} {i : Nat} {old : Value} {Q : Option Value → Shared → Prop} (he : IsEnum s.heap e it i old)
    (inner : wpAny (model prog w) A.in1 (Builtin.SmallTypes.nextOf (.ref it)) (fun x s1 => IsEnum s1.heap e it i old ∧
      ∀ h', IsEnumOut h' e it ((i : Int) + 1) x s1.heap.objs.size →
        h'.get? s1.heap.objs.size = some { cls := .type "tuple", data := .seq #[.int i s1.toks, x] } →
        h'.objs.size = s1.heap.objs.size + 1 → (∀ b o, b ≠ e → s1.heap.get? b = some o → h'.get? b = some o) →
        Q (some (.ref s1.heap.objs.size)) { s1 with heap := h', toks := s1.toks + 1 }) (fun _ _ => False) s) :
    wpAny (model prog w) A (pyNext (.ref e)) Q E s := by
  have ty : s.TypeIs (.ref e) "enumerate" := ⟨_, he, rfl⟩
  unfold pyNext
  refine wpAny_bind (wpAny_attempt (wpAny_callSpecial?_slot (name := Str.ofString "__next__") ty F.slot_enumerate_next ?_))
  refine wpAny_call_entry F.slot_enumerate_next ty F.entry_enumerate_next (enum_item he ?_) (F.args_enumerate_next_1 _)
  refine wpAny_mono inner ?_ fun _ _ z => z.elim
  rintro x s1 ⟨a, b⟩
  exact ⟨a, fun h' q1 q2 q3 q4 => wpAny_pure (b h' q1 q2 q3 q4)⟩
theorem next_enum_end {e it : Addr} {i : Int} {old : Value} {Q : Option Value → Shared → Prop} (he : IsEnum s.heap e it i old)
    (inner : wpAny (model prog w) A.in1 (Builtin.SmallTypes.nextOf (.ref it)) (fun _ _ => False)
      (fun ex s1 => ∃ a o, ex = .ref a ∧ s1.heap.get? a = some o ∧ o.cls = .type "StopIteration" ∧ Q none s1) s) :
    wpAny (model prog w) A (pyNext (.ref e)) Q E s := by
  have ty : s.TypeIs (.ref e) "enumerate" := ⟨_, he, rfl⟩
  unfold pyNext
  refine wpAny_bind (wpAny_attempt (wpAny_callSpecial?_slot (name := Str.ofString "__next__") ty F.slot_enumerate_next ?_))
  refine wpAny_call_entry F.slot_enumerate_next ty F.entry_enumerate_next ?_ (F.args_enumerate_next_1 _)
  show wpAny _ _ (field (.ref e) 2 >>= _) _ _ _
  refine wpAny_bind (wpAny_field he rfl (x := .ref it) rfl ?_)
  refine wpAny_bind (wpAny_mono inner (fun _ _ z => z.elim) ?_)
  rintro ex s1 ⟨a, o, rfl, ho, hc, q⟩
  refine wpAny_bind (wpAny_isInstance (T := "StopIteration") (b := true) ⟨o, ho, hc⟩ isSubtype_stop ?_)
  exact wpAny_pure q
end
section
variable {prog : Program} {w : World} {A : Around} {E : Value → Shared → Prop} {s : Shared}
end

end Cf

set_option Elab.async false
set_option linter.all false
set_option maxRecDepth 100000
namespace Cf
open PySem PySem.Spec PyProof.Rows L2
/-! ### enumerate(t), t a tuple -/
open AutoSeq1 in
theorem new_enum_tup (t : Addr) (items : Array Value) (o : Obj) :
    Meets (Builtin.«enumerate.__new__» ⟨[.type "enumerate", .ref t], []⟩) (fun _ R s => s.heap.get? t = some o ∧ s.heap.IsTuple t items ∧
      R (.ok (.ret (.ref (s.heap.push { cls := .type "tuple_iterator", data := .fields #[.ref t, .int 0 0] }).objs.size)))
        { s with heap := (s.heap.push { cls := .type "tuple_iterator", data := .fields #[.ref t, .int 0 0] }).push { cls := .type "enumerate", data := .fields #[.none, .bool false, .ref s.heap.objs.size, rawInt 0, .none, .none] } }) :=
  .of_wp fun prog w A R s h => by
    obtain ⟨hp, gn, dd, tk, os⟩ := s
    obtain ⟨ho, ht, h⟩ := h
    have sub := sub_enumerate
    have hT : Heap.IsTuple (Shared.heap ⟨hp, gn, dd, tk, os⟩) t items := ht
    wp_walk using wpAny_loadPart' ho
    refine wpAny_stack_any fun st => wpAny_pure ?_
    split
    · rename_i c _ _ _ _ _
      cases (c == Value.type "enumerate") <;>
        (wp_walk using wpAny_loadPart' ho, wpAny_pyIter_tuple hT
         exact ⟨_, rfl, h⟩)
    · wp_walk using wpAny_loadPart' ho, wpAny_pyIter_tuple hT
      exact ⟨_, rfl, h⟩

section
variable {prog : Program} {w : World} {A : Around} {E : Value → Shared → Prop} {s : Shared}
theorem call_enum_tup {t : Addr} {items : Array Value} {Q : Value → Shared → Prop} (ht : s.heap.IsTuple t items)
    (h : ∀ h', IsEnum h' (s.heap.objs.size + 1) s.heap.objs.size 0 .none → h'.IsTupleIter s.heap.objs.size t 0 →
      (∀ b o, s.heap.get? b = some o → h'.get? b = some o) → Q (.ref (s.heap.objs.size + 1)) { s with heap := h' }) :
    wpAny (model prog w) A (call (.type "enumerate") [.ref t]) Q E s := by
  obtain ⟨o, ho, _⟩ := id ht
  refine callType_new F.called_enumerate (by decide) (F.typeCall_enumerate_1 _) (F.newCall_enumerate_1 _)
    (fun obj => F.args_object_init_2 obj _) F.entry_enumerate_new (new_enum_tup t items o) ⟨ho, ht, ?_⟩
  have hz : (s.heap.push { cls := .type "tuple_iterator", data := .fields #[.ref t, .int 0 0] }).objs.size = s.heap.objs.size + 1 := Heap.size_push ..
  show _ ∧ _
  rw [hz]
  have he : IsEnum ((s.heap.push { cls := .type "tuple_iterator", data := .fields #[.ref t, .int 0 0] }).push { cls := .type "enumerate", data := .fields #[.none, .bool false, .ref s.heap.objs.size, rawInt 0, .none, .none] }) (s.heap.objs.size + 1) s.heap.objs.size 0 .none := by
    rw [← hz]
    exact Heap.get?_push_size _ rfl
  refine ⟨⟨_, he, rfl⟩, h _ he ?_ fun b o q => Heap.get?_push_of_some _ (Heap.get?_push_of_some _ q)⟩
  exact ⟨_, Heap.get?_push_of_some _ (Heap.get?_push_size _ rfl), rfl, rfl⟩
end
def Itet (K : PySem.W.Frag) (a : Addr) : It where
  go := fun i H => ∃ xs x, SqT K H a xs ∧ xs[i]? = some x
  yld := fun i H v H' => ∃ T x, v = .ref T ∧ H T = none ∧ Kp [] H H' ∧ H' T = some (.tup [.int (i : Nat), x]) ∧ ∀ xs, SqT K H a xs → xs[i]? = some x
  stop := fun i H => ∃ xs, SqT K H a xs ∧ xs.length ≤ i
theorem turn_et {P : Program} {w : World} {K : PySem.W.Frag} {elts : List Expr} {kk : Nat} {tpos : Pos} (a e it : Addr) (ne : e ≠ it) (na : a ≠ e) :
    Turn P w K (.Tuple elts kk tpos) (Itet K a) [e, it] e (fun i h => (∃ old, IsEnum h e it ((i : Nat) : Int) old) ∧ h.IsTupleIter it a i) where
  mem := List.mem_cons_self
  obj := by
    rintro i h ⟨⟨old, he⟩, ⟨o, ho, _, hd⟩⟩ c hc
    simp only [List.mem_cons, List.not_mem_nil, or_false] at hc
    rcases hc with rfl | rfl
    · exact ⟨_, he, fun v q => nomatch q⟩
    · exact ⟨o, ho, fun v q => by rw [hd] at q; cases q⟩
  keep := by
    rintro i h h' ⟨⟨old, he⟩, hi⟩ k
    exact ⟨⟨old, k e (by simp) _ he⟩, hi.at fun o q => k it (by simp) o q⟩
  item := by
    intro X hP hw hK hc i pins s σ H E I hf st hg
    subst hP hw hK
    obtain ⟨⟨old, he⟩, hit⟩ := st
    obtain ⟨xs, x, hq, hx⟩ := hg
    obtain ⟨its, rv, p, _⟩ := I.tuple hq
    obtain ⟨u, hu, ru⟩ := rv.get hx
    have lt : ∀ c ∈ [e, it], c < s.heap.objs.size := by
      intro c hc
      simp only [List.mem_cons, List.not_mem_nil, or_false] at hc
      rcases hc with rfl | rfl
      · exact Heap.lt_size he
      · obtain ⟨_, q, _⟩ := hit
        exact Heap.lt_size q
    refine next_enum he (PySem.wpAny_nextOf_tuple_item hit (show s.heap.IsTuple a its.toArray from p) (x := u) (by simpa using hu) ?_)
    intro g1 hit1 same1
    refine ⟨(same1.2 e ne).trans he, ?_⟩
    intro g2 E2 T2 size2 kept2
    refine ⟨_, rfl, wpAny_letOwnedTupleGo_enum (s := { s with heap := g2, toks := s.toks + 1 }) E2 ?_⟩
    intro g3 E3 same3
    replace same3 : Heap.SameBut e g2 g3 := same3
    have size1 : g1.objs.size = s.heap.objs.size := same1.1
    have ltE : e < g1.objs.size := by
      rw [size1]
      exact lt e (List.mem_cons_self)
    have T3 : g3.get? s.heap.objs.size = some { cls := .type "tuple", data := .seq #[.int i s.toks, u] } := by
      rw [← size1]
      exact (same3.2 _ (Nat.ne_of_gt ltE)).trans T2
    have hn : H s.heap.objs.size = none := I.hok.fresh (Nat.le_refl _)
    have I2 : L2.Inv X pins σ (upd H s.heap.objs.size (.tup [.int (i : Nat), x])) { s with heap := g3, toks := s.toks + 1 } := by
      refine I.turnedNew (ch := [e, it]) ?_ hf (Nat.le_refl _) ?_
      · intro c o hc q
        have hce : c ≠ e := fun z => hc (by simp [z])
        have hci : c ≠ it := fun z => hc (by simp [z])
        exact (same3.2 c hce).trans (kept2 c o hce ((same1.2 c hci).trans q))
      · exact ⟨by show 2 ≤ sizeLine; decide, [.int i s.toks, u], .cons ⟨_, rfl⟩ (.cons ru .nil), ⟨_, T3, rfl, _, rfl⟩⟩
    have eT : Value.ref g1.objs.size = Value.ref s.heap.objs.size := by rw [size1]
    refine ⟨.ref s.heap.objs.size, _, I2, eT, ⟨_, x, rfl, hn, Kp.new hn, upd_same, ?_⟩, ⟨⟨u, ?_⟩, ?_⟩, ?_⟩
    · intro l hl
      rw [I.tuple_inj hl hq]
      exact hx
    · rw [show ((i + 1 : Nat) : Int) = (i : Int) + 1 by omega]
      exact E3
    · exact hit1.at fun o q => (same3.2 it ne.symm).trans (kept2 it o ne.symm q)
    · intro c hc
      rw [upd_ne (Nat.ne_of_lt (lt c hc))]
      exact (hf c hc).1
  done := by
    intro X hP hw hK hc i pins s σ H E I hf st hg
    subst hP hw hK
    obtain ⟨⟨old, he⟩, hit⟩ := st
    obtain ⟨xs, hq, hl⟩ := hg
    obtain ⟨its, rv, p, _⟩ := I.tuple hq
    have n1 := rv.length
    refine next_enum_end he (PySem.wpAny_nextOf_tuple_end (I.ok.hd hc) hit (show s.heap.IsTuple a its.toArray from p) (by simp; omega) ?_)
    rintro g1 ex kept ⟨o, ho, hcl⟩
    refine ⟨ex, o, rfl, ho, hcl, rfl, ?_⟩
    refine I.turnedL (t' := s.toks) (ch := [e, it]) ?_ hf
    intro c ob hb q
    exact kept c ob (fun z => hb (by simp [z])) q
  self := by
    rintro A i s Q E ⟨⟨old, he⟩, _⟩ h
    exact wpAny_pyIter_enum he h
def iEt (K : PySem.W.Frag) (ta : TA) : TI := fun σ H R => ta σ H fun vs H1 => ∃ a xs, vs = [.ref a] ∧ SqT K H1 a xs ∧ R (Itet K a) H1
theorem pi_et {X : Cx} {e : Expr} {ta : TA} {p pos tpos : Pos} {elts : List Expr} {kk : Nat} (hg : Gl X "enumerate") (hm : X.mg "enumerate" = none)
    (ha : PA X [e] ta) (hs : starEach [e] X.env = [(false, eval e X.env)] := by rfl) :
    PI X (.Tuple elts kk tpos) (.Call (.Name "enumerate" p) [e] [] pos) (iEt X.K ta) := by
  refine ⟨fun pins s σ H R I h => ?_⟩
  refine Call_ (ld_blt I hg hm PyProof.Rows.boot_enumerate (PyProof.Rows.callWith_type1 (thn (ha.run pos pins s σ H _ I h) ?_) hs rfl))
  rintro us s1 ⟨vs, H1, I1, r1, a, xs, ex, hq, q⟩
  subst ex
  cases r1 with
  | cons r rr =>
    cases rr
    cases r
    obtain ⟨its, rv, p1, _⟩ := I1.tuple hq
    refine call_enum_tup (show s1.heap.IsTuple a its.toArray from p1) ?_
    intro g1 he hit kept
    refine wpAny_pyIter_enum he ?_
    have I2 : L2.Inv X pins σ H1 { s1 with heap := g1 } := I1.kept (t' := s1.toks) kept
    have la : a < s1.heap.objs.size := by
      obtain ⟨o, ho, _⟩ := p1
      exact Heap.lt_size ho
    refine ⟨s1.heap.objs.size + 1, [s1.heap.objs.size + 1, s1.heap.objs.size], _, Itet X.K a, H1, rfl, I2,
      turn_et a (s1.heap.objs.size + 1) s1.heap.objs.size (Nat.succ_ne_self _) (Nat.ne_of_lt (Nat.lt_succ_of_lt la)), ⟨⟨.none, he⟩, hit⟩, ?_, q⟩
    intro c hc
    have hle : s1.heap.objs.size ≤ c := by
      simp only [List.mem_cons, List.not_mem_nil, or_false] at hc
      rcases hc with rfl | rfl
      · exact Nat.le_add_right _ _
      · exact Nat.le_refl _
    exact I1.fpOk hle (I1.hok.fresh hle)
theorem walk_et {K : PySem.W.Frag} {a : Addr} {ns : List Int} : Walk (Itet K a) ns.length (fun H => SqT K H a (ns.map V.int)) (YE ns) := by
  refine ⟨fun i H hi q => ⟨_, _, q, getD_map hi⟩, fun H q => ⟨_, q, by rw [List.length_map]; exact Nat.le_refl _⟩, ?_⟩
  rintro i H x H' hi q ⟨T, x1, e, n, kp, hT, e1⟩
  have z1 := getD_at hi (e1 _ q)
  subst z1
  exact ⟨T, e, n, kp, hT⟩
end Cf

set_option Elab.async false
set_option linter.all false
set_option maxRecDepth 100000
namespace Cf
open PySem PySem.Spec PyProof.Rows L2
/-! ### sorted, sum, min, max of a tuple of ints -/
section
variable {prog : Program} {w : World} {A : Around} {E : Value → Shared → Prop} {s : Shared} {l : Addr}
theorem collect_tup {vs : List Value} {Q : List Value → Shared → Prop} (hl : s.heap.IsTuple l vs.toArray) (hsz : vs.length ≤ sizeLine)
    (h : Q vs { s with heap := (s.heap.push (seqObj "list" #[] 0)).update s.heap.objs.size (Obj.mapSeq (· ++ vs.toArray)) }) :
    wpAny (model prog w) A (collect (.ref l)) Q E s := by
  obtain ⟨o, ho, hc, n, hd⟩ := id hl
  unfold collect
  refine wpAny_bind (wpAny_runValue (codeAny_builtin entry_proto_collect' ?_))
  show wpAny _ _ (do again (.builtin "list.__iadd__" ⟨[← newList [], .ref l], []⟩)) _ _ s
  refine wpAny_bind (wpAny_newList (wpAny_pure ⟨Code.quiet_builtin _ (by decide +kernel), codeAny_builtin entry_list_iadd' ?_⟩))
  show wpAny _ _ (Builtin.List.listExtendWith (.ref s.heap.objs.size) (.ref l) (.ref s.heap.objs.size)) _ _ { s with heap := s.heap.push (seqObj "list" #[] 0) }
  unfold Builtin.List.listExtendWith
  have hp : (s.heap.push (seqObj "list" #[] 0)).get? l = some o := Heap.get?_push_of_some _ ho
  refine wpAny_bind (wpAny_typeOf (T := "tuple") ⟨o, hp, hc⟩ ?_)
  rw [if_pos (by simp)]
  refine wpAny_bind (listItems_at hp hd ?_)
  refine wpAny_bind (listItems_at (xs := #[]) (n := 0) (Heap.get?_push_size _ rfl) rfl ?_)
  rw [if_neg (by simp)]
  refine wpAny_bind (listUpdate_at (xs := #[]) (n := 0) (Heap.get?_push_size _ rfl) rfl ?_ (Nat.zero_le _) ?_)
  · refine wpAny_pure ?_
    show wpAny (model prog w) A (do
      let o ← load s.heap.objs.size
      match o.data with
      | .seq xs _ => pure xs.toList
      | _ => unsupported "internal:collect") Q E _
    refine wpAny_bind (wpAny_load (get?_update_seq (Heap.get?_push_size _ rfl) _) ?_)
    show wpAny _ _ (pure ((#[] : Array Value) ++ vs.toArray).toList) Q E _
    rw [show ((#[] : Array Value) ++ vs.toArray).toList = vs by simp]
    exact wpAny_pure h
  · show (#[] ++ vs.toArray).size ≤ sizeLine + 1
    simp only [Array.size_append, List.size_toArray, List.length_nil]
    omega
theorem sorted_tup {vs : List Value} {ltv : Value → Value → Bool} {Q : Value → Shared → Prop} (O : SrtO.Swo ltv) (hl : s.heap.IsTuple l vs.toArray) (hz : vs.length ≤ sizeLine)
    (hS : 2 ≤ vs.length → ∀ (h1 : Heap) (a : Addr), h1.get? a = some (seqObj "list" vs.toArray 0) → SrtO.SortableO prog w A.in1.in1 { s with heap := h1 } a vs ltv)
    (h : ∀ out : List Value, SrtO.Srtd ltv out → SrtO.Stb ltv out vs → Q (.ref (s.heap.objs.size + 1)) { s with heap := sortedAll s.heap vs out.toArray }) :
    wpAny (model prog w) A (call (.builtin "sorted") [.ref l]) Q E s := by
  refine Calls.call_function_entry kind_sorted plain_sorted entry_sorted (args_sorted1 _) ?_
  unfold Builtin.«sorted»
  refine wpAny_bind (m := checkCount "sorted" 1 1 _) (wpAny_pure ?_)
  refine wpAny_bind (collect_tup hl hz ?_)
  refine wpAny_bind (wpAny_newList ?_ hz)
  have size1 : ((s.heap.push (seqObj "list" #[] 0)).update s.heap.objs.size (Obj.mapSeq (· ++ vs.toArray))).objs.size = s.heap.objs.size + 1 := by
    rw [Heap.size_update, Heap.size_push]
  have new : (((s.heap.push (seqObj "list" #[] 0)).update s.heap.objs.size (Obj.mapSeq (· ++ vs.toArray))).push (seqObj "list" vs.toArray 0)).get? (s.heap.objs.size + 1) = some (seqObj "list" vs.toArray 0) := by
    rw [← size1]
    exact Heap.get?_push_size _ rfl
  show wpAny _ _ _ _ _ { s with heap := ((s.heap.push (seqObj "list" #[] 0)).update s.heap.objs.size (Obj.mapSeq (· ++ vs.toArray))).push (seqObj "list" vs.toArray 0) }
  rw [size1]
  refine wpAny_bind (wpAny_holding (wpAny_call_entry slot_list_sort ⟨_, new, rfl⟩ entry_list_sort ?_ (args_list_sort _)))
  refine SrtO.list_sort_ord O new hz (fun h2 => hS h2 _ _ new) fun out hs hb => ⟨_, rfl, ?_⟩
  exact wpAny_pure ⟨_, rfl, h out hs hb⟩
end
section
variable {X : Cx}
theorem cr_srtT : CallR X (.builtin "sorted") (fun vs H Q => ∃ p, ∃ ns : List Int, vs = [.ref p] ∧ SqT X.K H p (ns.map V.int) ∧ ∀ ms : List Int, ms.Perm ns → ms.Pairwise (· ≤ ·) → New H (.lst (ms.map V.int)) Q) := by
  intro pins s σ H vs us Q I r h
  obtain ⟨a, ns, rfl, hs, q⟩ := h
  obtain ⟨its, rv, hl, hz⟩ := I.tuple hs
  rw [Vals.ref1 r]
  have hi := rv.ints
  refine sorted_tup SrtO.swo_int hl (by rw [← rv.length]; exact hz) (fun h2 h₁ a' _ => SrtO.ints_sortable hi h2) fun out h1 h2 => ?_
  obtain ⟨k1, k2, k3⟩ := SrtO.ints_out hi h1 h2
  obtain ⟨ep, he⟩ := PyProof.Rows.sortedAll_at s.heap its out.toArray
  have hlen : ((out.map SrtO.iv).map V.int).length ≤ sizeLine := by
    rw [List.length_map, k2.length_eq]
    rw [List.length_map] at hz
    exact hz
  have fresh : H (s.heap.objs.size + 1) = none := I.hok.fresh (Nat.le_succ _)
  refine ⟨.ref _, upd H (s.heap.objs.size + 1) (.lst ((out.map SrtO.iv).map V.int)), ?_, rfl, (q _ k2 k3).go _ fresh⟩
  exact I.laid (t' := s.toks) (fun _ _ => PyProof.Rows.sortedAll_old) (Nat.le_succ _) ⟨hlen, out, ep, vals_of_ints k1, he⟩
/-- sorted(x) of a list or a tuple of ints -/
theorem cr_srt : CallR X (.builtin "sorted") (fun vs H Q => ∃ p, ∃ ns : List Int, vs = [.ref p] ∧ (SqL X.K H p (ns.map V.int) ∨ SqT X.K H p (ns.map V.int)) ∧ ∀ ms : List Int, ms.Perm ns → ms.Pairwise (· ≤ ·) → New H (.lst (ms.map V.int)) Q) := by
  intro pins s σ H vs us Q I r h
  obtain ⟨a, ns, e, hs, q⟩ := h
  rcases hs with hs | hs
  · exact cr_srtL pins s σ H vs us Q I r ⟨a, ns, e, hs, q⟩
  · exact cr_srtT pins s σ H vs us Q I r ⟨a, ns, e, hs, q⟩
end

section
variable {prog : Program} {w : World} {A : Around} {E : Value → Shared → Prop} {s : Shared} {l : Addr} {xs : Array (Int × Tok)}
end
section
variable {X : Cx}
end
section
variable {X : Cx}
end
/-! ### the same, the written part by its name -/
section
variable {X : Cx}
theorem ix_liK {K : PySem.W.Frag} (e : X.K = K)  : IxR X (rIxI (SqL K)) := by
  subst e
  exact ix_li 
theorem ix_tiK {K : PySem.W.Frag} (e : X.K = K)  : IxR X (rIxI (SqT K)) := by
  subst e
  exact ix_ti 
theorem ix_lvK {K : PySem.W.Frag} (e : X.K = K)  : IxR X (rIxV (SqL K)) := by
  subst e
  exact ix_lv 
theorem call_len_seqK {K : PySem.W.Frag} (e : X.K = K)  : CallR X (.builtin "len") (fun xs H Q => ∃ p ys, xs = [.ref p] ∧ (SqL K H p ys ∨ SqT K H p ys) ∧ Q (.int ys.length) H) := by
  subst e
  exact call_len_seq 
theorem sl_liToK {K : PySem.W.Frag} (e : X.K = K)  : SlR X (fun x lo hi H Q => ∃ p, ∃ ns : List Int, ∃ k : Int, x = .ref p ∧ lo = none ∧ hi = some k ∧ SqL K H p (ns.map V.int) ∧ 0 ≤ k ∧ New H (.lst ((ns.take k.toNat).map V.int)) Q) := by
  subst e
  exact sl_liTo 
theorem call_tupLK {K : PySem.W.Frag} (e : X.K = K)  : CallR X (.type "tuple") (fun vs H Q => ∃ p xs, vs = [.ref p] ∧ SqL K H p xs ∧ New H (.tup xs) Q) := by
  subst e
  exact call_tupL 
theorem cr_srtLK {K : PySem.W.Frag} (e : X.K = K)  : CallR X (.builtin "sorted") (fun vs H Q => ∃ p, ∃ ns : List Int, vs = [.ref p] ∧ SqL K H p (ns.map V.int) ∧ ∀ ms : List Int, ms.Perm ns → ms.Pairwise (· ≤ ·) → New H (.lst (ms.map V.int)) Q) := by
  subst e
  exact cr_srtL 
theorem cr_srtK {K : PySem.W.Frag} (e : X.K = K)  : CallR X (.builtin "sorted") (fun vs H Q => ∃ p, ∃ ns : List Int, vs = [.ref p] ∧ (SqL K H p (ns.map V.int) ∨ SqT K H p (ns.map V.int)) ∧ ∀ ms : List Int, ms.Perm ns → ms.Pairwise (· ≤ ·) → New H (.lst (ms.map V.int)) Q) := by
  subst e
  exact cr_srt 
theorem cr_sumK {K : PySem.W.Frag} (e : X.K = K) (hc : X.calm = true) : CallR X (.builtin "sum") (rSum K) := by
  subst e
  exact cr_sum hc
theorem cr_maxK {K : PySem.W.Frag} (e : X.K = K) (hc : X.calm = true) : CallR X (.builtin "max") (rMax K) := by
  subst e
  exact cr_max hc
theorem cr_allK {K : PySem.W.Frag} (e : X.K = K) (hc : X.calm = true) : CallR X (.builtin "all") (rAll K) := by
  subst e
  exact cr_all hc
end
section
variable {X : Cx}
theorem first_at : ∀ (ns : List Int) (y : Int), y ∈ ns → ∃ j, j < ns.length ∧ ns.getD j 0 = y ∧ ∀ i, i < j → ns.getD i 0 ≠ y
  | n :: r, y, h => by
    by_cases e : n = y
    · exact ⟨0, by simp, by simpa using e, fun i hi => absurd hi (Nat.not_lt_zero _)⟩
    · have h2 : y ∈ r := by
        rcases List.mem_cons.mp h with z | z
        · exact absurd z.symm e
        · exact z
      obtain ⟨j, h1, h3, h4⟩ := first_at r y h2
      refine ⟨j + 1, by simpa using h1, by simpa using h3, fun i hi => ?_⟩
      cases i with
      | zero => simpa using e
      | succ i => simpa using h4 i (by omega)
end
section
variable {X : Cx}
theorem cut_drop (xs : List V) (k : Nat) : cutV xs (some (k : Int)) none = xs.drop k := by
  unfold cutV
  rw [HT.sIx_none, HT.sIx_nat]
  rcases Nat.le_total k xs.length with h | h
  · rw [Nat.min_eq_left h, List.take_of_length_le (by rw [List.length_drop]; exact Nat.le_refl _)]
  · rw [Nat.min_eq_right h, List.drop_eq_nil_of_le (Nat.le_refl _), List.drop_eq_nil_of_le h, List.take_nil]
end
end Cf

set_option Elab.async false
set_option linter.all false
set_option maxRecDepth 100000
namespace Cf
open PySem PySem.Spec PyProof.Rows L2
section
variable {X : Cx}
end
end Cf

set_option Elab.async false
set_option linter.all false
set_option maxRecDepth 100000
namespace Cf
open PySem PySem.Spec PyProof.Rows L2
section
variable {X : Cx}
/-- a statement that is never reached -/
theorem ps_never {st : Stmt} : PS X st (fun _ _ _ => False) := ⟨fun _ _ _ _ _ _ h => h.elim⟩
/-- isinstance(x, T), T a built-in type -/
theorem call_isiB {K : PySem.W.Frag} (e : X.K = K) : CallR X (.builtin "isinstance") (fun xs H Q => ∃ (x : V) (a T : String) (b : Bool), xs = [x, .ty T] ∧ TyX K H x (.type a) ∧ kitB a T = some b ∧ Q (.bl b) H) := by
  subst e
  exact call_imp call_isi fun xs H Q ⟨x, a, T, b, ex, ty, h, q⟩ => ⟨x, _, _, _, b, ex, .ty T, ty, kit_ty h, q⟩
/-- the numbers from 0 on -/
def upto (n : Nat) : List Int := (List.range n).map fun i : Nat => (i : Int)
theorem upto_len (n : Nat) : (upto n).length = n := by simp [upto]
theorem rgV_upto (n : Nat) : rgV 0 (n : Int) = (upto n).map V.int := by
  unfold rgV upto
  rw [show ((n : Int) - 0).toNat = n by omega, List.map_map]
  refine List.map_congr_left fun i _ => ?_
  show V.int (0 + (i : Int)) = V.int (i : Int)
  rw [Int.zero_add]
/-- list(range(n)) -/
def tLstUp (ta : TE) : TE := fun σ H Q => ta σ H fun x H1 => ∃ n : Nat, x = .int (n : Int) ∧ n ≤ 1000 ∧ New H1 (.lst ((upto n).map V.int)) Q
theorem pe_listUp {a : Expr} {ta : TE} {p p2 pos pos2 : Pos} (hc : X.calm = true) (hg : Gl X "list") (hm : X.mg "list" = none) (hg2 : Gl X "range") (hm2 : X.mg "range" = none) (ha : PE X a ta)
    (na : starEach [Expr.Call (.Name "range" p2) [a] [] pos2] X.env = (false, eval (Expr.Call (.Name "range" p2) [a] [] pos2) X.env) :: starEach [] X.env := by rfl)
    (nb : starEach [a] X.env = (false, eval a X.env) :: starEach [] X.env := by rfl) :
    PE X (.Call (.Name "list" p) [.Call (.Name "range" p2) [a] [] pos2] [] pos) (tLstUp ta) :=
  pe_imp (pe_listRg hc hg hm (prg_1 hg2 hm2 (pe_up ha) nb) na) fun σ H Q h => ⟨_, h, fun v H1 ⟨n, ev, hn, w⟩ => ⟨(n : Int), ev, RgOk.of_le (by omega) (by omega) (by omega) (by omega), fun q nq => by
    rw [rgV_upto]
    exact w.go q nq⟩⟩
end

/-- a tuple that was laid by the program: it has no names of its own -/
def PlT (H : Hp) (p : Addr) : Prop := ∃ o u, H p = some (.frz o u) ∧ o.dict = none
theorem PlT.kp0 {H H' : Hp} {p : Addr} (k : Kp [] H H') (h : PlT H p) : PlT H' p := by
  obtain ⟨o, u, e, d⟩ := h
  exact ⟨o, u, k.at0 e, d⟩
theorem PlT.kp1 {H H' : Hp} {p b : Addr} (k : Kp [b] H H') (n : p ≠ b) (h : PlT H p) : PlT H' p := by
  obtain ⟨o, u, e, d⟩ := h
  exact ⟨o, u, k.at1 n e, d⟩
theorem PlT.lst1 {H H' : Hp} {p b : Addr} {xs : List V} (k : Kp [b] H H') (hb : H b = some (.lst xs)) (h : PlT H p) : PlT H' p := by
  refine h.kp1 k fun z => ?_
  obtain ⟨o, u, e, d⟩ := h
  rw [z, hb] at e
  cases e
theorem PlT.md {H H' : Hp} {p b : Addr} {xs : List V} (k : Md b H H') (hb : H b = some (.lst xs)) (h : PlT H p) : PlT H' p := h.lst1 k.kp hb
/-- laid where nothing was: a tuple, its object known -/
def NewF (H : Hp) (xs : List V) (Q : V → Hp → Prop) : Prop := ∀ p H1 o, H p = none → Kp [] H H1 → o.dict = none → H1 p = some (.frz o (.tup xs)) → Q (.ref p) H1
theorem sqF {K : PySem.W.Frag} {H : Hp} {p : Addr} {o : Obj} {xs : List V} (h : H p = some (.frz o (.tup xs))) : SqT K H p xs := .inl (.inr ⟨o, h⟩)
section
variable {X : Cx}
theorem call_tupF {K : PySem.W.Frag} (e : X.K = K) : CallR X (.type "tuple") (fun vs H Q => ∃ p xs, vs = [.ref p] ∧ SqL K H p xs ∧ NewF H xs Q) := by
  subst e
  intro pins s σ H vs us Q I r h
  obtain ⟨p, xs, rfl, hq, w⟩ := h
  obtain ⟨u, rfl, rx⟩ := vals1 r
  cases rx
  obtain ⟨its, rv, pl, hz⟩ := I.list hq
  have hlen := rv.length
  refine call_tuple_list pl.isList (fun h1 kp => ?_) (by simp only [List.size_toArray] <;> omega)
  have J : Inv X pins σ H { s with heap := h1 } := I.kept (t' := s.toks) kp
  have fresh : H h1.objs.size = none := J.hok.fresh (Nat.le_refl _)
  have J2 : Inv X pins σ (upd H h1.objs.size (.frz { cls := .type "tuple", data := .seq its.toArray } (.tup xs))) { s with heap := h1.push { cls := .type "tuple", data := .seq its.toArray } } :=
    J.laid (t' := s.toks) (fun b o q => Heap.get?_push_of_some _ q) (Nat.le_refl _)
      (show ObjOk X.prog X.w _ _ _ (.frz _ (.tup xs)) from ⟨Heap.get?_push_size _ rfl, hz, its, rv, IsTup.new _ _⟩)
  exact ⟨.ref h1.objs.size, _, J2, rfl, w _ _ _ fresh (Kp.new fresh) rfl upd_same⟩
end
end Cf

set_option Elab.async false
set_option linter.all false
set_option maxRecDepth 100000
namespace Cf
open PySem PySem.Spec PyProof.Rows L2
/-! ### zip of lists and tuples, mixed -/
section
variable {X : Cx} {pins : List (Addr × Obj)} {σ : L2.St} {H : Hp} {s : Shared} {b : Bool} {a it : Addr} {xs ys : List V}
end
end Cf

set_option Elab.async false
set_option linter.all false
set_option maxRecDepth 100000
namespace Cf
open PySem PySem.Spec PyProof.Rows L2
/-! ### tuples of ints, one after the other -/
def tupD (ns : List Int) : PyData := .tuple (ns.map PyData.int)
inductive Rw (K : PySem.W.Frag) (H : Hp) : List V → List (List Int) → Prop
  | nil : Rw K H [] []
  | cons {p : Addr} {ns : List Int} {xs : List V} {rs : List (List Int)} : SqT K H p (ns.map V.int) → Rw K H xs rs → Rw K H (.ref p :: xs) (ns :: rs)
section
variable {K : PySem.W.Frag} {H H' : Hp} {xs ys : List V} {rs ts : List (List Int)}
theorem Rw.go (e : ∀ p zs, SqT K H p zs → SqT K H' p zs) : ∀ {xs : List V} {rs : List (List Int)}, Rw K H xs rs → Rw K H' xs rs
  | _, _, .nil => .nil
  | _, _, .cons h t => .cons (e _ _ h) (t.go e)
theorem Rw.kp0 (h : Rw K H xs rs) (k : Kp [] H H') : Rw K H' xs rs := h.go fun _ _ z => k.tup0 z
theorem Rw.len : ∀ {xs : List V} {rs : List (List Int)}, Rw K H xs rs → xs.length = rs.length
  | _, _, .nil => rfl
  | _, _, .cons _ t => by rw [List.length_cons, List.length_cons, t.len]
theorem Rw.one {p : Addr} {ns : List Int} (h : SqT K H p (ns.map V.int)) : Rw K H [.ref p] [ns] := .cons h .nil
theorem Rw.get : ∀ {xs : List V} {rs : List (List Int)} {i : Nat} {x : V}, Rw K H xs rs → xs[i]? = some x → ∃ p, x = .ref p ∧ i < rs.length ∧ SqT K H p ((rs.getD i []).map V.int)
  | _, _, i, x, .nil, h => by simp at h
  | _, _, 0, x, .cons h t, e => ⟨_, (Option.some.inj e).symm, by simp, h⟩
  | _, _, i + 1, x, .cons h t, e => by
    obtain ⟨p, a, b, c⟩ := t.get (i := i) (x := x) (by simpa using e)
    exact ⟨p, a, by simpa using b, c⟩
theorem Rw.mem (h : Rw K H xs rs) {x : V} (hx : x ∈ xs) : ∃ p ns, x = .ref p ∧ ns ∈ rs ∧ SqT K H p (ns.map V.int) := by
  obtain ⟨i, hi, e⟩ := List.mem_iff_getElem.mp hx
  obtain ⟨p, a, b, c⟩ := h.get (i := i) (x := x) (by rw [List.getElem?_eq_getElem hi, e])
  refine ⟨p, _, a, ?_, c⟩
  rw [List.getD_eq_getElem?_getD, List.getElem?_eq_getElem b]
  exact List.getElem_mem b
theorem Rw.dp : ∀ {xs : List V} {rs : List (List Int)}, Rw K H xs rs → DpAll K H xs (rs.map tupD)
  | _, _, .nil => .nil
  | _, _, .cons h t => .cons (dp_ti h) t.dp
end
section
variable {X : Cx}
end
section
variable {X : Cx}
end
theorem ty_tup {K : PySem.W.Frag} {H : Hp} {p : Addr} {xs : List V} (h : SqT K H p xs) : TyX K H (.ref p) (.type "tuple") := by
  rcases h with (h | ⟨o, h⟩) | ⟨o, its, n, hk, hc, _⟩
  · exact .base (.tup h)
  · exact .fTuple h
  · exact .kTuple hk hc
end Cf

set_option Elab.async false
set_option linter.all false
set_option maxRecDepth 100000
namespace Cf
open PySem PySem.Spec PyProof.Rows L2
open LamX (CodeO TabS Tabs ExtN TabB lamEnv lamCx lam_make2)
open PySem.W (keyToks keyToksAll EachIs SortsAt dataKind AllAlike Sortable alike alikeAll)
/-! ### a lambda of one parameter -/
structure Lam1 (sc scope : Scope) (x : Str) : Prop where
  kind : scope.kind = .function
  co : scope.isCoroutine = false
  gen : scope.isGenerator = false
  par : scope.names.lookup x = some .local
  own : ∀ y ∈ scope.names, y.2 ≠ .cell ∧ (y.2 = .local → y.1 = x)
  free : ∀ y ∈ scope.names, y.2 = .free → sc.names.lookup y.1 = some .cell ∨ sc.names.lookup y.1 = some .free
def lam1B (sc scope : Scope) (x : Str) : Bool :=
  decide (scope.kind = .function) && !scope.isCoroutine && !scope.isGenerator && decide (scope.names.lookup x = some .local) &&
    scope.names.all fun y => !decide (y.2 = .cell) && (!decide (y.2 = .local) || decide (y.1 = x)) && (!decide (y.2 = .free) || (decide (sc.names.lookup y.1 = some .cell) || decide (sc.names.lookup y.1 = some .free)))
theorem lam1_by {sc scope : Scope} {x : Str} (h : lam1B sc scope x = true) : Lam1 sc scope x := by
  unfold lam1B at h
  simp only [Bool.and_eq_true, Bool.or_eq_true, Bool.not_eq_true', decide_eq_true_eq, decide_eq_false_iff_not, List.all_eq_true] at h
  obtain ⟨⟨⟨⟨h1, h2⟩, h3⟩, h4⟩, h5⟩ := h
  refine ⟨h1, h2, h3, h4, fun y hy => ⟨(h5 y hy).1.1, fun e => ?_⟩, fun y hy e => ?_⟩
  · rcases (h5 y hy).1.2 with z | z
    · exact absurd e z
    · exact z
  · rcases (h5 y hy).2 with z | z
    · exact absurd e z
    · exact z
/-- where the lambda's body is evaluated -/
def lamC (X : Cx) (A : Around) (outer : List Env) (s : Shared) (H : Hp) (scope : Scope) (f c' : Addr) : Cx :=
  { lamCx X A outer s H (fun _ _ _ => False) scope f c' with xe := fun _ _ => False }
section
variable {X : Cx} {pins : List (Addr × Obj)} {σ : L2.St} {H : Hp} {s : Shared}
theorem lam1_start {A : Around} {outer : List Env} {scope : Scope} {x : Str} {f c' : Addr} {h1 : Heap} {tk i : Nat} {v : V} {u : Value} (I : L2.Inv X pins σ H s) (L : Lam1 X.env.scope scope x) (hN : X.N.Nodup) (hi : X.N[i]? = some x)
    (e0 : Env0 X.prog X.w X.K X.mg X.base A outer s H) (hd : A.handled = none) (ru : RelV v u) (hns : h1.Ns s.heap.objs.size fun y => [(x, u)].reverse.lookup y)
    (kp : ∀ b o, s.heap.get? b = some o → h1.get? b = some o) : L2.Inv (lamC X A outer s H scope f c') [] (σ.set i (some v)) H { s with heap := h1, toks := tk } := by
  have there : ∀ y ∈ scope.names, y.2 = .free → ∃ c, X.env.cells.lookup y.1 = some c := by
    intro y hy e
    rcases L.free y hy e with z | z
    · exact I.ok.has _ (.inl z)
    · exact I.ok.has _ (.inr z)
  have back : ∀ {y : Str} {c : Addr}, (cloFrom X.env.cells scope.names []).lookup y = some c → X.env.cells.lookup y = some c := by
    intro y c e
    rcases cloFrom_mem (PySem.mem_of_lookup e) with hm | ⟨q1, q2⟩
    · cases hm
    · obtain ⟨c1, hc⟩ := there _ q1 rfl
      replace hc : X.env.cells.lookup y = some c1 := hc
      have ec : c = c1 := by
        rw [q2, hc] <;> rfl
      rw [ec]
      exact hc
  have caught : ∀ {y : Str}, scope.names.lookup y = some .free → ∃ c, (cloFrom X.env.cells scope.names []).lookup y = some c := by
    intro y hl
    have hy : (y, NameKind.free) ∈ scope.names := PySem.mem_of_lookup hl
    exact mem_lookup (cloFrom_has (cells := X.env.cells) (acc := []) hy)
  have cellK : ∀ {c : Addr} {z : Option Value}, s.heap.IsCell c z → h1.IsCell c z := by
    rintro c z ⟨o, ho, hd⟩
    exact ⟨o, kp _ _ ho, hd⟩
  have none : ∀ b : Addr, b ∉ (lamC X A outer s H scope f c').ex := fun b z => by
    have z : b ∈ ([] : List Addr) := z
    cases z
  have nocell : ∀ y, scope.names.lookup y ≠ some .cell := fun y hl => (L.own _ (PySem.mem_of_lookup hl)).1 rfl
  refine ⟨⟨e0.mod, L.kind, rfl, rfl, Nat.le_refl _, fun y z c e1 e2 => I.ok.inj y z c (back e1) (back e2), ?has, ?cab, fun _ => hd, Around.frames_deeper e0.frames, .inr ⟨rfl, rfl⟩,
      fun b z => absurd z (none b), e0.bs, e0.bsz, fun b _ _ => none b, fun b z => absurd z (none b), e0.funs, e0.frf⟩,
    rfl, e0.bare, Un.kept kp, ⟨_, hns, ?loc⟩, ?cell, e0.hok.fresh (Nat.le_refl _), ?freeC, ?pin, e0.hok.kept kp, by rw [List.length_set]; exact I.len⟩
  case has =>
    intro y hy
    have hy : scope.names.lookup y = some .cell ∨ scope.names.lookup y = some .free := hy
    rcases hy with hy | hy
    · exact absurd hy (nocell y)
    · exact caught hy
  case cab =>
    intro y c z _
    have z : false = true := z
    cases z
  case loc =>
    intro j y z e1 e2 e3
    have e1 : X.N[j]? = some y := e1
    have e3 : Vis scope y := e3
    rcases e3 with k | k | k
    · -- the parameter
      have ey : y = x := (L.own _ (PySem.mem_of_lookup k)).2 rfl
      subst ey
      have ej : j = i := by
        exact (List.getElem?_inj (List.getElem?_eq_some_iff.mp e1).1 hN).mp (e1.trans hi.symm)
      subst ej
      have hl : j < σ.length := by
        rw [I.len]
        exact (List.getElem?_eq_some_iff.mp e1).1
      rw [List.getElem?_set_self hl] at e2
      have ez : v = z := Option.some.inj (Option.some.inj e2)
      subst ez
      refine ⟨u, ru, .inl ⟨k, ?_⟩⟩
      simp [List.lookup]
    · exact absurd k (nocell y)
    · have ny : y ≠ x := fun e => by
        rw [e, L.par] at k
        cases k
      have nj : i ≠ j := fun e => by
        rw [← e, hi] at e1
        exact ny (Option.some.inj e1).symm
      rw [List.getElem?_set_ne nj] at e2
      obtain ⟨m, hn, hl⟩ := I.loc
      have hvis : Vis X.env.scope y := by
        rcases L.free _ (PySem.mem_of_lookup k) rfl with q | q
        · exact .inr (.inl q)
        · exact .inr (.inr q)
      obtain ⟨w1, r1, q1⟩ := hl j y z e1 e2 hvis
      obtain ⟨c2, h2⟩ := caught k
      refine ⟨w1, r1, .inr ⟨.inr k, c2, h2, ?_⟩⟩
      have c1 := back h2
      rcases q1 with ⟨k1, _⟩ | ⟨_, c3, e4, z4⟩
      · replace k1 : X.env.scope.names.lookup y = some .local := k1
        rcases L.free _ (PySem.mem_of_lookup k) rfl with k2 | k2
        · replace k2 : X.env.scope.names.lookup y = some .cell := k2
          rw [k2] at k1
          cases k1
        · replace k2 : X.env.scope.names.lookup y = some .free := k2
          rw [k2] at k1
          cases k1
      · rw [c1] at e4
        cases e4
        exact cellK z4
  case cell =>
    intro y c e
    obtain ⟨w1, z⟩ := I.cell y c (back e)
    exact ⟨w1, cellK z⟩
  case freeC =>
    intro y c e
    exact I.freeC y c (back e)
  case pin =>
    intro q hq
    have hq : q ∈ ([] : List (Addr × Obj)) ++ [] := hq
    cases hq
/-- the lambda, called inside a built-in that X's def calls -/
theorem lam1_call {k i : Nat} {f c' : Addr} {pm ctv : Value} {params : Arguments} {body : Expr} {scope : Scope} {x : Str} {tb : TE} {v : V} {u : Value} {Q : VK} {E : Value → Shared → Prop}
    (I : L2.Inv X pins σ H s) (L : Lam1 X.env.scope scope x) (hN : X.N.Nodup) (hi : X.N[i]? = some x) (hr : Room (k + 3) X.A)
    (hf : s.heap.get? f = some (PySem.W.kla_obj "<lambda>" (X.env.qual ++ "<lambda>") params body scope (cloFrom X.env.cells scope.names []) pm c' ctv))
    (hc : ∃ (oc : Obj) (vs : Array Value) (t : Tok), s.heap.get? c' = some oc ∧ oc.data = .fields vs ∧ vs[1]? = some (.str (X.env.qual ++ "<lambda>") t))
    (hbind : bindArgs (PySem.W.kla_fn "<lambda>" (X.env.qual ++ "<lambda>") params body scope (cloFrom X.env.cells scope.names []) pm (.ref c') ctv) ⟨[u], []⟩ = pure [(x, u)])
    (hbody : PE (lamC X X.A.in1.in1 X.stack s H scope f c') body tb) (ru : RelV v u) (ht : tb (σ.set i (some v)) H Q) :
    wpAny (model X.prog X.w) X.A.in1.in1 (call (.ref f) [u]) (fun y s' => ∃ z H', L2.Inv X pins σ H' s' ∧ RelV z y ∧ Q z H' ∧ Un (frs X.stack) [] H H' s.heap s'.heap) E s := by
  have hr2 : Room (k + 1) X.A.in1.in1 := (hr.in1).in1
  obtain ⟨oc, vs, t, hoc, hdc, hvc⟩ := hc
  have e0 := I.env0.in1.in1
  have run : codeAny (model X.prog X.w) X.A.in1.in1 (.call (.ref f) ⟨[u], []⟩) (CR CX0 X.stack X.prog X.w H s Q E0) s := by
    refine PySem.W.kla_callFunE hr2.depth hf rfl L.co L.gen rfl ⟨c', oc, vs, t, rfl, hoc, hdc, hvc⟩ ?_
    rw [hbind]
    refine wpAny_pure (wpAny_newFunctionEnv (fun y hy => (L.own y hy).1) (fun y hy => ?_) (fun h1 hns hsb => ⟨I.nolimit.fresh _ hsb, ?_⟩) L.kind)
    · rw [List.mem_singleton.mp hy]
      exact L.par
    · show codeAny _ _ (.expr body (lamEnv X scope s.heap.objs.size f c')) _ _
      have kp : ∀ b o, s.heap.get? b = some o → h1.get? b = some o := by
        intro b o e
        exact hsb.extBut b o (Nat.ne_of_lt (Heap.lt_size e)) (Heap.get?_push_of_some _ e)
      have J := lam1_start (f := f) (c' := c') (tk := s.toks + [(x, u)].length) I L hN hi e0 hr2.hd ru hns kp
      refine PySem.W.kla_codeExpr (wpAny_mono (hbody.run [] _ _ H Q J ht) (fun y s' hq => ?_) fun e s' hq => hq.elim)
      obtain ⟨z, H', J', rv, q⟩ := hq
      exact ⟨z, H', J'.os, J'.bare, J'.base, J'.hok, rv, q⟩
  refine wpAny_call (codeAny_mono run fun r s' hq => ?_)
  cases r with
  | error e => exact (show False from hq).elim
  | ok fl =>
    cases fl with
    | ret y =>
      have hq : CE X.stack X.prog X.w H s Q y s' := hq
      have un : ∃ z H', Un (frs X.stack) [] H H' s.heap s'.heap ∧ RelV z y ∧ Q z H' ∧ s'.os = s.os ∧ AllBare s'.gens ∧ HOk X.prog X.w H' s'.heap := by
        obtain ⟨z, H', a1, a2, a3, a4, a5, a6⟩ := hq
        exact ⟨z, H', a3, a5, a6, a1, a2, a4⟩
      obtain ⟨z, H', un, rv, q, os, ba, hk⟩ := un
      have J : EP X pins σ (fun z' H'' => z' = z ∧ H'' = H') y s' := I.after ⟨z, H', os, ba, un, hk, rv, rfl, rfl⟩
      obtain ⟨z', H'', J, rv', ez, eH⟩ := J
      subst ez eH
      exact ⟨_, _, J, rv, q, un⟩
    | next => exact False.elim hq
    | brk => exact False.elim hq
    | cont => exact False.elim hq
end
/-! ### sorted(xs, key=lambda x: (a, b)) of ints -/
def KLe (key : Int → Int × Int) (a b : Int) : Prop := (key a).1 < (key b).1 ∨ ((key a).1 = (key b).1 ∧ (key a).2 ≤ (key b).2)
def kD (p : Int × Int) : PyData := .tuple [.int p.1, .int p.2]
theorem toks_le {p q : Int × Int} (h : PyProof.Rows.lexLt itemOrd (keyToks (kD q)) (keyToks (kD p)) = false) : p.1 < q.1 ∨ (p.1 = q.1 ∧ p.2 ≤ q.2) := by
  have e : ∀ r : Int × Int, keyToks (kD r) = [.inl 1, .inl r.1, .inl 1, .inl r.2, .inl 0] := fun r => by
    simp [kD, keyToks, keyToksAll]
  rw [e, e] at h
  simp [PyProof.Rows.lexLt, itemLt] at h
  omega
/-- what was told of each -/
inductive KeyR (key : Int → Int × Int) (H : Hp) : List Value → List Int → Prop
  | nil : KeyR key H [] []
  | cons {T : Addr} {n : Int} {us : List Value} {ns : List Int} : H T = some (.tup [.int (key n).1, .int (key n).2]) → KeyR key H us ns → KeyR key H (.ref T :: us) (n :: ns)
section
variable {key : Int → Int × Int} {H H' : Hp}
theorem KeyR.kp0 (k : Kp [] H H') : ∀ {us : List Value} {ns : List Int}, KeyR key H us ns → KeyR key H' us ns
  | _, _, .nil => .nil
  | _, _, .cons h t => .cons (k.at0 h) (t.kp0 k)
theorem KeyR.len : ∀ {us : List Value} {ns : List Int}, KeyR key H us ns → us.length = ns.length
  | _, _, .nil => rfl
  | _, _, .cons _ t => by rw [List.length_cons, List.length_cons, t.len]
theorem KeyR.snoc {T : Addr} {n : Int} (h : H T = some (.tup [.int (key n).1, .int (key n).2])) : ∀ {us : List Value} {ns : List Int}, KeyR key H us ns → KeyR key H (us ++ [.ref T]) (ns ++ [n])
  | _, _, .nil => .cons h .nil
  | _, _, .cons a t => .cons a (t.snoc h)
end
section
variable {X : Cx} {pins : List (Addr × Obj)} {σ : L2.St} {H : Hp} {s : Shared} {key : Int → Int × Int}
theorem KeyR.reads (I : L2.Inv X pins σ H s) : ∀ {us : List Value} {ns : List Int}, KeyR key H us ns → EachIs (fun v d => ∃ as, Reads s.heap v d as) us (ns.map fun n => kD (key n))
  | _, _, .nil => .nil
  | _, _, .cons h t => .cons (Dp.reads I _ _ _ (dp_ti (K := X.K) (ns := [_, _]) (sqT h)) rfl) (t.reads I)
theorem out_frs {b : Addr} (I : L2.Inv X pins σ H s) (fp : FpOk X pins H b) : b ∉ frs X.stack := fun z => by
  rcases List.mem_cons.mp (I.stkSub _ z) with e | e
  · exact fp.2.1 e
  · exact fp.2.2.1 e
theorem kD_alike (ns : List Int) : AllAlike (ns.map fun n => kD (key n)) := by
  intro d hd d' hd'
  obtain ⟨a, _, rfl⟩ := List.mem_map.mp hd
  obtain ⟨b, _, rfl⟩ := List.mem_map.mp hd'
  simp [kD, alike, alikeAll]
theorem kD_sortable (ns : List Int) : Sortable (ns.map fun n => kD (key n)) := by
  refine .inl fun d hd => ?_
  obtain ⟨a, _, rfl⟩ := List.mem_map.mp hd
  exact ⟨_, _, rfl⟩
/-- what a sort by the keys leaves -/
theorem out_sorted {h : Heap} {us vs : List Value} {ns : List Int} {xs : Array Keyed} (hr : EachIs (fun v d => ∃ as, Reads h v d as) us (ns.map fun n => kD (key n))) (hi : IntsAre vs ns)
    (hp : xs.Perm (us.toArray.zip vs.toArray)) (hs : SortedToK (dataKind h (ns.map fun n => kD (key n))) xs xs.size) :
    ∃ ms : List Int, IntsAre (xs.map (·.2)).toList ms ∧ ms.Perm ns ∧ ms.Pairwise (KLe key) := by
  have hz : (us.toArray.zip vs.toArray).toList = us.zip vs := by simp
  have pl : xs.toList.Perm (us.zip vs) := by
    rw [← hz]
    exact Array.perm_iff_toList_perm.mp hp
  -- each pair: a key that reads so, and its int
  have each : ∀ p ∈ us.zip vs, ∃ n t, n ∈ ns ∧ p.2 = Value.int n t ∧ ∃ as, Reads h p.1 (kD (key n)) as := by
    clear hp hs pl hz
    have go : ∀ (us vs : List Value) (ns : List Int), EachIs (fun v d => ∃ as, Reads h v d as) us (ns.map fun n => kD (key n)) → IntsAre vs ns → ∀ p ∈ us.zip vs, ∃ n t, n ∈ ns ∧ p.2 = Value.int n t ∧ ∃ as, Reads h p.1 (kD (key n)) as := by
      intro us
      induction us with
      | nil => intro vs ns _ _ p hp; simp at hp
      | cons u us ih =>
        intro vs ns h1 h2 p hp
        cases h2 with
        | nil => simp at hp
        | cons n0 t0 h2 =>
          cases h1 with
          | cons a b =>
            rcases List.mem_cons.mp hp with z | z
            · rw [z]
              exact ⟨_, _, List.mem_cons_self, rfl, a⟩
            · obtain ⟨n, t, c1, c2, c3⟩ := ih _ _ b h2 p z
              exact ⟨n, t, List.mem_cons_of_mem _ c1, c2, c3⟩
    exact go us vs ns hr hi
  have lenE : us.length = vs.length := by
    have h1 : ∀ {us : List Value} {ds : List PyData}, EachIs (fun v d => ∃ as, Reads h v d as) us ds → us.length = ds.length := by
      intro us ds e
      induction e with
      | nil => rfl
      | cons _ _ ih => rw [List.length_cons, List.length_cons, ih]
    have := h1 hr
    rw [List.length_map] at this
    have := hi.length
    omega
  have keyE : ∀ p ∈ us.zip vs, (dataKind h (ns.map fun n => kD (key n))).keyOf p.1 = some (keyToks (kD (key (SrtO.iv p.2)))) := by
    intro p hpm
    obtain ⟨n, t, c1, c2, as, c3⟩ := each p hpm
    rw [c2]
    exact PySem.W.dataKind_some (kD_alike ns) (List.mem_map.mpr ⟨n, c1, rfl⟩) c3
  refine ⟨xs.toList.map fun p => SrtO.iv p.2, ?_, ?_, ?_⟩
  · -- ints
    have : ∀ l : List Keyed, (∀ p ∈ l, ∃ n t, p.2 = Value.int n t) → IntsAre (l.map (·.2)) (l.map fun p => SrtO.iv p.2) := by
      intro l
      induction l with
      | nil => intro _; exact .nil
      | cons p r ih =>
        intro hl
        obtain ⟨n, t, e⟩ := hl p List.mem_cons_self
        rw [List.map_cons, List.map_cons, e]
        exact .cons n t (ih fun q hq => hl q (List.mem_cons_of_mem _ hq))
    rw [Array.toList_map]
    refine this xs.toList fun p hpm => ?_
    obtain ⟨n, t, _, c2, _⟩ := each p (pl.mem_iff.mp hpm)
    exact ⟨n, t, c2⟩
  · have e : (us.zip vs).map (fun p => SrtO.iv p.2) = ns := by
      have go : ∀ (us vs : List Value) (ns : List Int), us.length = vs.length → IntsAre vs ns → (us.zip vs).map (fun p => SrtO.iv p.2) = ns := by
        intro us
        induction us with
        | nil =>
          intro vs ns hl h2
          cases h2 with
          | nil => rfl
          | cons _ _ _ => simp at hl
        | cons u us ih =>
          intro vs ns hl h2
          cases h2 with
          | nil => simp at hl
          | cons n0 t0 h2 =>
            rw [List.zip_cons_cons, List.map_cons, ih _ _ (by simpa using hl) h2]
            rfl
      exact go us vs ns lenE hi
    have := pl.map fun p => SrtO.iv p.2
    rw [e] at this
    exact this
  · rw [List.pairwise_iff_getElem]
    intro i j hi2 hj hij
    rw [List.length_map, Array.length_toList] at hi2 hj
    have hle := hs i j (by omega) hj
    have kk : ∀ t (ht : t < xs.size), KK (dataKind h (ns.map fun n => kD (key n))) xs t = keyToks (kD (key (SrtO.iv (xs[t]).2))) := by
      intro t ht
      unfold KK
      rw [Array.getElem?_eq_getElem ht]
      show ((dataKind h (ns.map fun n => kD (key n))).keyOf (xs[t]).1).getD _ = _
      rw [keyE _ (pl.mem_iff.mp (Array.getElem_mem_toList ht))]
      rfl
    rw [kk i hi2, kk j hj] at hle
    have := toks_le hle
    simp only [List.getElem_map, Array.getElem_toList]
    exact this
end
end Cf

set_option Elab.async false
set_option linter.all false
set_option maxRecDepth 100000
namespace Cf
open PySem PySem.Spec PyProof.Rows L2
open LamX (CodeO TabS Tabs ExtN TabB lamEnv lamCx lam_make2)
open PySem.W (keyToks keyToksAll EachIs SortsAt dataKind AllAlike Sortable alike alikeAll)
section
variable {X : Cx} {pins : List (Addr × Obj)} {σ : L2.St} {H : Hp} {s : Shared} {key : Int → Int × Int}
theorem fp_at {b : Addr} {H' : Hp} (fp : FpOk X pins H b) (n : H' b = none) : FpOk X pins H' b := ⟨n, fp.2⟩
/-- behind the keys: the sort itself, and the list filled again -/
theorem key_end {A : Around} {E : Value → Shared → Prop} {a kS : Addr} {kA : Array Value} {vs : List Value} {ns : List Int} {e e1 : Nat} {P : PySem.Fin → Shared → Prop} (I : L2.Inv X pins σ H s) (hu : A.units + 64 < cLine)
    (fa : FpOk X pins H a) (fk : FpOk X pins H kS) (hka : kS ≠ a) (hk : s.heap.get? kS = some (seqObj "list" kA e)) (ha : s.heap.get? a = some (seqObj "list" #[] e1)) (hR : KeyR key H kA.toList ns) (hi : IntsAre vs ns) (hz : vs.length ≤ 1000)
    (h : ∀ s' (out : Array Value) (c : Nat) (ms : List Int), L2.Inv X pins σ H s' → s'.heap.get? a = some (seqObj "list" out c) → IntsAre out.toList ms → ms.Perm ns → ms.Pairwise (KLe key) → s'.heap.objs.size = s.heap.objs.size → P (.done (.ret .none)) s') :
    wpAny (model X.prog X.w) A (ksk_end a false vs.toArray e1 (.ref kS) kA) P E s := by
  have hr := hR.reads I
  have kl : kA.size = vs.length := by
    have h1 := hR.len
    have h2 := hi.length
    rw [Array.length_toList] at h1
    omega
  have big : (1000 : Nat) ≤ sizeLine := by decide
  have hzs : (kA.zip vs.toArray).size = vs.length := by rw [Array.size_zip, kl, List.size_toArray, Nat.min_self]
  have tail : ∀ st : SortSt, (arrOf st).Perm (kA.zip vs.toArray) → failedOf st = none → SortedToK (dataKind s.heap (ns.map fun n => kD (key n))) (arrOf st) (arrOf st).size → wpAny (model X.prog X.w) A (ksk_tail a false e1 (.ref kS) st) P E s := by
    intro st hp hf hs
    have e0 : kA = kA.toList.toArray := by simp
    rw [e0] at hp
    obtain ⟨ms, m1, m2, m3⟩ := out_sorted hr hi hp hs
    rw [← e0] at hp
    have hsz : ((arrOf st).map (·.2)).size = vs.length := by rw [Array.size_map, hp.size_eq, hzs]
    have s1 := Heap.SameBut.update s.heap kS (Obj.mapSeq fun _ => (#[] : Array Value))
    have na1 : (s.heap.update kS (Obj.mapSeq fun _ => (#[] : Array Value))).get? a = some (seqObj "list" #[] e1) := (s1.2 a hka.symm).trans ha
    have s2 := Heap.SameBut.update (s.heap.update kS (Obj.mapSeq fun _ => (#[] : Array Value))) a (Obj.mapSeq fun _ => (arrOf st).map (·.2))
    obtain ⟨c2, hc2⟩ : ∃ c2, ((s.heap.update kS (Obj.mapSeq fun _ => (#[] : Array Value))).update a (Obj.mapSeq fun _ => (arrOf st).map (·.2))).get? a = some (seqObj "list" ((arrOf st).map (·.2)) c2) := ⟨_, get?_update_seq na1 _⟩
    unfold ksk_tail
    try dsimp only
    refine wpAny_bind (listUpdate_at hk rfl ?_ (by rw [kl]; omega) (Nat.zero_le _))
    refine wpAny_bind (wpAny_letGo ?_)
    refine wpAny_bind (seqEpoch_at na1 rfl ?_)
    simp only [Bool.false_eq_true, if_false]
    refine wpAny_bind (listUpdate_at na1 rfl ?_ (Nat.zero_le _) (by rw [hsz]; omega))
    rw [hf]
    simp only [bne_self_eq_false, Bool.false_eq_true, if_false]
    refine wpAny_pure (h _ _ c2 ms ?_ hc2 m1 m2 m3 (by show (Heap.update _ _ _).objs.size = _; rw [Heap.size_update, Heap.size_update]))
    refine I.turnedL (ch := [kS, a]) (fun b o hb q => ?_) (fun b hb => ?_)
    · have h1 : b ≠ kS := fun z => hb (by simp [z])
      have h2 : b ≠ a := fun z => hb (by simp [z])
      exact (s2.2 b h2).trans ((s1.2 b h1).trans q)
    · simp only [List.mem_cons, List.not_mem_nil, or_false] at hb
      rcases hb with z | z
      · rw [z]; exact fk
      · rw [z]; exact fa
  have S : SortsAt X.prog X.w A s (dataKind s.heap (ns.map fun n => kD (key n))) kA.toList := by
    refine SortsAt.data hr (kD_alike ns) (kD_sortable ns) fun d hd => ?_
    obtain ⟨n, _, rfl⟩ := List.mem_map.mp hd
    have : (kD (key n)).depth ≤ 1 := by
      simp [kD, PyData.depth, PyData.depthAll]
    omega
  obtain ⟨kd, h1, h2⟩ := S.kind
  have h0 : KeysOf (dataKind s.heap (ns.map fun n => kD (key n))) (kA.zip vs.toArray) := PySem.W.keysOf_zip S.keys
  unfold ksk_end
  try dsimp only
  simp only [Bool.false_eq_true, if_false]
  by_cases hl2 : vs.toArray.size < 2
  · rw [if_pos hl2, if_pos hl2]
    refine wpAny_bind (wpAny_pure ?_)
    rw [StateT.run_pure]
    refine wpAny_bind (wpAny_pure ?_)
    try dsimp only
    refine tail (SortSt.mk' general' (kA.zip vs.toArray) #[] 7 none) (Array.Perm.refl _) rfl ?_
    intro i j hij hj
    have hj : j < (kA.zip vs.toArray).size := hj
    rw [hzs] at hj
    rw [List.size_toArray] at hl2
    have : i = j := by omega
    subst this
    exact KeyOrd.kle_refl _
  · rw [if_neg hl2, if_neg hl2]
    rw [List.size_toArray] at hl2
    have hkq : ∀ {Q : SortKind → Shared → Prop}, Q kd s → wpAny (model X.prog X.w) A (keyKind' kA) Q E s := by
      intro Q hQ
      have := h2 (by rw [Array.length_toList]; omega) E hQ
      rwa [Array.toArray_toList] at this
    refine wpAny_bind (hkq ?_)
    refine wpAny_bind (wpAny_mono (PyProof.Rows.H.wpS_sortRunsSt (κ := dataKind s.heap (ns.map fun n => kD (key n))) (kd := kd) (a₀ := kA.zip vs.toArray) (st := SortSt.mk' kd (kA.zip vs.toArray) #[] 7 none)
      (Q := fun _ st' => (arrOf st').Perm (kA.zip vs.toArray) ∧ failedOf st' = none ∧ SortedToK (dataKind s.heap (ns.map fun n => kD (key n))) (arrOf st') (kA.zip vs.toArray).size)
      h1 h0 ⟨Array.Perm.refl _, rfl, rfl⟩ rfl (Stable.refl _) (by rw [hzs]; omega) fun st' a1 a2 a3 _ => ⟨a1, a2, a3⟩) ?_ fun _ _ z => z)
    rintro ⟨⟨⟩, st'⟩ s' ⟨rfl, hp, hf, hs⟩
    try dsimp only
    exact tail st' hp hf (by rw [hp.size_eq]; exact hs)
/-- sorted(l, key=f), f the lambda of one parameter that was made, l the items vs -/
theorem sort_lam {k i : Nat} {l f c' : Addr} {pm ctv : Value} {params : Arguments} {body : Expr} {scope : Scope} {x : Str} {tb : TE} {vs : List Value} {ns : List Int} {Q : VK} {E : Value → Shared → Prop}
    (I : L2.Inv X pins σ H s) (L : Lam1 X.env.scope scope x) (hN : X.N.Nodup) (hi : X.N[i]? = some x) (hr : Room (k + 3) X.A)
    (hf : s.heap.get? f = some (PySem.W.kla_obj "<lambda>" (X.env.qual ++ "<lambda>") params body scope (cloFrom X.env.cells scope.names []) pm c' ctv)) (hfn : H f = none) (hfr : f ∉ frs X.stack)
    (hco : H c' = some (CodeO c' (X.env.qual ++ "<lambda>")))
    (hbind : ∀ u : Value, bindArgs (PySem.W.kla_fn "<lambda>" (X.env.qual ++ "<lambda>") params body scope (cloFrom X.env.cells scope.names []) pm (.ref c') ctv) ⟨[u], []⟩ = pure [(x, u)])
    (hbody : ∀ (s : Shared) (H : Hp), PE (lamC X X.A.in1.in1 X.stack s H scope f c') body tb)
    (hcol : ∀ {R : List Value → Shared → Prop}, R vs { s with heap := (s.heap.push (seqObj "list" #[] 0)).update s.heap.objs.size (Obj.mapSeq (· ++ vs.toArray)) } → wpAny (model X.prog X.w) X.A.in1 (collect (.ref l)) R (fun _ _ => False) s)
    (hv : IntsAre vs ns) (hz : vs.length ≤ 1000)
    (turn : ∀ n ∈ ns, ∀ H', Kp [] H H' → tb (σ.set i (some (.int n))) H' fun y H2 => Kp [] H' H2 ∧ ∃ T, y = .ref T ∧ H2 T = some (.tup [.int (key n).1, .int (key n).2]))
    (h : ∀ ms : List Int, ms.Perm ns → ms.Pairwise (KLe key) → New H (.lst (ms.map V.int)) Q) :
    wpAny (model X.prog X.w) X.A (call (.builtin "sorted") [.ref l] [(Str.ofString "key", .ref f)]) (EP X pins σ Q) E s := by
  have big : (1000 : Nat) ≤ sizeLine := by decide
  refine call_function_entry_kw kind_sorted plain_sorted entry_sorted (ksk_s1 _ _) ?_
  unfold Builtin.«sorted»
  refine wpAny_bind (m := checkCount "sorted" 1 1 _) (wpAny_pure ?_)
  refine wpAny_bind (wpAny_mono (hcol (R := fun us s' => us = vs ∧ s' = { s with heap := (s.heap.push (seqObj "list" #[] 0)).update s.heap.objs.size (Obj.mapSeq (· ++ vs.toArray)) }) ⟨rfl, rfl⟩) ?_ (fun _ _ z => z.elim))
  rintro us s0 ⟨rfl, rfl⟩
  refine wpAny_bind (wpAny_newList ?_ (by omega))
  have size1 : ((s.heap.push (seqObj "list" #[] 0)).update s.heap.objs.size (Obj.mapSeq (· ++ us.toArray))).objs.size = s.heap.objs.size + 1 := by
    rw [Heap.size_update, Heap.size_push]
  have hoL : (((s.heap.push (seqObj "list" #[] 0)).update s.heap.objs.size (Obj.mapSeq (· ++ us.toArray))).push (seqObj "list" us.toArray 0)).get? (s.heap.objs.size + 1) = some (seqObj "list" us.toArray 0) := by
    rw [← size1]
    exact Heap.get?_push_size _ rfl
  have keep0 : ∀ b o, s.heap.get? b = some o → (((s.heap.push (seqObj "list" #[] 0)).update s.heap.objs.size (Obj.mapSeq (· ++ us.toArray))).push (seqObj "list" us.toArray 0)).get? b = some o := by
    intro b o q
    have lt : b < s.heap.objs.size := Heap.lt_size q
    rw [Heap.get?_push_ne _ _ _ (by rw [size1]; exact Nat.ne_of_lt (Nat.lt_succ_of_lt lt)), Heap.get?_update_ne _ _ _ _ (Nat.ne_of_lt lt), Heap.get?_push_ne _ _ _ (Nat.ne_of_lt lt)]
    exact q
  show wpAny _ _ _ _ _ { s with heap := ((s.heap.push (seqObj "list" #[] 0)).update s.heap.objs.size (Obj.mapSeq (· ++ us.toArray))).push (seqObj "list" us.toArray 0) }
  rw [size1]
  have size2 : (((s.heap.push (seqObj "list" #[] 0)).update s.heap.objs.size (Obj.mapSeq (· ++ us.toArray))).push (seqObj "list" us.toArray 0)).objs.size = s.heap.objs.size + 2 := by
    rw [Heap.size_push, size1]
  generalize hh0 : ((s.heap.push (seqObj "list" #[] 0)).update s.heap.objs.size (Obj.mapSeq (· ++ us.toArray))).push (seqObj "list" us.toArray 0) = h0 at hoL keep0 size2
  generalize ha : s.heap.objs.size + 1 = a at hoL
  have fa : FpOk X pins H a := I.fpOk (by omega) (I.hok.fresh (by omega))
  have I0 : L2.Inv X pins σ H { s with heap := h0 } := I.kept (t' := s.toks) keep0
  refine wpAny_bind (wpAny_holding (wpAny_call_entry_kw slot_list_sort ⟨_, hoL, rfl⟩ entry_list_sort ?_ (ksk_l1 _ _)))
  show wpAny (model X.prog X.w) X.A.in1.in1 (Builtin.«list.sort» ⟨[.ref a], [(Str.ofString "key", .ref f)]⟩) _ _ _
  rw [ksk_t1]
  unfold ksk_tree
  obtain ⟨e1, ho1⟩ : ∃ e1, (h0.update a (Obj.mapSeq fun _ => (#[] : Array Value))).get? a = some (seqObj "list" #[] e1) := ⟨_, get?_update_seq hoL fun _ => #[]⟩
  have s1 := Heap.SameBut.update h0 a (Obj.mapSeq fun _ => (#[] : Array Value))
  refine wpAny_bind (listItems_at hoL rfl ?_)
  refine wpAny_bind (listUpdate_at hoL rfl ?_ (by rw [List.size_toArray]; omega) (Nat.zero_le _))
  refine wpAny_bind (seqEpoch_at ho1 rfl ?_)
  refine wpAny_bind (wpAny_newTuple ?_ (by show us.length ≤ _; omega))
  refine wpAny_bind (wpAny_newList ?_ (Nat.zero_le _))
  refine wpAny_holding ?_
  have size3 : ((h0.update a (Obj.mapSeq fun _ => (#[] : Array Value))).push (seqObj "tuple" us.toArray 0)).objs.size = s.heap.objs.size + 3 := by
    rw [Heap.size_push, Heap.size_update, size2]
  show wpAny _ _ (ksk_rest a (.ref f) false us.toArray e1 (.ref ((h0.update a (Obj.mapSeq fun _ => (#[] : Array Value))).push (seqObj "tuple" us.toArray 0)).objs.size)) _ _ { s with heap := ((h0.update a (Obj.mapSeq fun _ => (#[] : Array Value))).push (seqObj "tuple" us.toArray 0)).push (seqObj "list" #[] 0) }
  have hkS : (((h0.update a (Obj.mapSeq fun _ => (#[] : Array Value))).push (seqObj "tuple" us.toArray 0)).push (seqObj "list" #[] 0)).get? (s.heap.objs.size + 3) = some (seqObj "list" #[] 0) := by
    rw [← size3]
    exact Heap.get?_push_size _ rfl
  rw [size3]
  have keep1 : ∀ b o, b ≠ a → h0.get? b = some o → (((h0.update a (Obj.mapSeq fun _ => (#[] : Array Value))).push (seqObj "tuple" us.toArray 0)).push (seqObj "list" #[] 0)).get? b = some o := by
    intro b o nb q
    exact Heap.get?_push_of_some _ (Heap.get?_push_of_some _ ((s1.2 b nb).trans q))
  have ho3 : (((h0.update a (Obj.mapSeq fun _ => (#[] : Array Value))).push (seqObj "tuple" us.toArray 0)).push (seqObj "list" #[] 0)).get? a = some (seqObj "list" #[] e1) := Heap.get?_push_of_some _ (Heap.get?_push_of_some _ ho1)
  generalize hh1 : ((h0.update a (Obj.mapSeq fun _ => (#[] : Array Value))).push (seqObj "tuple" us.toArray 0)).push (seqObj "list" #[] 0) = h1 at hkS keep1 ho3
  generalize hkk : s.heap.objs.size + 3 = kS at hkS
  have fk : FpOk X pins H kS := I.fpOk (by omega) (I.hok.fresh (by omega))
  have hka : kS ≠ a := by omega
  have I1 := L2.Inv.turnedL (s := { s with heap := h0 }) (h' := h1) (t' := s.toks) (ch := [a]) I0 (fun b o hb q => keep1 b o (fun z => hb (by simp [z])) q) (fun b hb => by rw [List.mem_singleton.mp hb]; exact fa)
  have hfa : f ≠ a := Nat.ne_of_lt (by rw [← ha]; exact Nat.lt_succ_of_lt (Heap.lt_size hf))
  have hf1 := keep1 f _ hfa (keep0 f _ hf)
  unfold ksk_rest
  refine wpAny_bind (wpAny_rule ?_)
  first
    | rw [List.forIn_toArray]
    | (rw [← Array.forIn_toList]; simp only [List.toList_toArray])
  refine wpAny_bind (ksk_fold (fun j s' => ∃ (H' : Hp) (kA : Array Value) (e : Nat), L2.Inv X pins σ H' s' ∧ Kp [] H H' ∧
      s'.heap.get? f = some (PySem.W.kla_obj "<lambda>" (X.env.qual ++ "<lambda>") params body scope (cloFrom X.env.cells scope.names []) pm c' ctv) ∧ s'.heap.get? kS = some (seqObj "list" kA e) ∧ s'.heap.get? a = some (seqObj "list" #[] e1) ∧
      H' f = none ∧ H' kS = none ∧ H' a = none ∧ KeyR key H' kA.toList (ns.take j)) us 0 _ ⟨H, #[], 0, I1, Kp.refl, hf1, hkS, ho3, hfn, fk.1, fa.1, .nil⟩ ?step ?done)
  case step =>
    rintro j u s' hu ⟨H', kA, e, J, kp, jf, jk, ja, nf, nk, na, jR⟩
    simp only [Nat.zero_add] at jR ⊢
    obtain ⟨n, t, rfl, hn⟩ : ∃ n t, u = Value.int n t ∧ ns[j]? = some n := by
      have go : ∀ (us : List Value) (ns : List Int) (j : Nat), IntsAre us ns → us[j]? = some u → ∃ n t, u = Value.int n t ∧ ns[j]? = some n := by
        intro us
        induction us with
        | nil => intro ns j _ h; simp at h
        | cons w us ih =>
          intro ns j hh h
          cases hh with
          | cons n0 t0 hh =>
            cases j with
            | zero => exact ⟨n0, t0, (Option.some.inj h).symm, rfl⟩
            | succ j =>
              obtain ⟨n, t, a1, a2⟩ := ih _ j hh (by simpa using h)
              exact ⟨n, t, a1, by simpa using a2⟩
      exact go us ns j hv hu
    have hmem : n ∈ ns := List.mem_of_getElem? hn
    have kal : kA.size ≤ us.length := by
      have h1 := jR.len
      rw [Array.length_toList, List.length_take] at h1
      have h2 := hv.length
      omega
    obtain ⟨⟨oc, cvs, tq, q1, q2, q3⟩, _, _⟩ := J.hok c' _ (kp.at0 hco)
    refine wpAny_bind (wpAny_attempt (wpAny_mono (lam1_call (k := k) J L hN hi hr jf ⟨oc, cvs, tq, q1, q2, q3⟩ (hbind _) (hbody s' H') (v := .int n) ⟨t, rfl⟩ (turn n hmem H' kp)) (fun y s2 hq => ?_) fun _ _ z => z))
    obtain ⟨z, H2, J2, rv, ⟨k2, T, ez, hT⟩, un⟩ := hq
    subst ez
    cases rv
    try dsimp only
    have fkJ := out_frs J (fp_at fk nk)
    have faJ := out_frs J (fp_at fa na)
    have jf2 := un.keep f _ jf nf hfr (by simp)
    have jk2 := un.keep kS _ jk nk fkJ (by simp)
    have ja2 := un.keep a _ ja na faJ (by simp)
    have nf2 := un.free f _ jf nf (by simp)
    have nk2 := un.free kS _ jk nk (by simp)
    have na2 := un.free a _ ja na (by simp)
    have sB := Heap.SameBut.update s2.heap kS (Obj.mapSeq (·.push (Value.ref T)))
    obtain ⟨c2, hc2⟩ : ∃ c2, (s2.heap.update kS (Obj.mapSeq (·.push (Value.ref T)))).get? kS = some (seqObj "list" (kA.push (Value.ref T)) c2) := ⟨_, get?_update_seq jk2 (·.push (Value.ref T))⟩
    refine wpAny_bind (listUpdate_at jk2 rfl ?_ (by omega) (Nat.le_trans (Nat.le_of_eq (Array.size_push ..)) (by omega)))
    have hfk : f ≠ kS := Nat.ne_of_lt (Nat.lt_of_lt_of_le (Heap.lt_size hf) (by rw [← hkk]; exact Nat.le_add_right _ _))
    refine wpAny_pure ⟨rfl, H2, kA.push (Value.ref T), c2, ?_, kp.trans k2, (sB.2 f hfk).trans jf2, hc2, (sB.2 a hka.symm).trans ja2, nf2, nk2, na2, ?_⟩
    · exact J2.turnedL (t' := s2.toks) (ch := [kS]) (fun b o hb q => (sB.2 b (fun z => hb (by simp [z]))).trans q) (fun b hb => by rw [List.mem_singleton.mp hb]; exact fp_at fk nk2)
    · have e3 : ns.take (j + 1) = ns.take j ++ [n] := by
        rw [List.take_add_one, hn]
        rfl
      rw [e3, Array.toList_push]
      exact (jR.kp0 k2).snoc hT
  case done =>
    rintro s' ⟨H', kA, e, J, kp, jf, jk, ja, nf, nk, na, jR⟩
    have hl := hv.length
    rw [List.take_of_length_le (by omega)] at jR
    refine wpAny_bind (listItems_at jk rfl ?_)
    have hu2 : X.A.in1.in1.units + 64 < cLine := ((hr.in1).in1).units
    refine key_end (key := key) J hu2 (fp_at fa na) (fp_at fk nk) hka jk ja jR hv hz ?_
    intro s3 out c ms J3 hout m1 m2 m3 _
    refine ⟨_, rfl, wpAny_pure ⟨_, rfl, ?_⟩⟩
    have olen : out.size ≤ 1000 := by
      have h1 := m1.length
      have h2 := m2.length_eq
      rw [Array.length_toList] at h1
      omega
    have nH : H a = none := fa.1
    refine ⟨.ref a, upd H' a (.lst (ms.map V.int)), ?_, rfl, h ms m2 m3 a _ nH (kp.trans (Kp.new na)) upd_same⟩
    refine L2.Inv.take (h' := s3.heap) (t' := s3.toks) J3 (fun b ob _ q => q) (fp_at fa na) ?_
    · exact ⟨by rw [List.length_map]; have h1 := m1.length; rw [Array.length_toList] at h1; omega, out.toList, c, vals_of_ints m1, by rw [Array.toArray_toList]; exact hout⟩
end
end Cf

set_option Elab.async false
set_option linter.all false
set_option maxRecDepth 100000
namespace Cf
open PySem PySem.Spec PyProof.Rows L2
open LamX (CodeO TabS Tabs ExtN TabB lamEnv lamCx lam_make2)
/-! ### heaps that grow, tables of code objects among them -/
/-- all but the tables stay, and the tables of T are good ones -/
structure Kt (T : List (Addr × Str)) (H H' : Hp) : Prop where
  ext : ExtN H H'
  tab : Tabs T H → Tabs T H'
/-- nothing is there, but a table at most -/
def Nt (H : Hp) (p : Addr) : Prop := ∀ o, H p = some o → ∃ ps, o = .tbl ps
section
variable {K : PySem.W.Frag} {T : List (Addr × Str)} {H H1 H2 : Hp} {p b : Addr} {xs : List V}
theorem nt0 (h : H p = none) : Nt H p := fun o e => by
  rw [h] at e
  cases e
theorem Kt.refl : Kt T H H := ⟨ExtN.refl H, fun h => h⟩
theorem Kt.trans (a : Kt T H H1) (c : Kt T H1 H2) : Kt T H H2 := ⟨a.ext.trans c.ext, fun h => c.tab (a.tab h)⟩
theorem Kp.kt (k : Kp [] H H1) : Kt T H H1 := ⟨ExtN.of fun b o e => k.at0 e, fun h => h.ext fun b o e => k.at0 e⟩
theorem Kt.kp (a : Kt T H H1) (k : Kp [] H1 H2) : Kt T H H2 := a.trans k.kt
theorem Kt.nt (a : Kt T H H1) (h : Nt H1 p) : Nt H p := fun o e => by
  by_cases z : ∃ ps, o = .tbl ps
  · exact z
  · exact h o (a.ext p o e fun ps w => z ⟨ps, w⟩)
theorem Kt.nt0 (a : Kt T H H1) (h : H1 p = none) : Nt H p := a.nt (Cf.nt0 h)
theorem Kt.atL (a : Kt T H H1) (h : H p = some (.lst xs)) : H1 p = some (.lst xs) := a.ext p _ h fun ps z => nomatch z
theorem Kt.atT (a : Kt T H H1) (h : H p = some (.tup xs)) : H1 p = some (.tup xs) := a.ext p _ h fun ps z => nomatch z
theorem Kt.tup0 (a : Kt T H H1) (h : SqT K H p xs) : SqT K H1 p xs := by
  rcases h with (h | ⟨o, h⟩) | h
  · exact .inl (.inl (a.atT h))
  · exact .inl (.inr ⟨o, a.ext p _ h fun ps z => nomatch z⟩)
  · exact .inr h
theorem Kt.lst0 (a : Kt T H H1) (h : SqL K H p xs) : SqL K H1 p xs := by
  rcases h with (h | ⟨o, h⟩) | h
  · exact .inl (.inl (a.atL h))
  · exact .inl (.inr ⟨o, a.ext p _ h fun ps z => nomatch z⟩)
  · exact .inr h
/-- a list that was not there before is changed -/
theorem Kt.own (a : Kt T H H1) (z : Nt H p) (hl : H1 p = some (.lst xs)) (m : Kp [p] H1 H2) : Kt T H H2 := by
  have np : ∀ q o, H1 q = some o → (∀ ys, o ≠ .lst ys) → q ≠ p := fun q o e n w => by
    rw [w, hl] at e
    cases e
    exact n _ rfl
  refine ⟨fun q o e n => ?_, fun hT r hr => ?_⟩
  · have hq : q ≠ p := fun w => by
      rw [w] at e
      obtain ⟨ps, hp⟩ := z o e
      exact n ps hp
    exact m.at1 hq (a.ext q o e n)
  · obtain ⟨ps, h1, h3, h4⟩ := a.tab hT r hr
    refine ⟨ps, m.at1 (np _ _ h1 fun ys w => nomatch w) h1, h3, fun pos cv hc => ?_⟩
    obtain ⟨c, e1, e2⟩ := h4 pos cv hc
    refine ⟨c, e1, m.at1 (np _ _ e2 fun ys w => ?_) e2⟩
    unfold LamX.CodeO at w
    cases w
theorem Kt.md (a : Kt T H H1) (z : Nt H p) (hl : H1 p = some (.lst xs)) (m : Md p H1 H2) : Kt T H H2 := a.own z hl m.kp
end
section
variable {K : PySem.W.Frag} {T : List (Addr × Str)} {H H' : Hp}
theorem Rw.kt {xs : List V} {rs : List (List Int)} (h : Rw K H xs rs) (k : Kt T H H') : Rw K H' xs rs := h.go fun _ _ z => k.tup0 z
end
/-! ### sorted(xs, key=lambda x: ..) -/
def tSortK (T : List (Addr × Str)) (K : PySem.W.Frag) (i : Nat) (ta : TA) (tb : TE) : TE := fun σ H Q => ta σ H fun vs H1 => ∃ (p : Addr) (ns : List Int) (key : Int → Int × Int), vs = [.ref p] ∧ SqL K H1 p (ns.map V.int) ∧ ns.length ≤ 1000 ∧ Tabs T H1 ∧
  ∀ H2, Kt T H1 H2 → (∀ n ∈ ns, ∀ H', Kp [] H2 H' → tb (σ.set i (some (.int n))) H' fun y H3 => Kp [] H' H3 ∧ ∃ U, y = .ref U ∧ H3 U = some (.tup [.int (key n).1, .int (key n).2])) ∧
    ∀ ms : List Int, ms.Perm ns → ms.Pairwise (KLe key) → New H2 (.lst (ms.map V.int)) Q
section
variable {X : Cx}
theorem pe_sortK {T : List (Addr × Str)} {K : PySem.W.Frag} {c P : Addr} {k i : Nat} {x : Str} {e : Expr} {ta : TA} {tb : TE} {params : Arguments} {body : Expr} {scope : Scope} {p lpos kpos pos : Pos} (eK : X.K = K) (hc : X.calm = true)
    (TB : TabB X.base X.mg c P) (hcode : X.env.code = .ref c) (hmT : (P, X.env.qual ++ "<lambda>") ∈ T) (hu : ∀ r ∈ T, r.1 = P → r.2 = X.env.qual ++ "<lambda>") (hr : Room (k + 3) X.A) (L : Lam1 X.env.scope scope x) (hN : X.N.Nodup) (hi : X.N[i]? = some x)
    (hdef : defaultsOf params X.env = ([], []))
    (hbind : ∀ (q : Str) (cl : List (Str × Addr)) (pm cv ctv u : Value), bindArgs (PySem.W.kla_fn "<lambda>" q params body scope cl pm cv ctv) ⟨[u], []⟩ = pure [(x, u)])
    (hbody : ∀ (s : Shared) (H : Hp) (f c' : Addr), PE (lamC X X.A.in1.in1 X.stack s H scope f c') body tb)
    (hg : Gl X "sorted") (hm : X.mg "sorted" = none) (ha : PA X [e] ta)
    (he : backTo pos (starEach [e] X.env) = (false, eval e X.env) :: backTo pos (starEach [] X.env) := by rfl) (hpl : (backTo pos (starEach [e] X.env)).any (·.1) = false := by rfl)
    (hall : (backToKw pos (keywordEach [⟨some "key", .Lambda params body scope lpos, kpos⟩] X.env)).all (·.1.isSome) = true := by rfl) (hno : (backToKw pos (keywordEach [⟨some "key", .Lambda params body scope lpos, kpos⟩] X.env)).any (·.1.isNone) = false := by rfl)
    (hks : (backToKw pos (keywordEach [⟨some "key", .Lambda params body scope lpos, kpos⟩] X.env)).filterMap (·.1) = [Str.ofString "key"] := by rfl) :
    PE X (.Call (.Name "sorted" p) [e] [⟨some "key", .Lambda params body scope lpos, kpos⟩] pos) (tSortK T K i ta tb) := by
  subst eK
  refine ⟨fun pins s σ H Q I h => ?_⟩
  refine wpAny_Call_Name_kw (ld_blt I hg hm PyProof.Rows.boot_sorted ?_)
  refine PyProof.Rows.callWith_kw (thn (ha.run pos pins s σ H _ I h) ?_) he hpl hall hno
  rintro us s1 ⟨vs, H1, I1, r1, pl, ns, key, ev, hq, hz, hT, w⟩
  subst ev
  obtain ⟨u, rfl, ru⟩ := vals1 r1
  cases ru
  show wpAny _ _ (evalAll ((do let v ← eval (.Lambda params body scope lpos) X.env; standAt pos; pure v) :: (backToKw pos (keywordEach [] X.env)).map (·.2))) _ _ s1
  refine wpAny_evalAll_cons (wpAny_bind ?_)
  refine lam_make2 I1 TB hcode hmT hu hT hdef (fun y hy ey => ?_) fun f c' pm ctv H2 s2 I2 eN T2 hf hfn hfr hco => ?_
  · rcases L.free y hy ey with z | z
    · exact I1.ok.has _ (.inl z)
    · exact I1.ok.has _ (.inr z)
  refine wpAny_bind (wpAny_standAt (wpAny_pure (wpAny_evalAll_nil ?_)))
  rw [hks]
  show wpAny _ _ (call (.builtin "sorted") [.ref pl] [(Str.ofString "key", .ref f)]) _ _ s2
  have kt : Kt T H1 H2 := ⟨eN, fun _ => T2⟩
  obtain ⟨wt, wq⟩ := w H2 kt
  obtain ⟨its, rv, pl2, hz2⟩ := I2.list (kt.lst0 hq)
  have hv := rv.ints
  have hlen : its.length ≤ 1000 := by
    rw [hv.length]
    exact hz
  exact sort_lam (k := k) (key := key) I2 L hN hi hr hf hfn hfr hco (fun u => hbind _ _ _ _ _ u) (fun s H => hbody s H f c') (fun {R} hR => collect_list pl2.isList hR (Nat.le_trans hlen (by decide))) hv hlen wt wq
end
end Cf

set_option Elab.async false
set_option linter.all false
set_option maxRecDepth 100000
namespace Cf
open PySem PySem.Spec PyProof.Rows L2
open LamX (CodeO TabS Tabs ExtN TabB)
section
variable {P : Program} {w : World} {K : PySem.W.Frag} {mg : Str → Option Value} {base : Heap}
/-- a def that lets no exception out, its code object known -/
theorem okC {k : Nat} {x qual : Str} {st : Stmt} {f c : Addr} {fd : FuncData} {N ps : List Str} {sp : Sp} (F : Fun K x qual st f fd) (hcd : fd.code = .ref c) (S : FnScope N ps (defScope st))
    (len : ∀ vs H Q E, sp vs H Q E → vs.length = ps.length)
    (body : ∀ (A : Around) (outer : List Env) (s : Shared) (H : Hp) (vs : List V) (Q : VK) (E : XK),
      (A.deeper (envOfC qual (defScope st) s.heap.objs.size f (.ref c))).guards = some [] → Room k (A.deeper (envOfC qual (defScope st) s.heap.objs.size f (.ref c))) → sp vs H Q E →
      ∃ t, PSs (cxOf CX0 P w K mg base N qual (defScope st) f (.ref c) A outer s H E).nox (defBody st) t ∧ t { nx := fun _ H' => Q .non H', rt := Q } (start N vs) H) :
    FnG P w K mg base CX0 (k + 1) f fd ps sp := by
  have F2 := F
  obtain ⟨oc, od, kV, doc, pm, an, cd, ct, sl, rfl, look, code⟩ := F2.ex
  have hcd : cd = .ref c := hcd
  subst hcd
  constructor
  · exact len
  intro A outer s H args us vs Q E room gd env bind rel wish
  have hlen := len vs H Q E wish
  have keeps : ∀ b o, base.get? b = some o → s.heap.get? b = some o := fun b o e => (env.bs b o e).1
  have inK : K.In s.heap := env.mod.kin.keeps keeps
  have noLim : s.heap.NoLimit := env.mod.nolimit.keeps keeps
  refine codeAny_call_function room.depth (inK f _ look) rfl S.co S.gen rfl (PySem.W.codeRec_of inK code) (bind _ _ _ _ ?_)
  refine wpAny_newFunctionEnv_cells S.kind ?_ ?_
  · rintro ⟨n, v⟩ hy
    cases S.par n (List.of_mem_zip hy).1 with
    | inl q => exact Or.inl q
    | inr q => exact Or.inr ⟨q, PySem.W.cellsFrom_some _ _ _ (Or.inl q)⟩
  · intro en hen s1 inCall
    subst hen
    refine ⟨noLim.keeps inCall.toInCall.keep, codeAny_func ?_⟩
    obtain ⟨t, judged, reading⟩ := body A outer s H vs Q E gd (room.deeper _) wish
    have I0 := inv_start (CX := CX0) (E := E) S room.hd env hlen rel inCall
    have ends : ∀ {σ' : L2.St} {H' : Hp} {v : V} {u : Value} {s' : Shared}, L2.Inv (cxOf CX0 P w K mg base N qual (defScope st) f (.ref c) A outer s H E) [] σ' H' s' → RelV v u → Q v H' → CE outer P w H s Q u s' := by
      intro σ' H' v u s' J rv q
      exact ⟨v, H', J.os, J.bare, J.base, J.hok, rv, q⟩
    refine wpAny_mono (judged.nox.run [] s1 (start N vs) H _ I0 reading) ?_ (fun _ _ h => h)
    intro fl s' hs
    match fl, hs with
    | .ret u, hs =>
      obtain ⟨v, σ', H', J, rv, q⟩ := hs
      exact ends J rv q
    | .next, hs =>
      obtain ⟨σ', H', J, q⟩ := hs
      exact ends (v := V.non) (u := Value.none) J rfl q
    | .brk, hs =>
      obtain ⟨_, _, _, q⟩ := hs
      exact q.elim
    | .cont, hs =>
      obtain ⟨_, _, _, q⟩ := hs
      exact q.elim
end
section
variable {P : Program} {w : World} {K : PySem.W.Frag} {mg mb : Str → Option Value} {CX : CXT} {k : Nat} {fa a : Addr} {fd : FuncData} {x : Str} {sp : Sp}
/-- the law's own call; cs: code objects, and the tables of the lambdas in them, which are empty at first -/
theorem law_callT {cs : List (Addr × Addr)} {s0 : Shared} {vs : List Value} {ns : List Int}
    (inK : K.In s0.heap) (glb : s0.heap.Ns mainGlobals mg) (blt : s0.heap.Ns builtinsNs mb) (bb : ∀ x : Str, x ≠ "__name__" → mb x = bootBuiltins x) (lim : s0.heap.NoLimit) (hg : s0.gens = #[])
    (hT : ∀ t ∈ cs, s0.heap.get? t.2 = some { cls := .none, data := .fields #[] }) (nT : ∀ t ∈ cs, K.lookup t.2 = none) (hC : ∀ t ∈ cs, PySem.W.CodeHd s0.heap t.1 t.2)
    (hbm : ∃ (bm : Addr) (ob : Obj), mg "__builtins__" = some (.ref bm) ∧ bm ≠ builtinsNs ∧ s0.heap.get? bm = some ob ∧ ob.cls = .type "module" ∧ ob.dict = some builtinsNs ∧ ob.data = .plain)
    (ha : s0.heap.get? a = some { cls := .type "list", data := .seq vs.toArray }) (hi : IntsAre vs ns) (hl : ns.length ≤ sizeLine) (hr : Room k callerA)
    (F : ∀ base : Heap, K.In base → base.Ns mainGlobals mg → (∀ t ∈ cs, TabB base mg t.1 t.2) → FnG P w K mg base CX k fa fd [x] sp)
    (bind : ∀ (s : Shared) (u : Value), BindsTo s fd ⟨[u], []⟩ [(x, u)])
    (wish : ∀ H : Hp, (∀ t ∈ cs, H t.2 = some (.tbl #[])) → SqL K H a (ns.map V.int) → sp [.ref a] H (fun v _ => v = .bl true) fun _ _ _ => False)
    (noX : ∀ H e s', CX [] H s0 (fun _ _ _ => False) e s' → False) :
    codeAny (model P w) callerA (.call (.ref fa) ⟨[.ref a], []⟩) (fun r s' => r = .ok (.ret (.bool true)) ∧ OldK s0.heap s'.heap ∧ s'.os = s0.os ∧ AllBare s'.gens) s0 := by
  have rel := vals_ints hi
  let ts : List Addr := cs.map (·.2)
  have tsT : ∀ b ∈ ts, s0.heap.get? b = some { cls := .none, data := .fields #[] } := by
    intro b hb
    obtain ⟨t, ht, rfl⟩ := List.mem_map.mp hb
    exact hT t ht
  have tsK : ∀ b ∈ ts, K.lookup b = none := by
    intro b hb
    obtain ⟨t, ht, rfl⟩ := List.mem_map.mp hb
    exact nT t ht
  have tsM : ∀ t ∈ cs, t.2 ∈ ts := fun t ht => List.mem_map.mpr ⟨t, ht, rfl⟩
  have aTs : a ∉ ts := fun z => by
    have q := tsT a z
    rw [ha] at q
    have q2 := congrArg Obj.data (Option.some.inj q)
    cases q2
  have main : ∀ H : Hp, (∀ t ∈ cs, H t.2 = some (.tbl #[])) → (∀ b, H b = none ∨ b ∈ ts ∨ ∃ o xs, H b = some (.frz o (.lst xs))) → SqL K H a (ns.map V.int) → HOk P w H s0.heap →
      (∀ b, H b ≠ none → b = a ∨ b ∈ ts) → (H a ≠ none → K.lookup a = none) →
      codeAny (model P w) callerA (.call (.ref fa) ⟨[.ref a], []⟩) (fun r s' => r = .ok (.ret (.bool true)) ∧ OldK s0.heap s'.heap ∧ s'.os = s0.os ∧ AllBare s'.gens) s0 := by
    intro H hHT only sq hok one unK
    have out : ∀ {b : Addr} {o : Obj}, s0.heap.get? b = some o → (∀ us n, o.data ≠ .seq us n) → o.data ≠ .fields #[] → H b = none := by
      intro b o e n1 n2
      cases q : H b with
      | none => rfl
      | some u =>
        exfalso
        rcases one b (by rw [q]; simp) with z | z
        · rw [z, ha] at e
          cases e
          exact n1 _ _ rfl
        · rw [tsT b z] at e
          cases e
          exact n2 rfl
    have nsB : ∀ {b : Addr} {m : Str → Option Value}, s0.heap.Ns b m → (hidT s0.heap H).Ns b m := by
      rintro b m ⟨o, es, ep, e, d, r⟩
      refine ⟨o, es, ep, hidT_get e (out e (fun us n z => ?_) (fun z => ?_)), d, r⟩
      · rw [d] at z
        cases z
      · rw [d] at z
        cases z
    have kB : K.In (hidT s0.heap H) := by
      intro b o e
      refine hidT_get (inK b o e) ?_
      cases q : H b with
      | none => rfl
      | some u =>
        exfalso
        rcases one b (by rw [q]; simp) with z | z
        · rw [z] at q e
          rw [unK (by rw [q]; simp)] at e
          cases e
        · rw [tsK b z] at e
          cases e
    have limB : (hidT s0.heap H).NoLimit := by
      obtain ⟨mc, h1, h2⟩ := lim
      exact ⟨mc, nsB h1, h2⟩
    have tabs : ∀ t ∈ cs, TabB (hidT s0.heap H) mg t.1 t.2 := by
      intro t ht
      have tT := hT t ht
      refine ⟨?_, ?_, ?_⟩
      · obtain ⟨o, us, fl, tf, fg, tg, inF, tx, tt, e1, q1, q2, q3, q4⟩ := hC t ht
        refine ⟨o, us, fl, tf, fg, tg, inF, tx, tt, hidT_get e1 (out e1 (fun vs n z => ?_) (fun z => ?_)), q1, q2, q3, q4⟩
        · rw [q2] at z
          cases z
        · rw [q2] at z
          cases z
          simp at q3
      · obtain ⟨bm, ob, b1, b2, b3, b4, b5, b6⟩ := hbm
        refine ⟨bm, ob, b1, b2, fun z => ?_, fun z => ?_, hidT_get b3 (out b3 (fun vs n z => ?_) (fun z => ?_)), b4, b5, b6⟩
        · obtain ⟨o, es, ep, e, d, _⟩ := glb
          rw [z, e] at b3
          cases b3
          rw [d] at b6
          cases b6
        · rw [z, tT] at b3
          cases b3
          cases b6
        · rw [b6] at z
          cases z
        · rw [b6] at z
          cases z
      · intro z
        obtain ⟨o, es, ep, e, d, _⟩ := glb
        rw [z, tT] at e
        cases e
        cases d
    have env : Env0 P w K mg (hidT s0.heap H) callerA [] s0 H := by
      refine ⟨rfl, ⟨kB, nsB glb, ⟨mb, nsB blt, bb⟩, limB⟩, fun b o e => of_hidT e, Nat.le_of_eq (hidT_size _ _), trivial, ?_, hok, .of_eq hg⟩
      intro b hb
      cases hb
    have run := (F _ kB (nsB glb) tabs).run callerA [] s0 H ⟨[.ref a], []⟩ [.ref a] [.ref a] _ _ hr rfl env (bind s0 (.ref a)) (.cons rfl .nil) (wish H hHT sq)
    refine codeAny_mono run ?_
    intro res s' h
    match res, h with
    | .error e, h => exact (noX H e s' h).elim
    | .ok .next, h => exact h.elim
    | .ok .brk, h => exact h.elim
    | .ok .cont, h => exact h.elim
    | .ok (.ret u), h =>
      obtain ⟨v, H', os, bare, un, hok', rv, q⟩ := h
      have q' : v = .bl true := q
      subst q'
      have eu : u = Value.bool true := rv
      subst eu
      have old : ∀ b o, b ∉ ts → s0.heap.get? b = some o → s'.heap.get? b = some o := by
        intro b o nb e
        cases z : H b with
        | none => exact un.keep b o e z (fun hb => nomatch hb) (fun hb => nomatch hb)
        | some u =>
          rcases only b with y | y | ⟨ob, xs, y⟩
          · rw [z] at y
            cases y
          · exact absurd y nb
          · obtain ⟨e1, _⟩ := hok b _ y
            obtain ⟨e2, _⟩ := hok' b _ (un.frzs b ob _ y)
            rw [e] at e1
            cases e1
            exact e2
      have grown : ∀ b ∈ ts, ∃ (c : Addr) (more : Array Value), (c, b) ∈ cs ∧ s'.heap.get? b = some { cls := .none, data := .fields more } := by
        intro b hb
        obtain ⟨t, ht, rfl⟩ := List.mem_map.mp hb
        obtain ⟨more, z⟩ := un.tbls t.2 #[] (hHT t ht)
        exact ⟨t.1, _, ht, hok' t.2 _ z⟩
      refine ⟨rfl, ⟨?_, ?_⟩, os, bare⟩
      · intro b o e
        by_cases hb : b ∈ ts
        · obtain ⟨c, more, hc, hm⟩ := grown b hb
          have e2 := tsT b hb
          rw [e] at e2
          cases e2
          exact .inr (.inl ⟨((hC _ hc).tab (hT _ hc)).isCodeTable, rfl, #[], more, rfl, by rw [Array.empty_append]; exact hm⟩)
        · exact .inl (old b o hb e)
      · intro b o e
        by_cases hb : b ∈ ts
        · obtain ⟨c, more, hc, hm⟩ := grown b hb
          exact ⟨_, hm⟩
        · exact ⟨o, old b o hb e⟩
  have put : ∀ (u : Option HO) (b : Addr), (if b = a then u else if b ∈ ts then some (HO.tbl #[]) else none) = if b = a then u else if b ∈ ts then some (HO.tbl #[]) else none := fun _ _ => rfl
  have go : ∀ u : Option HO, (u = none ∨ ∃ o xs, u = some (.frz o (.lst xs))) → SqL K (fun b => if b = a then u else if b ∈ ts then some (HO.tbl #[]) else none) a (ns.map V.int) →
      (∀ o, u = some o → ObjOk P w (fun b => if b = a then u else if b ∈ ts then some (HO.tbl #[]) else none) s0.heap a o) → (u ≠ none → K.lookup a = none) →
      codeAny (model P w) callerA (.call (.ref fa) ⟨[.ref a], []⟩) (fun r s' => r = .ok (.ret (.bool true)) ∧ OldK s0.heap s'.heap ∧ s'.os = s0.os ∧ AllBare s'.gens) s0 := by
    intro u hu sq ok unK
    have atA : (fun b => if b = a then u else if b ∈ ts then some (HO.tbl #[]) else none) a = u := if_pos rfl
    have atT : ∀ b ∈ ts, (fun b => if b = a then u else if b ∈ ts then some (HO.tbl #[]) else none) b = some (.tbl #[]) := fun b hb =>
      (if_neg (fun z => aTs (by rw [← z]; exact hb))).trans (if_pos hb)
    have atN : ∀ b, b ≠ a → b ∉ ts → (fun b => if b = a then u else if b ∈ ts then some (HO.tbl #[]) else none) b = none := fun b h1 h2 => (if_neg h1).trans (if_neg h2)
    refine main _ (fun t ht => atT _ (tsM t ht)) (fun b => ?_) sq (fun b o z => ?_) (fun b z => ?_) (fun z => unK (by rw [← atA]; exact z))
    · by_cases h1 : b = a
      · rw [h1]
        rcases hu with hu | ⟨o, xs, hu⟩
        · exact .inl (atA.trans hu)
        · exact .inr (.inr ⟨o, xs, atA.trans hu⟩)
      · by_cases h2 : b ∈ ts
        · exact .inr (.inl h2)
        · exact .inl (atN b h1 h2)
    · by_cases h1 : b = a
      · rw [h1] at z ⊢
        exact ok o (atA.symm.trans z)
      · by_cases h2 : b ∈ ts
        · have z2 := (atT b h2).symm.trans z
          cases z2
          exact tsT b h2
        · have z2 := (atN b h1 h2).symm.trans z
          cases z2
    · by_cases h1 : b = a
      · exact .inl h1
      · by_cases h2 : b ∈ ts
        · exact .inr h2
        · exact absurd (atN b h1 h2) z
  cases hk : K.lookup a with
  | some o =>
    have e := inK a o hk
    rw [ha] at e
    cases e
    refine go none (.inl rfl) (.inr ⟨_, vs.toArray, _, hk, rfl, rfl, rfl, ?_, by simpa using rel⟩) (fun o z => nomatch z) (fun z => absurd rfl z)
    rw [List.size_toArray, hi.length]
    exact hl
  | none =>
    refine go (some (.frz { cls := .type "list", data := .seq vs.toArray } (.lst (ns.map V.int)))) (.inr ⟨_, _, rfl⟩) (.inl (.inr ⟨{ cls := .type "list", data := .seq vs.toArray }, if_pos rfl⟩)) (fun o z => ?_) (fun _ => hk)
    cases z
    exact ⟨ha, by rw [List.length_map]; exact hl, vs, _, rel, ha⟩
end
end Cf

set_option Elab.async false
set_option linter.all false
set_option maxRecDepth 100000
namespace Cf
open PySem PySem.Spec PyProof.Rows L2
section
variable {X : Cx}
/-- xs[i] of any list, 0 ≤ i -/
theorem ix_la {K : PySem.W.Frag} (e : X.K = K) : IxR X (fun x y H Q => ∃ (p : Addr) (xs : List V) (i : Nat) (v : V), x = .ref p ∧ y = .int (i : Int) ∧ SqL K H p xs ∧ xs[i]? = some v ∧ Q v H) := by
  subst e
  refine ix_imp ix_list fun x y H Q ⟨p, xs, i, v, a, b, c, d, q⟩ => ⟨p, xs, _, v, a, b, c, ?_, q⟩
  have hi : i < xs.length := (List.getElem?_eq_some_iff.mp d).1
  have h1 : ixN xs.length (i : Int) = some i := by
    unfold ixN
    simp
    omega
  unfold atI
  rw [h1]
  exact d
end
end Cf

set_option Elab.async false
set_option linter.all false
set_option maxRecDepth 100000
set_option maxHeartbeats 2000000
namespace Cf
open PySem PySem.Spec PyProof.Rows L2
open LamX (CodeO TabS Tabs ExtN TabB lamEnv lamCx lam_make2)
open PySem.W (keyToks keyToksAll EachIs SortsAt dataKind AllAlike Sortable alike alikeAll)
section
variable {X : Cx} {pins : List (Addr × Obj)} {σ : L2.St} {H : Hp} {s : Shared} {key : Int → Int × Int}
end
section
variable {X : Cx}
end
section
variable {X : Cx}
end
end Cf

set_option Elab.async false
set_option linter.all false
set_option maxRecDepth 100000
namespace Cf
open PySem PySem.Spec PyProof.Rows L2
section
variable {X : Cx}
end
end Cf
namespace Cf
open PySem PySem.Spec PyProof.Rows L2
/-- xs + ys of lists -/
theorem op_catLA {X : Cx} : OpR X (binaryOp .Add) (fun x y H Q => ∃ p q xs ys, x = .ref p ∧ y = .ref q ∧ H p = some (.lst xs) ∧ H q = some (.lst ys) ∧ xs.length + ys.length ≤ sizeLine ∧ New H (.lst (xs ++ ys)) Q) :=
  op_imp op_cat fun x y H Q ⟨p, q, xs, ys, a, b, c, d, l, n⟩ => ⟨p, q, xs, ys, a, b, c, d, l, n.go⟩
end Cf

set_option Elab.async false
set_option linter.all false
set_option maxRecDepth 100000
namespace Cf
open PySem PySem.Spec PyProof.Rows L2
section
variable {X : Cx}
/-- xs[k:] of any list, 0 ≤ k -/
theorem sl_laFrom {K : PySem.W.Frag} (e : X.K = K) : SlR X (fun x lo hi H Q => ∃ p, ∃ xs : List V, ∃ k : Int, x = .ref p ∧ lo = some k ∧ hi = none ∧ SqL K H p xs ∧ 0 ≤ k ∧ New H (.lst (xs.drop k.toNat)) Q) := by
  subst e
  refine sl_imp sl_list fun x lo hi H Q ⟨p, xs, k, a, b, c, d, hk, n⟩ => ?_
  subst a b c
  refine ⟨p, _, rfl, d, ?_⟩
  have e : cutV xs (some k) none = xs.drop k.toNat := by
    have q := cut_drop xs k.toNat
    rw [show ((k.toNat : Nat) : Int) = k by omega] at q
    exact q
  rw [e]
  exact n.go
end
end Cf
namespace Cf
open PySem PySem.Spec PyProof.Rows L2
end Cf

set_option Elab.async false
set_option linter.all false
set_option maxRecDepth 100000
namespace Cf
open PySem PySem.Spec PyProof.Rows L2
section
variable {X : Cx}
end
end Cf

set_option Elab.async false
set_option linter.all false
set_option maxRecDepth 100000
namespace Cf
open PySem PySem.Spec PyProof.Rows L2
/-! sorted of pairs of ints; (x,) * k from 0 on; xs[-1] of any list -/
/-- a list of pairs of ints -/
inductive Pr (H : Hp) : List V → List (Int × Int) → Prop
  | nil : Pr H [] []
  | cons {t : Addr} {i j : Int} {xs : List V} {ps : List (Int × Int)} : H t = some (.tup [.int i, .int j]) → Pr H xs ps → Pr H (.ref t :: xs) ((i, j) :: ps)
section
variable {H H' : Hp} {xs : List V} {ps : List (Int × Int)}
theorem Pr.go (e : ∀ t zs, H t = some (.tup zs) → H' t = some (.tup zs)) : ∀ {xs : List V} {ps : List (Int × Int)}, Pr H xs ps → Pr H' xs ps
  | _, _, .nil => .nil
  | _, _, .cons h t => .cons (e _ _ h) (t.go e)
theorem Pr.kp0 (h : Pr H xs ps) (k : Kp [] H H') : Pr H' xs ps := h.go fun _ _ z => k.at0 z
theorem Pr.md {D : Addr} {ys : List V} (h : Pr H xs ps) (hD : H D = some (.lst ys)) (m : Md D H H') : Pr H' xs ps := h.go fun t zs z => by
  have n : t ≠ D := by
    rintro rfl
    rw [z] at hD
    cases hD
  rw [m t n]
  exact z
theorem Pr.len : ∀ {xs : List V} {ps : List (Int × Int)}, Pr H xs ps → xs.length = ps.length
  | _, _, .nil => rfl
  | _, _, .cons _ t => by rw [List.length_cons, List.length_cons, t.len]
theorem Pr.snoc {t : Addr} {i j : Int} (h : H t = some (.tup [.int i, .int j])) : ∀ {xs : List V} {ps : List (Int × Int)}, Pr H xs ps → Pr H (xs ++ [.ref t]) (ps ++ [(i, j)])
  | _, _, .nil => .cons h .nil
  | _, _, .cons a r => .cons a (r.snoc h)
theorem Pr.get : ∀ {xs : List V} {ps : List (Int × Int)} {i : Nat} {x : V}, Pr H xs ps → xs[i]? = some x → ∃ t, x = .ref t ∧ i < ps.length ∧ H t = some (.tup [.int (ps.getD i (0, 0)).1, .int (ps.getD i (0, 0)).2])
  | _, _, 0, _, .cons h _, e => by
    cases e
    exact ⟨_, rfl, by simp, h⟩
  | _, _, i + 1, _, .cons _ t, e => by
    obtain ⟨u, a, b, c⟩ := t.get (i := i) (by simpa using e)
    exact ⟨u, a, by simpa using b, by simpa using c⟩
/-- what a pair says -/
def kOf (H : Hp) : V → Int × Int
  | .ref t => match H t with
    | some (.tup [.int i, .int j]) => (i, j)
    | _ => (0, 0)
  | _ => (0, 0)
theorem kOf_at {t : Addr} {i j : Int} (h : H t = some (.tup [.int i, .int j])) : kOf H (.ref t) = (i, j) := by
  simp only [kOf, h]
theorem Pr.all : ∀ {xs : List V} {ps : List (Int × Int)}, Pr H xs ps → ∀ x ∈ xs, ∃ t, x = V.ref t ∧ H t = some (.tup [.int (kOf H x).1, .int (kOf H x).2])
  | _, _, .cons h t, x, hx => by
    rcases List.mem_cons.mp hx with z | z
    · subst z
      refine ⟨_, rfl, ?_⟩
      rw [kOf_at h]
      exact h
    · exact t.all x z
theorem Pr.map : ∀ {xs : List V} {ps : List (Int × Int)}, Pr H xs ps → xs.map (kOf H) = ps
  | _, _, .nil => rfl
  | _, _, .cons h t => by rw [List.map_cons, t.map, kOf_at h]
end
section
variable {X : Cx}
end
section
variable {X : Cx}
end
end Cf

set_option Elab.async false
set_option linter.all false
set_option maxRecDepth 100000
namespace Cf
open PySem PySem.Spec PyProof.Rows L2
/-! tuples that have no names of their own: displays, (x,) * k; lists of bools; xs[:k] of any list; tuple(range(n)) -/
section
variable {X : Cx}
/-- xs[:k] of any list -/
theorem sl_laTo {K : PySem.W.Frag} (e : X.K = K) : SlR X (fun x lo hi H Q => ∃ p, ∃ xs : List V, ∃ k : Int, x = .ref p ∧ lo = none ∧ hi = some k ∧ SqL K H p xs ∧ 0 ≤ k ∧ New H (.lst (xs.take k.toNat)) Q) := by
  subst e
  refine sl_imp sl_list fun x lo hi H Q ⟨p, xs, k, a, b, c, d, h0, w⟩ => ⟨p, xs, a, d, fun q nq => ?_⟩
  subst b c
  have e : cutV xs none (some k) = xs.take k.toNat := by
    rw [show k = ((k.toNat : Nat) : Int) by omega]
    rw [cut_take]
    congr 1
  rw [e]
  exact w.go q nq
end
end Cf

set_option Elab.async false
set_option linter.all false
set_option maxRecDepth 100000
namespace Cf
open PySem PySem.Spec PyProof.Rows L2
/-! set(xs), xs a list of ints -/
section
variable {P : Program} {w : World} {A : Around} {E : Value → Shared → Prop} {s : Shared}
end
section
variable {X : Cx}
end
end Cf

set_option Elab.async false
set_option linter.all false
set_option maxRecDepth 100000
namespace Cf
open PySem PySem.Spec PyProof.Rows L2
/-- a test, with what is known behind it said once -/
theorem pt_up {X : Cx} {c : Expr} {t : TT} (h : PT X c t) : PT X c (upT t) := by
  constructor
  rintro pins s σ H Q I ⟨Q0, q, w⟩
  refine thn (h.run pins s σ H Q0 I q) ?_
  rintro b s' ⟨H', I', z⟩
  exact ⟨H', I', w b H' z⟩
end Cf

set_option Elab.async false
set_option linter.all false
set_option maxRecDepth 100000
namespace Cf
open PySem PySem.Spec PyProof.Rows L2
/-! dicts whose keys are tuples of ints -/
theorem hu1 {A : Around} {k : Nat} (hr : Room k A) : A.units + 1 < cLine := by
  have := hr.units
  omega
end Cf

set_option Elab.async false
set_option linter.all false
set_option maxRecDepth 100000
namespace Cf
open PySem PySem.Spec PyProof.Rows L2
/-! rows that are tuples of the program's own -/
inductive Rt (H : Hp) : List V → List (List Int) → Prop
  | nil : Rt H [] []
  | cons {p : Addr} {ns : List Int} {xs : List V} {rs : List (List Int)} : H p = some (.tup (ns.map V.int)) → Rt H xs rs → Rt H (.ref p :: xs) (ns :: rs)
section
variable {H H' : Hp} {xs ys : List V} {rs ts : List (List Int)}
theorem Rt.go (e : ∀ p zs, H p = some (.tup zs) → H' p = some (.tup zs)) : ∀ {xs : List V} {rs : List (List Int)}, Rt H xs rs → Rt H' xs rs
  | _, _, .nil => .nil
  | _, _, .cons h t => .cons (e _ _ h) (t.go e)
theorem Rt.kp0 (h : Rt H xs rs) (k : Kp [] H H') : Rt H' xs rs := h.go fun _ _ z => k.at0 z
theorem Rt.kt {T : List (Addr × Str)} (h : Rt H xs rs) (k : Kt T H H') : Rt H' xs rs := h.go fun _ _ z => k.atT z
theorem Rt.md {D : Addr} {o : HO} (h : Rt H xs rs) (hD : H D = some o) (no : ∀ zs, o ≠ .tup zs) (m : Md D H H') : Rt H' xs rs := h.go fun t zs z => by
  have n : t ≠ D := by
    rintro rfl
    rw [z] at hD
    cases hD
    exact no _ rfl
  rw [m t n]
  exact z
theorem Rt.hand {a : Addr} {zs : List V} (h : Rt H xs rs) (ha : H a = some (.lst zs)) (m : Kp [a] H H') : Rt H' xs rs := h.go fun t ys z => m.at1 (fun w => by rw [w, ha] at z; cases z) z
theorem Rt.len : ∀ {xs : List V} {rs : List (List Int)}, Rt H xs rs → xs.length = rs.length
  | _, _, .nil => rfl
  | _, _, .cons _ t => by rw [List.length_cons, List.length_cons, t.len]
theorem Rt.one {p : Addr} {ns : List Int} (h : H p = some (.tup (ns.map V.int))) : Rt H [.ref p] [ns] := .cons h .nil
theorem Rt.get : ∀ {xs : List V} {rs : List (List Int)} {i : Nat} {x : V}, Rt H xs rs → xs[i]? = some x → ∃ p, x = .ref p ∧ i < rs.length ∧ H p = some (.tup ((rs.getD i []).map V.int))
  | _, _, 0, _, .cons h _, e => by
    cases e
    exact ⟨_, rfl, by simp, h⟩
  | _, _, i + 1, _, .cons _ t, e => by
    obtain ⟨p, a, b, c⟩ := t.get (i := i) (by simpa using e)
    exact ⟨p, a, by simpa using b, by simpa using c⟩
theorem Rt.rw {K : PySem.W.Frag} : ∀ {xs : List V} {rs : List (List Int)}, Rt H xs rs → Rw K H xs rs
  | _, _, .nil => .nil
  | _, _, .cons h t => .cons (sqT h) t.rw
end
section
variable {X : Cx}
end
end Cf

set_option Elab.async false
set_option linter.all false
set_option maxRecDepth 100000
set_option maxHeartbeats 2000000
namespace Cf
open PySem PySem.Spec PyProof.Rows L2
section
variable {X : Cx}
/-! X(), X a class of the program over ValueError (or over another of its classes), without an __init__ -/
theorem pmk_own0 {C : Addr} {bmB : List Value} {B newId initId : String} {x : Str} {p pos : Pos} (F : ExcBaseFacts B newId initId bmB) (q : PySem.W.excIn X.K C bmB newId = true) (gC : X.mg x = some (.ref C)) (kC : PySem.W.keepIn X.K (.ref C) = true) (r : Raises X (.ref C)) (hg : Gl X x)
    (hdb : (x == ("__debug__" : Str)) = false := by decide) : PMk X (.Call (.Name x p) [] [] pos) (fun _ H Q => Q (.ref C) none H) := by
  intro pins s σ H Q I h
  refine wpAny_Call_Name_kw (ld_glob I hg gC ?_ hdb)
  refine PySem.W.callWith_K0 I.kIn kC ?_
  show wpAny _ _ (call (.ref C) []) _ _ _
  obtain ⟨bm, N, nm, qn, bs, hdct, sn, sub, ab, col, dd, k0, k1, k2, k3, k5, mN, hC, hN, hni, T⟩ := exc_obj I.kIn q
  refine wpAny_call_exc_subT F T hC hN hni (fun h' e hm => ?_) (Nat.zero_le _)
  exact mk_of I hm r h (I.hok.gone hm.new)
end
end Cf

set_option Elab.async false
set_option linter.all false
set_option maxRecDepth 100000
set_option maxHeartbeats 2000000
namespace Cf
open PySem PySem.Spec PyProof.Rows L2
open LamX (CodeO TabS Tabs ExtN TabB lamEnv lamCx lam_make2)
section
variable {X : Cx} {pins : List (Addr × Obj)} {σ : L2.St} {H : Hp} {s : Shared}
/-- the lambda, called wherever the def's surroundings stand -/
theorem lam1_callA {k i : Nat} {A : Around} {f c' : Addr} {pm ctv : Value} {params : Arguments} {body : Expr} {scope : Scope} {x : Str} {tb : TE} {v : V} {u : Value} {Q : VK} {E : Value → Shared → Prop}
    (I : L2.Inv X pins σ H s) (L : Lam1 X.env.scope scope x) (hN : X.N.Nodup) (hi : X.N[i]? = some x) (hr2 : Room (k + 1) A) (e0 : Env0 X.prog X.w X.K X.mg X.base A X.stack s H)
    (hf : s.heap.get? f = some (PySem.W.kla_obj "<lambda>" (X.env.qual ++ "<lambda>") params body scope (cloFrom X.env.cells scope.names []) pm c' ctv))
    (hc : ∃ (oc : Obj) (vs : Array Value) (t : Tok), s.heap.get? c' = some oc ∧ oc.data = .fields vs ∧ vs[1]? = some (.str (X.env.qual ++ "<lambda>") t))
    (hbind : bindArgs (PySem.W.kla_fn "<lambda>" (X.env.qual ++ "<lambda>") params body scope (cloFrom X.env.cells scope.names []) pm (.ref c') ctv) ⟨[u], []⟩ = pure [(x, u)])
    (hbody : PE (lamC X A X.stack s H scope f c') body tb) (ru : RelV v u) (ht : tb (σ.set i (some v)) H Q) :
    wpAny (model X.prog X.w) A (call (.ref f) [u]) (fun y s' => ∃ z H', L2.Inv X pins σ H' s' ∧ RelV z y ∧ Q z H' ∧ Un (frs X.stack) [] H H' s.heap s'.heap) E s := by
  obtain ⟨oc, vs, t, hoc, hdc, hvc⟩ := hc
  have run : codeAny (model X.prog X.w) A (.call (.ref f) ⟨[u], []⟩) (CR CX0 X.stack X.prog X.w H s Q E0) s := by
    refine PySem.W.kla_callFunE hr2.depth hf rfl L.co L.gen rfl ⟨c', oc, vs, t, rfl, hoc, hdc, hvc⟩ ?_
    rw [hbind]
    refine wpAny_pure (wpAny_newFunctionEnv (fun y hy => (L.own y hy).1) (fun y hy => ?_) (fun h1 hns hsb => ⟨I.nolimit.fresh _ hsb, ?_⟩) L.kind)
    · rw [List.mem_singleton.mp hy]
      exact L.par
    · show codeAny _ _ (.expr body (lamEnv X scope s.heap.objs.size f c')) _ _
      have kp : ∀ b o, s.heap.get? b = some o → h1.get? b = some o := by
        intro b o e
        exact hsb.extBut b o (Nat.ne_of_lt (Heap.lt_size e)) (Heap.get?_push_of_some _ e)
      have J := lam1_start (f := f) (c' := c') (tk := s.toks + [(x, u)].length) I L hN hi e0 hr2.hd ru hns kp
      refine PySem.W.kla_codeExpr (wpAny_mono (hbody.run [] _ _ H Q J ht) (fun y s' hq => ?_) fun e s' hq => hq.elim)
      obtain ⟨z, H', J', rv, q⟩ := hq
      exact ⟨z, H', J'.os, J'.bare, J'.base, J'.hok, rv, q⟩
  refine wpAny_call (codeAny_mono run fun r s' hq => ?_)
  cases r with
  | error e => exact (show False from hq).elim
  | ok fl =>
    cases fl with
    | ret y =>
      have hq : CE X.stack X.prog X.w H s Q y s' := hq
      have un : ∃ z H', Un (frs X.stack) [] H H' s.heap s'.heap ∧ RelV z y ∧ Q z H' ∧ s'.os = s.os ∧ AllBare s'.gens ∧ HOk X.prog X.w H' s'.heap := by
        obtain ⟨z, H', a1, a2, a3, a4, a5, a6⟩ := hq
        exact ⟨z, H', a3, a5, a6, a1, a2, a4⟩
      obtain ⟨z, H', un, rv, q, os, ba, hk⟩ := un
      have J : EP X pins σ (fun z' H'' => z' = z ∧ H'' = H') y s' := I.after ⟨z, H', os, ba, un, hk, rv, rfl, rfl⟩
      obtain ⟨z', H'', J, rv', ez, eH⟩ := J
      subst ez eH
      exact ⟨_, _, J, rv, q, un⟩
    | next => exact False.elim hq
    | brk => exact False.elim hq
    | cont => exact False.elim hq
end
/-- a list is walked, its items as the hand layer knows them -/
theorem walksV {P : Program} {w : World} {A : Around} (hh : A.handled = none) (I l : Addr) (hne : l ≠ I) (xs : List V) :
    WalksS P w A I [I, l] [I] (fun a b => b = a) xs.length (fun i v => ∃ x, xs[i]? = some x ∧ RelV x v) (fun i s => s.heap.IsListIter I l i ∧ ∃ its : List Value, Vals xs its ∧ s.heap.IsList l its.toArray) where
  sub := fun b hb => by rw [List.mem_singleton.mp hb]; exact List.mem_cons_self
  grefl := fun _ => rfl
  gtrans := fun _ _ _ h1 h2 => h2.trans h1
  frame := fun i s h' tk st _ hk => by
    obtain ⟨a, its, r, b⟩ := st
    exact ⟨a.at fun o e => hk I (by simp) o e, its, r, b.at fun o e => hk l (by simp) o e⟩
  item := fun i s Q E hi st hQ => by
    obtain ⟨a, its, r, b⟩ := st
    refine ((Walks.list (prog := P) (w := w) hh I l hne its.toArray).toS).item i s Q E (by rw [List.size_toArray, ← r.length]; exact hi) ⟨a, b⟩ fun v s' hP st' mv => hQ v s' ?_ ⟨st'.1, its, r, st'.2⟩ mv
    obtain ⟨u, e1, e2⟩ := r.get (List.getElem?_eq_getElem hi)
    have e3 : its[i]? = some v := by simpa using hP
    rw [e3] at e1
    cases e1
    exact ⟨_, List.getElem?_eq_getElem hi, e2⟩
  done := fun s Q E st hQ => by
    obtain ⟨a, its, r, b⟩ := st
    exact ((Walks.list (prog := P) (w := w) hh I l hne its.toArray).toS).done s Q E ⟨by rw [List.size_toArray, ← r.length]; exact a, b⟩ fun s' mv => hQ s' mv
  self := fun i s Q E st hQ => by
    obtain ⟨a, its, r, b⟩ := st
    exact ((Walks.list (prog := P) (w := w) hh I l hne its.toArray).toS).self i s Q E ⟨a, b⟩ hQ

/-- the place of the first least -/
def BestMin (kf : Nat → Int) (n j : Nat) : Prop := ∀ i, i < n → (kf j ≤ kf i) ∧ (i < j → kf j < kf i)
theorem best_min (kf : Nat → Int) : ∀ n, BestMin kf (n + 1) (argBest (fun i j => decide (kf i < kf j)) n) ∧ argBest (fun i j => decide (kf i < kf j)) n ≤ n
  | 0 => by
    refine ⟨fun i hi => ?_, Nat.le_refl _⟩
    have : i = 0 := by omega
    subst this
    simp only [argBest]
    exact ⟨Int.le_refl _, fun h => absurd h (Nat.lt_irrefl _)⟩
  | n + 1 => by
    obtain ⟨h1, h2⟩ := best_min kf n
    simp only [argBest]
    generalize argBest (fun i j => decide (kf i < kf j)) n = b at h1 h2
    by_cases hc : kf (n + 1) < kf b
    · rw [if_pos (decide_eq_true hc)]
      refine ⟨fun i hi => ?_, Nat.le_refl _⟩
      by_cases e : i = n + 1
      · subst e
        exact ⟨Int.le_refl _, fun h => absurd h (Nat.lt_irrefl _)⟩
      · have q := (h1 i (by omega)).1
        exact ⟨by omega, fun _ => by omega⟩
    · rw [if_neg (fun z => hc (of_decide_eq_true z))]
      refine ⟨fun i hi => ?_, by omega⟩
      by_cases e : i = n + 1
      · subst e
        exact ⟨by omega, fun h => by omega⟩
      · exact h1 i (by omega)
section
variable {X : Cx} {pins : List (Addr × Obj)} {σ : L2.St} {H : Hp} {s : Shared}
theorem min_lam {k i : Nat} {l f c' : Addr} {pm ctv : Value} {params : Arguments} {body : Expr} {scope : Scope} {x : Str} {tb : TE} {xs : List V} {kf : Nat → Int} {Q : VK} {E : Value → Shared → Prop}
    (I : L2.Inv X pins σ H s) (L : Lam1 X.env.scope scope x) (hN : X.N.Nodup) (hi : X.N[i]? = some x) (hr : Room (k + 2) X.A)
    (hf : s.heap.get? f = some (PySem.W.kla_obj "<lambda>" (X.env.qual ++ "<lambda>") params body scope (cloFrom X.env.cells scope.names []) pm c' ctv)) (hfn : H f = none) (hfr : f ∉ frs X.stack)
    (hco : H c' = some (CodeO c' (X.env.qual ++ "<lambda>")))
    (hbind : ∀ u : Value, bindArgs (PySem.W.kla_fn "<lambda>" (X.env.qual ++ "<lambda>") params body scope (cloFrom X.env.cells scope.names []) pm (.ref c') ctv) ⟨[u], []⟩ = pure [(x, u)])
    (hbody : ∀ (s : Shared) (H : Hp), PE (lamC X X.A.in1 X.stack s H scope f c') body tb)
    (hq : SqL X.K H l xs) (hne : 0 < xs.length)
    (turn : ∀ j v, xs[j]? = some v → ∀ H', Kp [] H H' → tb (σ.set i (some v)) H' fun y H2 => Kp [] H' H2 ∧ y = .int (kf j))
    (h : ∀ j v H', xs[j]? = some v → BestMin kf xs.length j → Kp [] H H' → Q v H') :
    wpAny (model X.prog X.w) X.A (call (.builtin "min") [.ref l] [(Str.ofString "key", .ref f)]) (EP X pins σ Q) E s := by
  obtain ⟨its, rv, pl, hz⟩ := I.list hq
  have hll : l < s.heap.objs.size := by
    obtain ⟨o, ho, _⟩ := pl.isList
    exact Heap.lt_size ho
  have hfl : f < s.heap.objs.size := Heap.lt_size hf
  refine call_min_walkK (wpAny_pyIter_list pl.isList ?_)
  have size1 : (s.heap.push { cls := .type "list_iterator", data := .fields #[.ref l, .int 0 0] }).objs.size = s.heap.objs.size + 1 := Heap.size_push ..
  have fI : FpOk X pins H s.heap.objs.size := I.fpOk (Nat.le_refl _) (I.hok.fresh (Nat.le_refl _))
  have fS : FpOk X pins H (s.heap.objs.size + 1) := I.fpOk (by omega) (I.hok.fresh (by omega))
  have hh : X.A.in1.handled = none := hr.in1.hd
  refine ⟨s.heap.objs.size, _, _, _, _, _, _, fun s' => ∃ H', L2.Inv X pins σ H' s' ∧ Kp [] H H' ∧
      s'.heap.get? f = some (PySem.W.kla_obj "<lambda>" (X.env.qual ++ "<lambda>") params body scope (cloFrom X.env.cells scope.names []) pm c' ctv) ∧ H' f = none ∧ H' s.heap.objs.size = none ∧ H' (s.heap.objs.size + 1) = none,
    fun j y _ => ∃ t, y = .int (kf j) t, fun i j => decide (kf i < kf j), rfl, walksV hh s.heap.objs.size l (Nat.ne_of_lt hll) xs, ⟨⟨_, Heap.get?_push_size _ rfl, rfl, rfl⟩, its, rv, pl.isList.push _⟩, fun b hb => ?_, hne, ?_, ?_, ?_⟩
  · rw [size1]
    simp only [List.mem_cons, List.not_mem_nil, or_false] at hb
    rcases hb with z | z
    · rw [z]; exact Nat.lt_succ_self _
    · rw [z]; exact Nat.lt_succ_of_lt hll
  · show KeyRun _ _ _ _ _ (s.heap.push _).objs.size _ _ _ _ _ _ _ _
    rw [size1]
    refine ⟨?_, fun j y s1 s2 z _ => z, ?_, ?_⟩
    · rintro s1 s2 ⟨H', J, kp, jf, nf, nI, nS⟩ mv
      have e2 : s2 = { s1 with heap := s2.heap, toks := s2.toks } := by
        obtain ⟨_, g, d, o, _⟩ := mv
        cases s1
        cases s2
        simp only at g d o
        subst g d o
        rfl
      rw [e2]
      refine ⟨H', J.turnedL (ch := [s.heap.objs.size + 1, s.heap.objs.size]) (fun b o hb q => mv.heap b o hb q) (fun b hb => ?_), kp, mv.heap f _ (fun z => ?_) jf, nf, nI, nS⟩
      · simp only [List.mem_cons, List.not_mem_nil, or_false] at hb
        rcases hb with z | z
        · rw [z]; exact fp_at fS nS
        · rw [z]; exact fp_at fI nI
      · simp only [List.mem_cons, List.not_mem_nil, or_false] at z
        rcases z with z | z
        · exact absurd z (Nat.ne_of_lt (Nat.lt_succ_of_lt hfl))
        · exact absurd z (Nat.ne_of_lt hfl)
    · rintro j v s1 o Q1 E1 hj ⟨x1, hx1, rx1⟩ ⟨H', J, kp, jf, nf, nI, nS⟩ ⟨hit, its1, rv1, hl1⟩ hS w1
      obtain ⟨⟨oc, cvs, tq, q1, q2, q3⟩, _, _⟩ := J.hok c' _ (kp.at0 hco)
      refine wpAny_mono (lam1_callA (k := k) J L hN hi hr.in1 J.env0.in1 jf ⟨oc, cvs, tq, q1, q2, q3⟩ (hbind _) (hbody s1 H') rx1 (turn j x1 hx1 H' kp)) (fun y s2 hy => ?_) fun _ _ z => z
      obtain ⟨z, H2, J2, rz, ⟨k2, ez⟩, un⟩ := hy
      subst ez
      obtain ⟨t, rfl⟩ := rz
      have fIJ := out_frs J (fp_at fI nI)
      have fSJ := out_frs J (fp_at fS nS)
      have kp2 := kp.trans k2
      obtain ⟨its2, rv2, pl2, _⟩ := J2.list (kp2.lst0 hq)
      have nI2 : H2 s.heap.objs.size = none := by
        obtain ⟨oi, hoi, _⟩ := id hit
        exact un.free _ _ hoi nI (by simp)
      refine w1 _ s2 ⟨H2, J2, kp2, un.keep f _ jf nf hfr (by simp), un.free f _ jf nf (by simp), nI2, un.free _ _ hS nS (by simp)⟩ ⟨hit.at fun o e => un.keep _ o e nI fIJ (by simp), its2, rv2, pl2.isList⟩ (un.keep _ _ hS nS fSJ (by simp)) ⟨t, rfl⟩ fun j' k' z => z
    · rintro i j ki kj s1 Q1 E1 _ ⟨ti, rfl⟩ ⟨tj, rfl⟩ hQ
      exact CmpOf.ints_lt (prog := X.prog) (w := X.w) (A := X.A.in1) (P := fun i v => ∃ t, v = .int (kf i) t) kf (fun i v h => h) i j _ _ _ _ _ ⟨ti, rfl⟩ ⟨tj, rfl⟩ hQ
  · refine ⟨H, I.kept (t' := s.toks) (fun b o q => Heap.get?_push_of_some _ q), Kp.refl, Heap.get?_push_of_some _ hf, hfn, fI.1, fS.1⟩
  · rintro v s' ⟨x1, hx1, rx1⟩ ⟨H', J, kp, _⟩
    have b := (best_min kf (xs.length - 1)).1
    rw [show xs.length - 1 + 1 = xs.length by omega] at b
    exact ⟨x1, H', J, rx1, h _ x1 H' hx1 b kp⟩
end
/-- min(xs, key=lambda x: ..) -/
def tMinK (T : List (Addr × Str)) (K : PySem.W.Frag) (i : Nat) (ta : TA) (tb : TE) : TE := fun σ H Q => ta σ H fun vs H1 => ∃ (p : Addr) (xs : List V), vs = [.ref p] ∧ SqL K H1 p xs ∧ 0 < xs.length ∧ Tabs T H1 ∧
  ∀ H2, Kt T H1 H2 → ∃ kf : Nat → Int, (∀ j v, xs[j]? = some v → ∀ H', Kp [] H2 H' → tb (σ.set i (some v)) H' fun y H3 => Kp [] H' H3 ∧ y = .int (kf j)) ∧
    ∀ j v H3, xs[j]? = some v → BestMin kf xs.length j → Kp [] H2 H3 → Q v H3
section
variable {X : Cx}
theorem pe_minK {T : List (Addr × Str)} {K : PySem.W.Frag} {c P : Addr} {k i : Nat} {x : Str} {e : Expr} {ta : TA} {tb : TE} {params : Arguments} {body : Expr} {scope : Scope} {p lpos kpos pos : Pos} (eK : X.K = K)
    (TB : TabB X.base X.mg c P) (hcode : X.env.code = .ref c) (hmT : (P, X.env.qual ++ "<lambda>") ∈ T) (hu : ∀ r ∈ T, r.1 = P → r.2 = X.env.qual ++ "<lambda>") (hr : Room (k + 2) X.A) (L : Lam1 X.env.scope scope x) (hN : X.N.Nodup) (hi : X.N[i]? = some x)
    (hdef : defaultsOf params X.env = ([], []))
    (hbind : ∀ (q : Str) (cl : List (Str × Addr)) (pm cv ctv u : Value), bindArgs (PySem.W.kla_fn "<lambda>" q params body scope cl pm cv ctv) ⟨[u], []⟩ = pure [(x, u)])
    (hbody : ∀ (s : Shared) (H : Hp) (f c' : Addr), PE (lamC X X.A.in1 X.stack s H scope f c') body tb)
    (hg : Gl X "min") (hm : X.mg "min" = none) (ha : PA X [e] ta)
    (he : backTo pos (starEach [e] X.env) = (false, eval e X.env) :: backTo pos (starEach [] X.env) := by rfl) (hpl : (backTo pos (starEach [e] X.env)).any (·.1) = false := by rfl)
    (hall : (backToKw pos (keywordEach [⟨some "key", .Lambda params body scope lpos, kpos⟩] X.env)).all (·.1.isSome) = true := by rfl) (hno : (backToKw pos (keywordEach [⟨some "key", .Lambda params body scope lpos, kpos⟩] X.env)).any (·.1.isNone) = false := by rfl)
    (hks : (backToKw pos (keywordEach [⟨some "key", .Lambda params body scope lpos, kpos⟩] X.env)).filterMap (·.1) = [Str.ofString "key"] := by rfl) :
    PE X (.Call (.Name "min" p) [e] [⟨some "key", .Lambda params body scope lpos, kpos⟩] pos) (tMinK T K i ta tb) := by
  subst eK
  refine ⟨fun pins s σ H Q I h => ?_⟩
  refine wpAny_Call_Name_kw (ld_blt I hg hm boot_min ?_)
  refine PyProof.Rows.callWith_kw (thn (ha.run pos pins s σ H _ I h) ?_) he hpl hall hno
  rintro us s1 ⟨vs, H1, I1, r1, pl, xs, ev, hq, hne, hT, w⟩
  subst ev
  obtain ⟨u, rfl, ru⟩ := vals1 r1
  cases ru
  show wpAny _ _ (evalAll ((do let v ← eval (.Lambda params body scope lpos) X.env; standAt pos; pure v) :: (backToKw pos (keywordEach [] X.env)).map (·.2))) _ _ s1
  refine wpAny_evalAll_cons (wpAny_bind ?_)
  refine lam_make2 I1 TB hcode hmT hu hT hdef (fun y hy ey => ?_) fun f c' pm ctv H2 s2 I2 eN T2 hf hfn hfr hco => ?_
  · rcases L.free y hy ey with z | z
    · exact I1.ok.has _ (.inl z)
    · exact I1.ok.has _ (.inr z)
  refine wpAny_bind (wpAny_standAt (wpAny_pure (wpAny_evalAll_nil ?_)))
  rw [hks]
  show wpAny _ _ (call (.builtin "min") [.ref pl] [(Str.ofString "key", .ref f)]) _ _ s2
  have kt : Kt T H1 H2 := ⟨eN, fun _ => T2⟩
  obtain ⟨kf, wt, wq⟩ := w H2 kt
  exact min_lam (k := k) (kf := kf) I2 L hN hi hr hf hfn hfr hco (fun u => hbind _ _ _ _ _ u) (fun s H => hbody s H f c') (kt.lst0 hq) hne wt wq
end

section
variable {X : Cx} {pins : List (Addr × Obj)} {σ : L2.St} {H : Hp} {s : Shared}
end
section
variable {X : Cx}
end
end Cf

set_option Elab.async false
set_option linter.all false
set_option maxRecDepth 100000
set_option maxHeartbeats 2000000
namespace Cf
open PySem PySem.Spec PyProof.Rows L2
/-! dicts of ints by ints -/
theorem Kt.atD {T : List (Addr × Str)} {H H1 : Hp} {p : Addr} {ks : List (Key × V)} (a : Kt T H H1) (h : H p = some (.dK ks)) : H1 p = some (.dK ks) := a.ext p _ h fun _ w => nomatch w
section
variable {X : Cx}
end
end Cf

set_option Elab.async false
set_option linter.all false
set_option maxRecDepth 100000
set_option maxHeartbeats 2000000
namespace Cf
open PySem PySem.Spec PyProof.Rows L2
section
variable {X : Cx}
end
end Cf

set_option Elab.async false
set_option linter.all false
set_option maxRecDepth 100000
set_option maxHeartbeats 2000000
namespace Cf
open PySem PySem.Spec PyProof.Rows L2
/-! [e for x in .. for y in ..] by walks -/
section
variable {X : Cx}
end
end Cf

set_option Elab.async false
set_option linter.all false
set_option maxRecDepth 100000
set_option maxHeartbeats 2000000
namespace Cf
open PySem PySem.Spec PyProof.Rows L2
section
variable {X : Cx}
end
end Cf

set_option Elab.async false
set_option linter.all false
set_option maxRecDepth 100000
set_option maxHeartbeats 2000000
namespace Cf
open PySem PySem.Spec PyProof.Rows L2
section
variable {prog : Program} {w : World} {A : Around} {E : Value → Shared → Prop} {s : Shared}
end
section
variable {X : Cx}
end
end Cf

set_option Elab.async false
set_option linter.all false
set_option maxRecDepth 100000
set_option maxHeartbeats 2000000
namespace Cf
open PySem PySem.Spec PyProof.Rows L2
section
variable {X : Cx}
end
end Cf

set_option Elab.async false
set_option linter.all false
set_option maxRecDepth 100000
set_option maxHeartbeats 2000000
namespace Cf
open PySem PySem.Spec PyProof.Rows L2
/-! ### dicts of ints by tuples of ints -/
/-! ### rows: pairs of an int and a tuple of ints -/
inductive Rr (H : Hp) : List V → List (Int × List Int) → Prop
  | nil : Rr H [] []
  | cons {t u : Addr} {m : Int} {ns : List Int} {xs : List V} {rs : List (Int × List Int)} : H t = some (.tup [.int m, .ref u]) → H u = some (.tup (ns.map V.int)) → Rr H xs rs → Rr H (.ref t :: xs) ((m, ns) :: rs)
section
variable {H H' : Hp} {xs ys : List V} {rs ts : List (Int × List Int)}
theorem Rr.go (e : ∀ p zs, H p = some (.tup zs) → H' p = some (.tup zs)) : ∀ {xs : List V} {rs : List (Int × List Int)}, Rr H xs rs → Rr H' xs rs
  | _, _, .nil => .nil
  | _, _, .cons a b r => .cons (e _ _ a) (e _ _ b) (Rr.go e r)
theorem Rr.kp0 (h : Rr H xs rs) (k : Kp [] H H') : Rr H' xs rs := h.go fun _ _ z => k.at0 z
theorem Rr.kt {T : List (Addr × Str)} (h : Rr H xs rs) (k : Kt T H H') : Rr H' xs rs := h.go fun _ _ z => k.atT z
theorem Rr.md {D : Addr} {o : HO} (h : Rr H xs rs) (hD : H D = some o) (no : ∀ zs, o ≠ .tup zs) (m : Md D H H') : Rr H' xs rs := h.go fun t zs z => by
  rw [m t (fun w => by rw [w, hD] at z; cases z; exact no _ rfl)]
  exact z
theorem Rr.hand {a : Addr} {zs : List V} (h : Rr H xs rs) (ha : H a = some (.lst zs)) (m : Kp [a] H H') : Rr H' xs rs := h.go fun t ys z => m.at1 (fun w => by rw [w, ha] at z; cases z) z
theorem Rr.len : ∀ {xs : List V} {rs : List (Int × List Int)}, Rr H xs rs → xs.length = rs.length
  | _, _, .nil => rfl
  | _, _, .cons _ _ r => congrArg (· + 1) r.len
theorem Rr.one {p u : Addr} {m : Int} {ns : List Int} (h : H p = some (.tup [.int m, .ref u])) (hu : H u = some (.tup (ns.map V.int))) : Rr H [.ref p] [(m, ns)] := .cons h hu .nil
theorem Rr.get : ∀ {xs : List V} {rs : List (Int × List Int)} {i : Nat} {x : V}, Rr H xs rs → xs[i]? = some x → ∃ p u, x = .ref p ∧ i < rs.length ∧ H p = some (.tup [.int (rs.getD i (0, [])).1, .ref u]) ∧ H u = some (.tup ((rs.getD i (0, [])).2.map V.int))
  | _, _, 0, _, .cons a b r, e => by
    cases e
    exact ⟨_, _, rfl, Nat.succ_pos _, a, b⟩
  | _, _, i + 1, _, .cons a b r, e => by
    obtain ⟨p, u, h1, h2, h3, h4⟩ := Rr.get (i := i) r e
    exact ⟨p, u, h1, Nat.succ_lt_succ h2, h3, h4⟩
end
/-! ### d.items(), d with tuples as keys -/
section
variable {P : Program} {w : World} {K : PySem.W.Frag} {d : Addr} {o : Obj} {es : Array DictEntry} {ep : Nat}
end
/-! ### sorted(d) -/
section
variable {X : Cx}
end
end Cf

set_option Elab.async false
set_option linter.all false
set_option maxRecDepth 100000
set_option maxHeartbeats 2000000
namespace Cf
open PySem PySem.Spec PyProof.Rows L2
/-! ### data of any kind: what its type is -/
def isI : V → Bool
  | .int _ => true
  | _ => false
def btw (v : V) (a b : Int) : Bool := match v with
  | .int i => decide (a ≤ i ∧ i ≤ b)
  | _ => false
/-- a value whose type is known, an int or not, a tuple or not -/
def Kn (K : PySem.W.Frag) (H : Hp) (v : V) : Prop := ∃ (c : String) (b1 b2 : Bool), TyX K H v (.type c) ∧ kitB c "int" = some b1 ∧ kitB c "bool" = some b2 ∧ (b1 && !b2) = isI v
theorem Kn.int {K : PySem.W.Frag} {H : Hp} (i : Int) : Kn K H (.int i) := ⟨"int", true, false, .base (.int i), by decide +kernel, by decide +kernel, rfl⟩
theorem Kn.bl {K : PySem.W.Frag} {H : Hp} (b : Bool) : Kn K H (.bl b) := ⟨"bool", true, true, .base (.bl b), by decide +kernel, by decide +kernel, rfl⟩
theorem Kn.non {K : PySem.W.Frag} {H : Hp} : Kn K H .non := ⟨"NoneType", false, false, .base .non, by decide +kernel, by decide +kernel, rfl⟩
theorem Kn.str {K : PySem.W.Frag} {H : Hp} (x : Str) : Kn K H (.str x) := ⟨"str", false, false, .base (.str x), by decide +kernel, by decide +kernel, rfl⟩
theorem Kn.tup {K : PySem.W.Frag} {H : Hp} {p : Addr} {xs : List V} (h : SqT K H p xs) : Kn K H (.ref p) := ⟨"tuple", false, false, ty_tup h, by decide +kernel, by decide +kernel, rfl⟩
theorem ty_lst {K : PySem.W.Frag} {H : Hp} {p : Addr} {xs : List V} (h : SqL K H p xs) : TyX K H (.ref p) (.type "list") := by
  rcases h with (h | ⟨o, h⟩) | ⟨o, its, n, hk, hc, _⟩
  · exact .base (.lst h)
  · exact .base (.frz h)
  · exact .kList hk hc
theorem Kn.lst {K : PySem.W.Frag} {H : Hp} {p : Addr} {xs : List V} (h : SqL K H p xs) : Kn K H (.ref p) := ⟨"list", false, false, ty_lst h, by decide +kernel, by decide +kernel, rfl⟩
theorem Kn.dK {K : PySem.W.Frag} {H : Hp} {p : Addr} {kvs : List (Key × V)} (h : H p = some (.dK kvs)) : Kn K H (.ref p) := ⟨"dict", false, false, .base (.dK h), by decide +kernel, by decide +kernel, rfl⟩
theorem Kn.dT {K : PySem.W.Frag} {H : Hp} {p : Addr} {kvs : List (List Key × V)} (h : H p = some (.dT kvs)) : Kn K H (.ref p) := ⟨"dict", false, false, .base (.dT h), by decide +kernel, by decide +kernel, rfl⟩
section
variable {X : Cx}
/-- t[i], t a tuple of anything -/
theorem ix_taN {K : PySem.W.Frag} (e : X.K = K) : IxR X (fun x y H Q => ∃ (p : Addr) (xs : List V) (i : Nat) (v : V), x = .ref p ∧ y = .int (i : Int) ∧ SqT K H p xs ∧ xs[i]? = some v ∧ Q v H) := by
  subst e
  refine ix_imp ix_tup fun x y H Q ⟨p, xs, i, v, a, b, c, d, q⟩ => ⟨p, xs, _, v, a, b, c, ?_, q⟩
  exact atI_nat d
/-- t[k:], t a tuple of anything, 1 ≤ k -/
theorem sl_taFrom {K : PySem.W.Frag} (e : X.K = K) : SlR X (fun x lo hi H Q => ∃ p, ∃ xs : List V, ∃ k : Nat, x = .ref p ∧ lo = some (k : Int) ∧ hi = none ∧ SqT K H p xs ∧ 1 ≤ k ∧ 0 < xs.length ∧ New H (.tup (xs.drop k)) Q) := by
  subst e
  refine sl_imp sl_tup fun x lo hi H Q ⟨p, xs, k, a, b, c, d, hk, hx, n⟩ => ?_
  subst a b c
  refine ⟨p, _, rfl, d, ?_, ?_⟩
  · rintro ⟨z, _⟩
    rw [HT.sIx_nat] at z
    omega
  · rw [cut_drop xs k]
    exact n.go
theorem op_neDK {K : PySem.W.Frag} (e : X.K = K) {k : Nat} (hr : Room k X.A) : OpR X (compareOp .NotEq) (rNeD K) := by
  subst e
  exact op_neD hr.units
end
end Cf

set_option Elab.async false
set_option linter.all false
set_option maxRecDepth 100000
set_option maxHeartbeats 2000000
namespace Cf
open PySem PySem.Spec PyProof.Rows L2
section
variable {P : Program} {w : World} {K : PySem.W.Frag} {mg : Str → Option Value} {base : Heap}
/-- a def that may let exceptions of the program out -/
theorem okX {k : Nat} {x qual : Str} {st : Stmt} {f : Addr} {fd : FuncData}
    {N ps : List Str} {sp : Sp} (F : Fun K x qual st f fd) (S : FnScope N ps (defScope st))
    (len : ∀ vs H Q E, sp vs H Q E → vs.length = ps.length)
    (body : ∀ (cdv : Value) (A : Around) (outer : List Env) (s : Shared) (H : Hp) (vs : List V) (Q : VK) (E : XK),
      (A.deeper (envOfC qual (defScope st) s.heap.objs.size f cdv)).guards = some [] → Room k (A.deeper (envOfC qual (defScope st) s.heap.objs.size f cdv)) → sp vs H Q E →
      ∃ t, PSs (cxOf (L2.CX P w) P w K mg base N qual (defScope st) f cdv A outer s H E) (defBody st) t ∧
        t { nx := fun _ H' => Q .non H', rt := Q } (start N vs) H) :
    FnG P w K mg base (L2.CX P w) (k + 1) f fd ps sp :=
  fnG_of F S len fun cd A o s H vs Q E g hr q => body cd A o s H vs Q E g hr q
/-- a class of the program over ValueError -/
structure ExA (K : PySem.W.Frag) (mg : Str → Option Value) (nm : Str) (C : Addr) : Prop where
  x : PySem.W.excIn K C [.type "ValueError", .type "Exception", .type "BaseException", .type "object"] "ValueError.__new__" = true
  g : mg nm = some (.ref C)
  k : PySem.W.keepIn K (.ref C) = true
  b : PySem.W.subIn K (.ref C) (.type "BaseException") = some true
  t : PySem.W.typeIn K (.ref C) = some (.type "type")
end
section
variable {X : Cx}
theorem passF : Passes (L2.CX X.prog X.w) X (fun _ _ _ => False) := fun _ _ _ _ _ _ _ ⟨_, _, _, _, _, _, _, _, _, _, _, _, z⟩ => z.elim
/-- a def called where what it lets out is taken -/
theorem pe_clS {CX : CXT} {k n : Nat} {sp : Sp} {E : L2.St → XK} {x : Str} {p pos : Pos} {e : Expr} {es : List Expr} {t : TA} (C : Cl X.prog X.w X.K X.mg X.base CX k x n sp) (hr : Room k X.A) (hgd : X.A.guards = some [])
    (hx : ∀ σ, PassesAt CX X σ (E σ)) (hg : Gl X x) (ha : PA X (e :: es) t)
    (hdb : (x == ("__debug__" : Str)) = false := by decide)
    (he : starEach (e :: es) X.env = (false, eval e X.env) :: starEach es X.env := by rfl)
    (hpl : (backTo pos (starEach es X.env)).any (·.1) = false := by rfl) :
    PE X (.Call (.Name x p) (e :: es) [] pos) (tCallS sp E t) := by
  obtain ⟨f, fd, ps, F, hm, hk, hb⟩ := C.ex
  constructor
  intro pins s σ H Q I h
  refine wpAny_Call_Name_kw (ld_glob I hg hm ?_ hdb)
  refine PySem.W.callWith_K (h₀ := X.base) I.ok.mod.kin hk
    (thn (ha.run pos pins s σ H _ I h) ?_) he hpl
  rintro us s1 ⟨vs, H1, I1, r, q⟩
  refine ⟨I1.kIn, ?_⟩
  have q' : sp vs H1 Q (E σ) := q
  have hl : us.length = ps.length := by
    rw [← r.length]
    exact F.len _ _ _ _ q'
  have hb' := hb s1 us I1.kIn (by rw [List.append_nil]; exact hl)
  rw [List.append_nil] at hb'
  refine wpAny_call (codeAny_mono (F.run X.A X.stack s1 H1 ⟨us, []⟩ us vs Q (E σ) hr hgd I1.env0 hb' r q') ?_)
  intro res s' hq
  match res, hq with
  | .error er, hq => exact hx σ pins H1 s1 er s' I1 hq
  | .ok (.ret u), hq => exact I1.after hq
  | .ok .next, hq => exact hq.elim
  | .ok .brk, hq => exact hq.elim
  | .ok .cont, hq => exact hq.elim
/-! ### a caught exception that is kept by a name behind its suite -/
/-- an exception object that was caught: its class, its own dict -/
def ExK (cls : Value) (d : Option Addr) (a : Addr) : HO := .ext fun h => ∃ (oe : Obj) (vs : Array Value), h.get? a = some oe ∧ Zc cls d oe ∧ oe.data = .fields vs
/-- an object that nothing spoke of is known from here on -/
theorem known {pins : List (Addr × Obj)} {σ : L2.St} {H : Hp} {s : Shared} {a : Addr} {oe : Obj} {cls : Value} {d : Option Addr} {vs : Array Value} (I : Inv X pins σ H s) (ha : s.heap.get? a = some oe) (hz : Zc cls d oe) (hd : oe.data = .fields vs) (na : H a = none)
    (n0 : ∀ o, X.s_0.heap.get? a ≠ some o) (nL : X.env.locals ≠ a) (nC : ∀ x c, X.env.cells.lookup x = some c → c ≠ a) (nP : ∀ p ∈ X.pn ++ pins, p.1 ≠ a) : Inv X pins σ (upd H a (ExK cls d a)) s := by
  have old : ∀ b o, X.s_0.heap.get? b = some o → b ≠ a := fun b o e z => n0 o (z ▸ e)
  have stays : ∀ b u, H b = some u → upd H a (ExK cls d a) b = some u := fun b u e => (upd_ne (ne_of_none e na)).trans e
  have new : ObjOk X.prog X.w (upd H a (ExK cls d a)) s.heap a (ExK cls d a) := ⟨⟨oe, vs, ha, hz, hd⟩, ⟨oe, ha⟩, fun _ _ ⟨o, v, q, r⟩ k => ⟨o, v, k o q, r⟩⟩
  have u := I.base
  refine ⟨I.ok, I.os, I.bare, ⟨u.keep, u.slot, fun b o e n hx => (upd_ne (old b o e)).trans (u.free b o e n hx), u.there, fun b xs e => stays _ _ (u.tups b xs e), fun b o v e => stays _ _ (u.frzs b o v e), fun b ps e => ?_⟩, I.loc, I.cell, (upd_ne nL).trans I.free, fun x c e => (upd_ne (nC x c e)).trans (I.freeC x c e), fun p hp => ?_, I.hok.laidN (fun _ _ e => e) na new, I.len⟩
  · obtain ⟨more, e2⟩ := u.tbls b ps e
    exact ⟨more, stays _ _ e2⟩
  · obtain ⟨e1, e2, e3⟩ := I.pin p hp
    exact ⟨e1, (upd_ne (nP p hp)).trans e2, e3⟩
/-- the ends of such a suite -/
def kEnds (i : Nat) (a : Addr) (cls : Value) (d : Option Addr) (D : Ends) : Ends :=
  { nx := fun σ H => H a = none → D.nx (σ.set i none) (upd H a (ExK cls d a)), rt := D.rt, bk := fun σ H => D.bk (σ.set i none) H, ct := fun σ H => D.ct (σ.set i none) H }
/-- what the clause wants of each exception: it is the clause's, and behind the suite it is known -/
def wKeep (K : PySem.W.Frag) (c : Value) (i : Nat) (ts : Addr → Value → Option Addr → TS) (D : Ends) : WX := fun cls d σ H =>
  PySem.W.exmOne K cls c = some true ∧ ∀ a, H a = none → ts a cls d (kEnds i a cls d D) (σ.set i (some (.ref a))) H
theorem ps_try_keep {x n : Str} {c : Value} {i : Nat} {body suite : List Stmt} {b₀ : Stmt} {np pos pos' : Pos} {tb : WX → TS} {ts : Addr → Value → Option Addr → TS}
    (hs : X.stack = X.env :: X.outer) (hf : X.env.frame = some X.env.locals) (hex : X.ex = []) (hN : X.N.Nodup) (hi : X.N[i]? = some n) (hln : X.env.kindOf n = some .local) (hg : Gl X x) (hmg : X.mg x = some c) (hdb : (x == ("__debug__" : Str)) = false)
    (hb : ∀ (W : WX) (pn : List (Addr × Obj)) (xe : Value → Shared → Prop), Takes (X.tr pn xe) W → PassesOwn (model X.prog X.w) X.A X.env xe → PSs (X.tr pn xe) body (tb W))
    (hsu : ∀ (a : Addr) (oe : Obj) (cls : Value) (d : Option Addr) (pn : List (Addr × Obj)), Zc cls d oe → (∃ vs, oe.data = .fields vs) → PSs (X.suite a ((a, oe) :: pn)) (b₀ :: suite) (ts a cls d)) :
    PS X (.Try body [.ExceptHandler (some (.Name x np)) (some n) (b₀ :: suite) pos'] [] [] pos) (fun D σ H => tb (wKeep X.K c i ts D) D σ H) := by
  constructor
  intro pins s σ H D I h
  have ok := I.ok
  have frames : X.A.frames = some (X.env :: X.outer) := ok.frames.trans (by rw [hs])
  refine wpAny_Try_except (wpAny_mono ((hb (wKeep X.K c i ts D) (X.pn ++ pins) _ ?tk PassesOwn.looking).run [] s σ H D (I.toTry _) h) ?nm (fun _ _ z => z))
  case nm =>
    intro f s1 hsp
    match f, hsp with
    | .next, ⟨σ1, H1, J1, q⟩ => exact wpAny_execs_nil ⟨σ1, H1, J1.ofTry ok, q⟩
    | .brk, ⟨σ1, H1, J1, q⟩ => exact ⟨σ1, H1, J1.ofTry ok, q⟩
    | .cont, ⟨σ1, H1, J1, q⟩ => exact ⟨σ1, H1, J1.ofTry ok, q⟩
    | .ret u, ⟨v, σ1, H1, J1, r, q⟩ => exact ⟨v, σ1, H1, J1.ofTry ok, r, q⟩
  case tk =>
    intro u s1 xx
    obtain ⟨a, B, sI, pinsI, σI, HI, cls, d, rfl, JI, nb, up, sky, na, os, ag, hm, hy⟩ := xx
    have J : Inv X pins σI HI sI := JI.ofTry ok
    have sky' : Sky B (X.env :: X.outer) a (Zc cls d) X.env.locals s1.heap := hs ▸ sky
    -- it comes down
    refine Sky.land Zc.steady frames hf sky' fun h3 fl3 up3 => ?_
    obtain ⟨o3, v3, e3, z3, d3⟩ := fl3.there
    have nfr : a ∉ frs (X.env :: X.outer) := fun hin => by
      obtain ⟨_, o', e', nf⟩ := fl3.2.2.1.mem hin
      exact nf v3 (by rw [← Option.some.inj (e3.symm.trans e')]; exact d3)
    have nL : X.env.locals ≠ a := fun z => nfr (List.mem_filterMap.mpr ⟨X.env, List.mem_cons_self, by rw [hf, z]⟩)
    have nF : a ∉ X.fs := fun hin => by
      obtain ⟨e, he, q⟩ := List.mem_filterMap.mp hin
      exact nfr (List.mem_filterMap.mpr ⟨e, List.mem_cons_of_mem _ he, q⟩)
    -- it is new
    have nI : ∀ o, sI.heap.get? a ≠ some o := fun o e => by
      have q := nb a o e (by rw [show (X.tr (X.pn ++ pins) _).stack = X.env :: X.outer from hs]; exact nfr)
      rw [fl3.2.1] at q
      cases q
    have n0 : ∀ o, X.s_0.heap.get? a ≠ some o := fun o e => by
      obtain ⟨o', e'⟩ := J.base.there a o e (by rw [hex]; exact List.not_mem_nil)
      exact nI o' e'
    have nC : ∀ x c, X.env.cells.lookup x = some c → c ≠ a := fun x c e z => by
      obtain ⟨v, o, ho, _⟩ := J.cell x c e
      exact nI o (z ▸ ho)
    have nP : ∀ p ∈ X.pn ++ pins, p.1 ≠ a := fun p hp z => nI p.2 (z ▸ (J.pin p hp).1)
    have J3 : Inv X pins σI HI { s1 with heap := h3 } := J.landed nb fl3.1 (up.trans up3) os ag
    -- the clause's class
    refine wpAny_handleBy_cons (codeAny_handlers_test ?_) (by intro q; cases q)
    have ty : PySem.W.Looks (model X.prog X.w) h3 (typeOf (.ref a)) cls := fun A' Q' E' s' k q => wpAny_typeOf_ref (k _ _ e3) (by rw [z3.1]; exact q)
    have test := PySem.W.exm_one (M := model X.prog X.w) J3.kIn ty hm
    refine ld_glob (X := X.suite a ((a, o3) :: (X.pn ++ pins))) (J3.suite e3 d3 na nL.symm nF) hg hmg (test.here ?_) hdb
    -- the suite
    refine codeAny_handlers_suite_as (HandSPX.lands_againZ fl3 fun h4 fl4 up4 => ?_)
    have J4 : Inv X pins σI HI { s1 with heap := h4 } := J.landed nb fl4.1 ((up.trans up3).trans up4) os ag
    obtain ⟨o4, v4, e4, z4, d4⟩ := fl4.there
    refine store_ok (X := X.suite a ((a, o4) :: (X.pn ++ pins))) (v := .ref a) (J4.suite e4 d4 na nL.symm nF) hN hi (.inl hln) rfl (fun s5 S5 => ?_) (.inr hln)
    refine wpAny_mono ((hsu a o4 cls d (X.pn ++ pins) z4 ⟨_, d4⟩).run [] s5 _ HI _ S5 (hy a na)) (fun f s6 hsp => ?_) (fun _ _ z => False.elim z)
    match f, hsp with
    | .next, ⟨σ6, H6, S6, q6⟩ =>
      have pin := S6.pin (a, o4) (List.mem_append_left _ List.mem_cons_self)
      exact gone_ok (known (S6.unsuite ok) pin.1 z4 d4 pin.2.1 n0 nL nC nP) hN hi hln fun s7 J7 => ⟨_, _, J7, q6 pin.2.1⟩
    | .brk, ⟨σ6, H6, S6, q6⟩ => exact gone_ok (S6.unsuite ok) hN hi hln fun s7 J7 => ⟨_, _, J7, q6⟩
    | .cont, ⟨σ6, H6, S6, q6⟩ => exact gone_ok (S6.unsuite ok) hN hi hln fun s7 J7 => ⟨_, _, J7, q6⟩
    | .ret u, ⟨v6, σ6, H6, S6, r6, q6⟩ => exact gone_ok (S6.unsuite ok) hN hi hln fun s7 J7 => ⟨_, _, _, J7, r6, q6⟩
/-- a caught exception of the class at D, with what its own dict holds -/
structure Kept (H : Hp) (a D dd : Addr) (fs : List (Str × V)) : Prop where
  ob : H a = some (ExK (.ref D) (some dd) a)
  di : H dd = some (.xd fs)
theorem Kept.inst {pins : List (Addr × Obj)} {σ : L2.St} {H : Hp} {s : Shared} {a D dd : Addr} {fs : List (Str × V)} (k : Kept H a D dd fs) (I : Inv X pins σ H s) :
    ∃ (oe od : Obj) (m : Str → Option Value), PySem.W.InstAt s.heap a oe D (some od) ∧ (∀ n, PySem.W.lookIn n od = some (m n)) ∧ ∀ f, RelO (fs.lookup f) (m f) := by
  obtain ⟨⟨oe, vs, e1, ⟨e2, e3⟩, e4⟩, _, _⟩ := I.hok a _ k.ob
  obtain ⟨m, hns, hr⟩ := I.hok dd _ k.di
  obtain ⟨od, ho, hl⟩ := lookIn_ns hns
  exact ⟨oe, od, m, ⟨e1, e2, by unfold PySem.W.notCls; rw [e4] <;> rfl, by rw [e3]; exact ho⟩, hl, hr⟩
theorem kit_kept {K : PySem.W.Frag} {D a : Addr} {oe : Obj} {od : Option Obj} (C : ExcC K D) : PySem.W.KitX K (.ref a) (.ref D) (fun h => PySem.W.InstAt h a oe D od) := by
  have hc : (PySem.W.clsIn K D).isSome = true := by
    obtain ⟨cd, e, _⟩ := PySem.W.any_some C.hd
    rw [e]
    rfl
  exact PySem.W.kitx_exc hc C.hg C.hk C.hs C.ha C.hn C.ht C.hm
/-- e.f, e a caught exception -/
theorem pe_kf {K : PySem.W.Frag} (eK : X.K = K) {e : Expr} {te : TE} {pos : Pos} {n : Str} (he : PE X e te) (hb : attributeBase e n X.env (eval e X.env) = eval e X.env := by rfl) :
    PE X (.Attribute e n pos) (fun σ H Q => te σ H fun x H1 => ∃ (a D dd : Addr) (fs : List (Str × V)) (v : V), x = .ref a ∧ XfC K D ∧ PySem.W.findIn K (.ref D) n = some none ∧ Kept H1 a D dd fs ∧ fs.lookup n = some v ∧ Q v H1) := by
  subst eK
  constructor
  intro pins s σ H Q I h
  refine attr_of hb (thn (he.run pins s σ H _ I h) fun u s1 hh => ?_)
  obtain ⟨x, H1, I1, rx, a, D, dd, fs, v, rfl, T, hno, k, l, q⟩ := hh
  cases (show u = Value.ref a from rx)
  obtain ⟨oe, od, m, J, hl, hr⟩ := k.inst I1
  obtain ⟨w, hw, rw_⟩ := RelO.some_of (v := v) (o := m n) (by rw [← l]; exact hr n)
  exact HandSPX.exc_get I1.kIn J T.ga T.gg T.exC (PySem.W.findObj_own T.hdC hno rfl (by rw [hl, hw])) (handed_of rw_) ⟨v, H1, I1.tok _, rw_, q⟩
/-! ### X(v), X a class of the program over ValueError whose __init__ keeps v as value -/
/-- such an __init__ -/
def sp_init (C : Addr) : Sp := fun vs H Q _ => ∃ (a : Addr) (v : V), vs = [.ref a, v] ∧ H a = some (exo a C none) ∧ ∀ d, H d = none → d ≠ a → Q .non (upd (upd H d (exd d [("value", v)])) a (exo a C (some d)))
/-- what the text says of such a class -/
structure ValC (K : PySem.W.Frag) (mg : Str → Option Value) (x : Str) (C fI : Addr) (fd : FuncData) : Prop where
  o : OexC K C
  g : mg x = some (.ref C)
  i : PySem.W.findIn K (.ref C) "__init__" = some (some (.ref fI))
  t : PySem.W.typeIn K (.ref fI) = some (.type "function")
  b : Binds K fd ["self", "value"] []
  no : PySem.W.findIn K (.ref C) "value" = some none
theorem pmk_value {C fI : Addr} {fd : FuncData} {k : Nat} {x : Str} {p pos : Pos} {e : Expr} {te : TE} (T : ValC X.K X.mg x C fI fd) (F1 : FnOk X.prog X.w X.K X.mg X.base CX0 k fI fd ["self", "value"] (sp_init C)) (hr : Room (k + 1) X.A) (hg : Gl X x) (he : PE X e te)
    (hdb : (x == ("__debug__" : Str)) = false := by decide) (hs : starEach [e] X.env = (false, eval e X.env) :: starEach [] X.env := by rfl) (hpl : (backTo pos (starEach [] X.env)).any (·.1) = false := by rfl) :
    PMk X (.Call (.Name x p) [e] [] pos) (fun σ H Q => te σ H fun v H1 => ∀ d, H1 d = none → Q (.ref C) (some d) (upd H1 d (.xd [("value", v)]))) := by
  intro pins s σ H Q I h
  refine pmk_oex (dvs := []) T.o T.i T.t F1 hr T.b .nil (fun _ _ _ _ _ _ _ z => z.elim) hg T.g (pa_cons (pe_mono he) pa_nil hs) hdb hs hpl pins s σ H Q I ?_
  refine ⟨_, h, fun v H1 q => ?_⟩
  refine ⟨by show 1 ≤ 1000; decide, fun a ha => ⟨a, v, rfl, upd_same, fun d hd nd => ⟨rfl, d, [("value", v)], upd_same, ?_, ?_, ?_⟩⟩⟩
  · rw [upd_ne nd, upd_same]
  · exact (upd_ne nd).symm.trans hd
  · have hd1 : H1 d = none := (upd_ne nd).symm.trans hd
    have e : upd (del (upd (upd (upd H1 a (exo a C none)) d (exd d [("value", v)])) a (exo a C (some d))) a) d (.xd [("value", v)]) = upd H1 d (.xd [("value", v)]) := by
      funext b
      by_cases hb : b = d
      · rw [hb, upd_same, upd_same]
      · rw [upd_ne hb, upd_ne hb]
        by_cases h2 : b = a
        · rw [h2, del_same, ha]
        · rw [del_ne h2, upd_ne h2, upd_ne hb, upd_ne h2]
    rw [e]
    exact q d hd1
/-! ### xs.count(y), xs.index(y) of a list of bools -/
theorem count_flat {y : V} : ∀ {ys : List V} {us : List Value}, Vals ys us → ys.all flatV = true → us.countP (eqU y) = ys.countP fun z => eqV z y
  | _, _, .nil, _ => rfl
  | z :: ys, u :: us, .cons r t, f => by
    rw [List.all_cons, Bool.and_eq_true] at f
    rw [List.countP_cons, List.countP_cons, count_flat t f.2, eqU_of r f.1]
theorem mt_countF {K : PySem.W.Frag} (e : X.K = K) : MtR X "list.count" (fun x vs H Q => ∃ (l : Addr) (ys : List V) (y : V), x = .ref l ∧ vs = [y] ∧ SqL K H l ys ∧ flatV y = true ∧ ys.all flatV = true ∧ Q (.int ((ys.countP fun z => eqV z y : Nat) : Int)) H) := by
  subst e
  intro pins s σ H x xs v us Q I rx rxs h
  obtain ⟨a, ys, y, rfl, rfl, hs, fy, fys, q⟩ := h
  obtain ⟨uy, rfl, ry⟩ := vals1 rxs
  cases (show v = Value.ref a from rx)
  obtain ⟨its, rv, ⟨⟨cls, dd, data, sl⟩, n, ho, hc, hdn, hd⟩, hlen⟩ := I.list hs
  simp only at hc hd
  subst hc hd
  refine call_meets PySem.F.slot_list_count ⟨_, ho, rfl⟩ PySem.F.entry_list_count (PySem.F.args_list_count_2 _ _) (SeqAt.list_countAt a its.toArray n dd sl uy (eqU y)) ⟨ho, fun u' hu' => mem_eqAt ry fy rv fys u' (by simpa using hu'), ?_⟩
  rw [show its.toArray.toList = its from rfl, count_flat rv fys]
  exact ⟨.int _, H, I.tok _, ⟨_, rfl⟩, q⟩
/-- the first place of a bool in a list of bools -/
theorem mt_indexB {K : PySem.W.Frag} (e : X.K = K) : MtR X "list.index" (fun x vs H Q => ∃ (l : Addr) (bs : List Bool) (b : Bool) (j : Nat), x = .ref l ∧ vs = [.bl b] ∧ SqL K H l (bs.map V.bl) ∧ bs[j]? = some b ∧ (∀ i c, i < j → bs[i]? = some c → c ≠ b) ∧ Q (.int (j : Int)) H) := by
  subst e
  intro pins s σ H x xs v us Q I rx rxs h
  obtain ⟨a, bs, b, j, rfl, rfl, hs, hj, hn, q⟩ := h
  refine mt_index pins s σ H (.ref a) [.bl b] v us Q I rx rxs ⟨a, _, .bl b, j, .bl b, rfl, rfl, hs, rfl, ?_, by rw [List.getElem?_map, hj]; rfl, ?_, fun m z hm hz => ?_, q⟩
  · rw [List.all_map, List.all_eq_true]
    intro _ _
    rfl
  · show (b == b) = true
    exact beq_self_eq_true b
  · rw [List.getElem?_map] at hz
    cases e : bs[m]? with
    | none => rw [e] at hz; cases hz
    | some c =>
      rw [e] at hz
      cases hz
      show (c == b) = false
      exact beq_eq_false_iff_ne.mpr (hn m c hm e)
end
end Cf

set_option Elab.async false
set_option linter.all false
set_option maxRecDepth 100000
set_option maxHeartbeats 2000000
namespace Cf
open PySem PySem.Spec PyProof.Rows L2
open LamX (CodeO TabS Tabs ExtN TabB LamS lamEnv lamCx lam_make2 lam_start2 tLam run_ofS)
/-- what is known of it is used -/
def tlU (tl : XK → Hp → VK → Prop) : XK → Hp → VK → Prop := fun E' H Q' => ∃ (E : XK) (Q : VK), (∀ cls d H1, E cls d H1 → E' cls d H1) ∧ (∀ v H1, Q v H1 → Q' v H1) ∧ tl E H Q
/-! ### a lambda without parameters that is handed to a def, and what it lets out -/
section
variable {X : Cx} {pins : List (Addr × Obj)} {σ : L2.St} {H : Hp} {s : Shared}
/-- a() in the def at g that was handed the lambda at f -/
theorem act_lam {Ng : List Str} {qg : Str} {sg : Scope} {g f c' : Addr} {cdg pm ctv : Value} {params : Arguments} {body : Expr} {scope : Scope} {k i : Nat} {a : Str} {pn : List (Addr × Obj)} {xe : Value → Shared → Prop} {W : WX} {tb : XK → TE} {p1 p2 : Pos}
    (I : L2.Inv X pins σ H s) (S : LamS X.env.scope scope)
    (hf : s.heap.get? f = some (PySem.W.kla_obj "<lambda>" (X.env.qual ++ "<lambda>") params body scope (cloFrom X.env.cells scope.names []) pm c' ctv)) (nf : H f = none) (ff : f ∉ frs X.stack)
    (bnd : bindArgs (PySem.W.kla_fn "<lambda>" (X.env.qual ++ "<lambda>") params body scope (cloFrom X.env.cells scope.names []) pm (.ref c') ctv) ⟨[], []⟩ = pure [])
    (hgd : X.A.guards = some []) (room : Room (k + 1) (X.A.deeper (envOfC qg sg s.heap.objs.size g cdg)))
    (hb : ∀ (A : Around) (outer : List Env) (s : Shared) (H : Hp) (E : XK), A.guards = some [] → Room k (A.deeper (lamEnv X scope s.heap.objs.size f c')) → PE (lamCx X A outer s H E scope f c') body (tb E))
    (tk : Takes ((cxOf CX0 X.prog X.w X.K X.mg X.base Ng qg sg g cdg X.A X.stack s H E0).tr pn xe) W) (hN : Ng[i]? = some a) (hv : Vis sg a) (hd : (a == ("__debug__" : Str)) = false := by decide) (hcd : (a == ("__classdict__" : Str)) = false := by decide) :
    PE ((cxOf CX0 X.prog X.w X.K X.mg X.base Ng qg sg g cdg X.A X.stack s H E0).tr pn xe) (.Call (.Name a p1) [] [] p2)
      (fun σZ HZ Q => σZ[i]? = some (some (.ref f)) ∧ HZ c' = some (CodeO c' (X.env.qual ++ "<lambda>")) ∧ tlU (fun E H' Q' => tb E σ H' Q') (fun cls d H' => W cls d σZ H') HZ Q) := by
  constructor
  rintro pz sz σZ HZ Q IZ ⟨slot, code, E, Q0, toW, toQ, want⟩
  refine wpAny_Call_Name_kw (thn ((pe_var (pos := p1) (i := i) hN hv hd hcd).run pz sz σZ HZ (fun v H1 => v = .ref f ∧ H1 = HZ) IZ ⟨.ref f, slot, rfl, rfl⟩) ?_)
  rintro u s1 ⟨v, H1, I1, rv, rfl, rfl⟩
  cases (show u = Value.ref f from rv)
  have still := I1.base.keep f _ hf nf ff List.not_mem_nil
  refine PySem.W.callWith_F0 ⟨_, _, _, _, still⟩ ?_
  obtain ⟨⟨oc, vs, t, at1, at2, at3⟩, _, _⟩ := I1.hok c' _ code
  have ran : codeAny (model X.prog X.w) (X.A.deeper (envOfC qg sg s.heap.objs.size g cdg)) (.call (.ref f) ⟨[], []⟩)
      (CR (L2.CX X.prog X.w) (envOfC qg sg s.heap.objs.size g cdg :: X.stack) X.prog X.w H1 s1 Q0 E) s1 := by
    refine PySem.W.kla_callFunE room.depth still rfl S.co S.gen rfl ⟨c', oc, vs, t, rfl, at1, at2, at3⟩ ?_
    rw [bnd]
    refine wpAny_pure (wpAny_newFunctionEnv (fun y hy => (S.own y hy).2) (fun y hy => (List.not_mem_nil hy).elim) (fun h1 hns hsb => ⟨I1.nolimit.fresh _ hsb, ?_⟩) S.kind)
    show codeAny _ _ (.expr body (lamEnv X scope s1.heap.objs.size f c')) _ _
    have stays : ∀ b o, s1.heap.get? b = some o → h1.get? b = some o := by
      intro b o e
      exact hsb.extBut b o (Nat.ne_of_lt (Heap.lt_size e)) (Heap.get?_push_of_some _ e)
    have J := lam_start2 (f := f) (c' := c') (tk := s1.toks + ([] : List (Str × Value)).length) (E := E) I S I1.env0 room.hd I1.base hns stays
    refine PySem.W.kla_codeExpr (wpAny_mono ((hb (X.A.deeper (envOfC qg sg s.heap.objs.size g cdg)) _ s1 H1 _ hgd (room.deeper _)).run [] _ _ H1 Q0 J want) ?_ fun _ _ z => z)
    rintro y s' ⟨z, H', J', rz, q⟩
    exact ⟨z, H', J'.os, J'.bare, J'.base, J'.hok, rz, q⟩
  refine wpAny_call (codeAny_mono ran ?_)
  intro r s' hq
  match r, hq with
  | .error e, hq => exact tk e s' (XE.of_call I1 toW hq)
  | .ok (.ret u), hq =>
    obtain ⟨v, H', J, rv, q⟩ := I1.after hq
    exact ⟨v, H', J, rv, toQ v H' q⟩
  | .ok .next, hq => exact hq.elim
  | .ok .brk, hq => exact hq.elim
  | .ok .cont, hq => exact hq.elim
end
section
variable {P : Program} {w : World} {K : PySem.W.Frag} {mg : Str → Option Value} {base : Heap}
/-- a def that calls what it is handed: what comes of it, by what comes of the lambda -/
def Hands (P : Program) (w : World) (K : PySem.W.Frag) (mg : Str → Option Value) (base : Heap) (k : Nat) (x a : Str) (Ng : List Str) (st : Stmt) (TT : (XK → Hp → VK → Prop) → Hp → VK → Prop) : Prop :=
  ∀ (g : Addr) (cdg : Value) (A : Around) (outer : List Env) (s : Shared) (H : Hp) (Q : VK) (f c' : Addr) (q : Str) (tl : XK → Hp → VK → Prop),
    A.guards = some [] → Room k (A.deeper (envOfC x (defScope st) s.heap.objs.size g cdg)) →
    (∀ (W : WX) (pn : List (Addr × Obj)) (xe : Value → Shared → Prop) (p1 p2 : Pos), Takes ((cxOf CX0 P w K mg base Ng x (defScope st) g cdg A outer s H E0).tr pn xe) W →
      PE ((cxOf CX0 P w K mg base Ng x (defScope st) g cdg A outer s H E0).tr pn xe) (.Call (.Name a p1) [] [] p2) (fun σZ HZ Q' => σZ[0]? = some (some (.ref f)) ∧ HZ c' = some (CodeO c' q) ∧ tlU tl (fun cls d H' => W cls d σZ H') HZ Q')) →
    H c' = some (CodeO c' q) → TT tl H Q →
    ∃ t, PSs (cxOf CX0 P w K mg base Ng x (defScope st) g cdg A outer s H E0).nox (defBody st) t ∧ t { nx := fun _ H' => Q .non H', rt := Q } (L2.start Ng [.ref f]) H
/-- what a caller knows of such a def -/
structure ClH (P : Program) (w : World) (K : PySem.W.Frag) (mg : Str → Option Value) (base : Heap) (k : Nat) (x : Str) (TT : (XK → Hp → VK → Prop) → Hp → VK → Prop) : Prop where
  ex : ∃ (a : Str) (Ng : List Str) (st : Stmt) (g : Addr) (fd : FuncData), Fun K x x st g fd ∧ mg x = some (.ref g) ∧ Binds K fd [a] [] ∧ FnScope Ng [a] (defScope st) ∧ Ng[0]? = some a ∧ Vis (defScope st) a ∧ (a == ("__debug__" : Str)) = false ∧ (a == ("__classdict__" : Str)) = false ∧ Hands P w K mg base k x a Ng st TT
end
section
variable {X : Cx}
/-- x(lambda: body) -/
theorem pe_hand {T : List (Addr × Str)} {TT : (XK → Hp → VK → Prop) → Hp → VK → Prop} {x : Str} {c P : Addr} {k : Nat} {params : Arguments} {body : Expr} {scope : Scope} {t : XK → TE} {p lpos pos : Pos} (C : ClH X.prog X.w X.K X.mg X.base (k + 1) x TT) (hx : Gl X x)
    (TB : TabB X.base X.mg c P) (hc : X.env.code = .ref c) (hm : (P, X.env.qual ++ "<lambda>") ∈ T) (hu : ∀ p ∈ T, p.1 = P → p.2 = X.env.qual ++ "<lambda>") (hr : Room (k + 2) X.A) (hgd : X.A.guards = some []) (S : LamS X.env.scope scope) (hdef : defaultsOf params X.env = ([], []))
    (bnd : ∀ (q : Str) (cl : List (Str × Addr)) (pm cv ctv : Value), bindArgs (PySem.W.kla_fn "<lambda>" q params body scope cl pm cv ctv) ⟨[], []⟩ = pure [])
    (hb : ∀ (A : Around) (outer : List Env) (s : Shared) (H : Hp) (E : XK) (f c' : Addr), A.guards = some [] → Room k (A.deeper (lamEnv X scope s.heap.objs.size f c')) → PE (lamCx X A outer s H E scope f c') body (t E))
    (hdb : (x == ("__debug__" : Str)) = false := by decide) :
    PE X (.Call (.Name x p) [.Lambda params body scope lpos] [] pos) (tLam T TT t) := by
  obtain ⟨a, Ng, st, g, fd, F, mx, B, Sg, hN, hv, d1, d2, give⟩ := C.ex
  obtain ⟨oc, od, kV, doc, pmv, an, cd, ct, sl, rfl, look, code⟩ := F.ex
  constructor
  rintro pins s σ H Q I ⟨tabs, want⟩
  refine wpAny_Call_Name_kw (ld_glob I hx mx ?_ hdb)
  refine PySem.W.callWith_K (h₀ := X.base) I.ok.mod.kin F.kp ?_ (by rfl) (by rfl)
  show wpAny _ _ (spliced ((false, eval (.Lambda params body scope lpos) X.env) :: backTo pos (starEach [] X.env))) _ _ s
  refine Calls.spliced_cons (lam_make2 I TB hc hm hu tabs hdef (S.has I.ok) ?_)
  intro f c' pm ctv H1 s' I1 ext tabs1 obj nf ff co
  refine Calls.spliced_nil ⟨I1.kIn, ?_⟩
  have ran : codeAny (model X.prog X.w) X.A (.call (.ref g) ⟨[.ref f], []⟩) (CR CX0 X.stack X.prog X.w H1 s' Q E0) s' := by
    refine run_ofS (N := Ng) (ps := [a]) (us := [.ref f]) (vs := [.ref f]) look code Sg hr I1.env0 (B s' [.ref f] I1.kIn rfl) (.cons rfl .nil) rfl fun room => ?_
    obtain ⟨tt, judged, reading⟩ := give g cd X.A X.stack s' H1 Q f c' (X.env.qual ++ "<lambda>") (fun E H' Q' => t E σ H' Q') hgd room
      (fun W pn xe p1 p2 tk => act_lam (i := 0) I1 S obj nf ff (bnd _ _ _ _ _) hgd room (fun A outer s H E gd r => hb A outer s H E f c' gd r) tk hN hv d1 d2) co (want H1 ext tabs1)
    exact ⟨tt, judged.nox, reading⟩
  refine wpAny_call (codeAny_mono ran ?_)
  intro r s2 hq
  match r, hq with
  | .error e, hq => exact False.elim hq
  | .ok (.ret u), hq => exact I1.after hq
  | .ok .next, hq => exact hq.elim
  | .ok .brk, hq => exact hq.elim
  | .ok .cont, hq => exact hq.elim
end
end Cf

set_option Elab.async false
set_option linter.all false
set_option maxRecDepth 100000
set_option maxHeartbeats 2000000
namespace Cf
open PySem PySem.Spec PyProof.Rows L2
open LamX (Tabs)
theorem Cl.imp {P : Program} {w : World} {K : PySem.W.Frag} {mg : Str → Option Value} {base : Heap} {CX : CXT} {k n : Nat} {x : Str} {sp sp' : Sp} (C : Cl P w K mg base CX k x n sp) (h : ∀ vs H Q E, sp' vs H Q E → sp vs H Q E) : Cl P w K mg base CX k x n sp' := by
  obtain ⟨f, fd, ps, F, a, b, c⟩ := C.ex
  exact ⟨f, fd, ps, ⟨fun vs H Q E q => F.len vs H Q E (h vs H Q E q), fun A o s H a us vs Q E hr hg e b r q => F.run A o s H a us vs Q E hr hg e b r (h vs H Q E q)⟩, a, b, c⟩
/-! ### data of any kind, empty dicts among it -/
mutual
inductive Da (K : PySem.W.Frag) (H : Hp) : V → PyData → Prop
  | non : Da K H .non .none
  | bl (b : Bool) : Da K H (.bl b) (.bool b)
  | int (i : Int) : Da K H (.int i) (.int i)
  | str (x : Str) : Da K H (.str x) (.str x)
  | lst {a : Addr} {xs : List V} {ds : List PyData} : H a = some (.lst xs) → a ≠ sysModules → DaAll K H xs ds → Da K H (.ref a) (.list ds)
  | tup {a : Addr} {xs : List V} {ds : List PyData} : SqT K H a xs → DaAll K H xs ds → Da K H (.ref a) (.tuple ds)
  | dct {a : Addr} : H a = some (.dT []) → Da K H (.ref a) (.dict [])
inductive DaAll (K : PySem.W.Frag) (H : Hp) : List V → List PyData → Prop
  | nil : DaAll K H [] []
  | cons {v : V} {vs : List V} {d : PyData} {ds : List PyData} : Da K H v d → DaAll K H vs ds → DaAll K H (v :: vs) (d :: ds)
end
mutual
theorem Da.kt {K : PySem.W.Frag} {T : List (Addr × Str)} {H H' : Hp} (k : Kt T H H') : ∀ {v : V} {d : PyData}, Da K H v d → Da K H' v d
  | _, _, .non => .non
  | _, _, .bl b => .bl b
  | _, _, .int i => .int i
  | _, _, .str x => .str x
  | _, _, .lst s n h => .lst (k.atL s) n (DaAll.kt k h)
  | _, _, .tup s h => .tup (k.tup0 s) (DaAll.kt k h)
  | _, _, .dct h => .dct (k.ext _ _ h fun ps z => nomatch z)
theorem DaAll.kt {K : PySem.W.Frag} {T : List (Addr × Str)} {H H' : Hp} (k : Kt T H H') : ∀ {vs : List V} {ds : List PyData}, DaAll K H vs ds → DaAll K H' vs ds
  | _, _, .nil => .nil
  | _, _, .cons h t => .cons (Da.kt k h) (DaAll.kt k t)
end
theorem Da.kp {K : PySem.W.Frag} {H H' : Hp} (k : Kp [] H H') {v : V} {d : PyData} (h : Da K H v d) : Da K H' v d := h.kt (T := []) k.kt
theorem DaAll.kp {K : PySem.W.Frag} {H H' : Hp} (k : Kp [] H H') {vs : List V} {ds : List PyData} (h : DaAll K H vs ds) : DaAll K H' vs ds := h.kt (T := []) k.kt
section
variable {X : Cx} {pins : List (Addr × Obj)} {σ : L2.St} {H : Hp} {s : Shared}
mutual
theorem Da.rd (I : L2.Inv X pins σ H s) : ∀ (d : PyData) (v : V) (u : Value), Da X.K H v d → RelV v u → ∃ as, Reads s.heap u d as ∧ sysModules ∉ as
  | .none, _, _, h, r => by
    cases h
    cases r
    exact ⟨_, .none, List.not_mem_nil⟩
  | .bool b, _, _, h, r => by
    cases h
    cases r
    exact ⟨_, .bool b, List.not_mem_nil⟩
  | .int i, _, _, h, r => by
    cases h
    obtain ⟨t, rfl⟩ := r
    exact ⟨_, .int i t, List.not_mem_nil⟩
  | .str x, _, _, h, r => by
    cases h
    obtain ⟨t, rfl⟩ := r
    exact ⟨_, .str x t, List.not_mem_nil⟩
  | .list ds, _, _, h, r => by
    cases h with
    | lst hs na ha =>
      cases r
      obtain ⟨its, rv, ⟨o, n, ho, hc, _, hd⟩, _⟩ := I.list (.inl (.inl hs))
      obtain ⟨as, hr, hn⟩ := DaAll.rd I ds _ its ha rv
      refine ⟨_, .list ho hc hd hr, fun z => ?_⟩
      rcases List.mem_cons.mp z with z | z
      · exact na z.symm
      · exact hn z
  | .tuple ds, _, _, h, r => by
    cases h with
    | tup hs ha =>
      cases r
      obtain ⟨its, rv, ⟨o, ho, hc, n, hd⟩, _⟩ := I.tuple hs
      obtain ⟨as, hr, hn⟩ := DaAll.rd I ds _ its ha rv
      exact ⟨_, .tuple ho hc hd hr, hn⟩
  | .dict kvs, _, _, h, r => by
    cases h with
    | dct hd =>
      cases r
      obtain ⟨_, hsm, xs, hp, o, es, ep, ho, he, hdt, hes, _⟩ := I.hok _ _ hd
      cases hp
      have e0 : es.toList = [] := hes
      refine ⟨_, .dict (as := []) (bs := []) ho he.1 hdt (by rw [e0]; exact .nil) (by rw [e0]; exact .nil), fun z => ?_⟩
      rcases List.mem_cons.mp z with z | z
      · rw [← z] at hsm
        exact absurd hsm (by decide)
      · cases z
theorem DaAll.rd (I : L2.Inv X pins σ H s) : ∀ (ds : List PyData) (vs : List V) (us : List Value), DaAll X.K H vs ds → Vals vs us → ∃ as, ReadsAll s.heap us ds as ∧ sysModules ∉ as
  | [], _, _, h, r => by
    cases h
    cases r
    exact ⟨_, .nil, List.not_mem_nil⟩
  | d :: ds, _, _, h, r => by
    cases h with
    | cons h1 h2 =>
      cases r with
      | cons r1 r2 =>
        obtain ⟨as, q1, n1⟩ := Da.rd I d _ _ h1 r1
        obtain ⟨bs, q2, n2⟩ := DaAll.rd I ds _ _ h2 r2
        exact ⟨_, .cons q1 q2, fun z => (List.mem_append.mp z).elim n1 n2⟩
end
end
/-! ### how long a shown thing is, at any depth -/
structure Sm (n e : Nat) (d : PyData) : Prop where
  l : d.shown.length ≤ n
  s : d.showable = true
  d : d.depth ≤ e
theorem Sm.mono {n e n' e' : Nat} {d : PyData} (h : Sm n e d) (a : n ≤ n') (b : e ≤ e') : Sm n' e' d := ⟨Nat.le_trans h.l a, h.s, Nat.le_trans h.d b⟩
theorem Sm.int {i : Int} (h : i.natAbs < 2 ^ 100) : Sm 101 0 (.int i) := ⟨int_shown h, (int_ok h).1, (int_ok h).2⟩
theorem Sm.none : Sm 10 0 .none := ⟨by decide +kernel, by decide +kernel, by decide +kernel⟩
theorem Sm.bool (b : Bool) : Sm 10 0 (.bool b) := by cases b <;> exact ⟨by decide +kernel, by decide +kernel, by decide +kernel⟩
theorem Sm.tup {n e : Nat} {ds : List PyData} (h : ∀ d ∈ ds, Sm n e d) : Sm (ds.length * (n + 2) + 3) (e + 1) (.tuple ds) := by
  refine ⟨?_, ?_, ?_⟩
  · simp only [PyData.shown]
    rw [shownAll_map]
    have h1 := tupleText_le (ds.map PyData.shown)
    have h2 : piled (ds.map PyData.shown) ≤ (ds.map PyData.shown).length * (n + 2) := piled_of fun t ht => by
      obtain ⟨d, hd, rfl⟩ := List.mem_map.mp ht
      exact (h d hd).l
    rw [List.length_map] at h2
    omega
  · simp only [PyData.showable]
    exact showableAll_of fun d hd => (h d hd).s
  · simp only [PyData.depth]
    have := depthAll_of (m := e) fun d hd => (h d hd).d
    omega
theorem Sm.lst {n e : Nat} {ds : List PyData} (h : ∀ d ∈ ds, Sm n e d) : Sm (ds.length * (n + 2) + 3) (e + 1) (.list ds) := by
  refine ⟨?_, ?_, ?_⟩
  · simp only [PyData.shown]
    rw [shownAll_map]
    have h1 := listText_le (ds.map PyData.shown)
    have h2 : piled (ds.map PyData.shown) ≤ (ds.map PyData.shown).length * (n + 2) := piled_of fun t ht => by
      obtain ⟨d, hd, rfl⟩ := List.mem_map.mp ht
      exact (h d hd).l
    rw [List.length_map] at h2
    omega
  · simp only [PyData.showable]
    exact showableAll_of fun d hd => (h d hd).s
  · simp only [PyData.depth]
    have := depthAll_of (m := e) fun d hd => (h d hd).d
    omega
theorem Sm.shows {n e : Nat} {d : PyData} (h : Sm n e d) (a : n ≤ 10000000 := by decide) (b : e ≤ 60 := by decide) : Shows d := ⟨h.s, Nat.le_trans h.d b, Nat.le_trans h.l (Nat.le_trans a (by decide))⟩
section
variable {X : Cx}
end
end Cf

set_option Elab.async false
set_option linter.all false
set_option maxRecDepth 100000
set_option maxHeartbeats 2000000
namespace Cf
open PySem PySem.Spec PyProof.Rows L2
open LamX (Tabs)
/-! ### rules of two kinds -/
section
variable {X : Cx}
/-! ### a bool where an int stands -/
/-- what number a bool or an int is -/
inductive Num : V → Int → Prop
  | int (i : Int) : Num (.int i) i
  | bl (b : Bool) : Num (.bl b) (b2i b)
/-! ### t[::-1], t a tuple of anything -/
end
end Cf

set_option Elab.async false
set_option linter.all false
set_option maxRecDepth 100000
set_option maxHeartbeats 2000000
namespace Cf
open PySem PySem.Spec PyProof.Rows L2
open LamX (Tabs)
/-! ### data of any kind beside addresses N that are in use: its lists are none of them -/
mutual
inductive Db (K : PySem.W.Frag) (N : Addr → Prop) (H : Hp) : V → PyData → Prop
  | non : Db K N H .non .none
  | bl (b : Bool) : Db K N H (.bl b) (.bool b)
  | int (i : Int) : Db K N H (.int i) (.int i)
  | str (x : Str) : Db K N H (.str x) (.str x)
  | lst {a : Addr} {xs : List V} {ds : List PyData} : H a = some (.lst xs) → ¬ N a → DbAll K N H xs ds → Db K N H (.ref a) (.list ds)
  | tup {a : Addr} {xs : List V} {ds : List PyData} : SqT K H a xs → DbAll K N H xs ds → Db K N H (.ref a) (.tuple ds)
  | dct {a : Addr} : H a = some (.dT []) → Db K N H (.ref a) (.dict [])
inductive DbAll (K : PySem.W.Frag) (N : Addr → Prop) (H : Hp) : List V → List PyData → Prop
  | nil : DbAll K N H [] []
  | cons {v : V} {vs : List V} {d : PyData} {ds : List PyData} : Db K N H v d → DbAll K N H vs ds → DbAll K N H (v :: vs) (d :: ds)
end
section
variable {K : PySem.W.Frag} {N N' : Addr → Prop} {H H' : Hp}
/-- what stays of a heap, stays of its data -/
structure Stay (K : PySem.W.Frag) (N : Addr → Prop) (H H' : Hp) : Prop where
  l : ∀ p xs, ¬ N p → H p = some (.lst xs) → H' p = some (.lst xs)
  t : ∀ p xs, SqT K H p xs → SqT K H' p xs
  d : ∀ p, H p = some (.dT []) → H' p = some (.dT [])
mutual
theorem Db.stay (k : Stay K N H H') : ∀ {v : V} {d : PyData}, Db K N H v d → Db K N H' v d
  | _, _, .non => .non
  | _, _, .bl b => .bl b
  | _, _, .int i => .int i
  | _, _, .str x => .str x
  | _, _, .lst s n h => .lst (k.l _ _ n s) n (DbAll.stay k h)
  | _, _, .tup s h => .tup (k.t _ _ s) (DbAll.stay k h)
  | _, _, .dct h => .dct (k.d _ h)
theorem DbAll.stay (k : Stay K N H H') : ∀ {vs : List V} {ds : List PyData}, DbAll K N H vs ds → DbAll K N H' vs ds
  | _, _, .nil => .nil
  | _, _, .cons h t => .cons (Db.stay k h) (DbAll.stay k t)
end
theorem Kp.stay (k : Kp [] H H') : Stay K N H H' := ⟨fun p xs _ e => k.at0 e, fun p xs e => k.tup0 e, fun p e => k.at0 e⟩
theorem Kt.stay {T : List (Addr × Str)} (k : Kt T H H') : Stay K N H H' := ⟨fun p xs _ e => k.atL e, fun p xs e => k.tup0 e, fun p e => k.ext _ _ e fun ps z => nomatch z⟩
theorem Stay.trans {H1 : Hp} (a : Stay K N H H1) (b : Stay K N H1 H') : Stay K N H H' := ⟨fun p xs n e => b.l p xs n (a.l p xs n e), fun p xs e => b.t p xs (a.t p xs e), fun p e => b.d p (a.d p e)⟩
mutual
theorem Db.more (h : ∀ p xs, H p = some (.lst xs) → ¬ N p → ¬ N' p) : ∀ {v : V} {d : PyData}, Db K N H v d → Db K N' H v d
  | _, _, .non => .non
  | _, _, .bl b => .bl b
  | _, _, .int i => .int i
  | _, _, .str x => .str x
  | _, _, .lst s n q => .lst s (h _ _ s n) (DbAll.more h q)
  | _, _, .tup s q => .tup s (DbAll.more h q)
  | _, _, .dct q => .dct q
theorem DbAll.more (h : ∀ p xs, H p = some (.lst xs) → ¬ N p → ¬ N' p) : ∀ {vs : List V} {ds : List PyData}, DbAll K N H vs ds → DbAll K N' H vs ds
  | _, _, .nil => .nil
  | _, _, .cons a t => .cons (Db.more h a) (DbAll.more h t)
end
/-- one more address that is new -/
theorem Db.new {D : Addr} {v : V} {d : PyData} (h : Db K N H v d) (n : H D = none) : Db K (fun p => N p ∨ p = D) H v d :=
  h.more fun p xs e np z => z.elim np fun z => by rw [z, n] at e; cases e
theorem DbAll.len : ∀ {vs : List V} {ds : List PyData}, DbAll K N H vs ds → vs.length = ds.length
  | _, _, .nil => rfl
  | _, _, .cons _ t => by simp only [List.length_cons]; rw [t.len]
theorem DbAll.take : ∀ {vs : List V} {ds : List PyData} (n : Nat), DbAll K N H vs ds → DbAll K N H (vs.take n) (ds.take n)
  | _, _, 0, _ => by simp only [List.take_zero]; exact .nil
  | _, _, n + 1, .nil => by simp only [List.take_nil]; exact .nil
  | _, _, n + 1, .cons a t => .cons a (t.take n)
theorem DbAll.drop : ∀ {vs : List V} {ds : List PyData} (n : Nat), DbAll K N H vs ds → DbAll K N H (vs.drop n) (ds.drop n)
  | _, _, 0, h => h
  | _, _, n + 1, .nil => by simp only [List.drop_nil]; exact .nil
  | _, _, n + 1, .cons a t => t.drop n
theorem DbAll.get : ∀ {vs : List V} {ds : List PyData} {v : V} {i : Nat}, DbAll K N H vs ds → vs[i]? = some v → ∃ d, ds[i]? = some d ∧ Db K N H v d
  | _, _, _, _, .nil, e => by cases e
  | _, _, _, 0, .cons a t, e => ⟨_, rfl, by cases e; exact a⟩
  | _, _, _, i + 1, .cons a t, e => t.get (i := i) e
theorem DbAll.mem {vs : List V} {ds : List PyData} {v : V} (h : DbAll K N H vs ds) (m : v ∈ vs) : ∃ d ∈ ds, Db K N H v d := by
  obtain ⟨i, hi, e⟩ := List.getElem_of_mem m
  obtain ⟨d, e2, r⟩ := h.get (List.getElem?_eq_some_iff.mpr ⟨hi, e⟩)
  exact ⟨d, List.mem_of_getElem? e2, r⟩
theorem DbAll.ints : ∀ ns : List Int, DbAll K N H (ns.map V.int) (ns.map PyData.int)
  | [] => .nil
  | n :: r => .cons (.int n) (DbAll.ints r)
/-- the type of data -/
def tyN : PyData → String
  | .none => "NoneType"
  | .bool _ => "bool"
  | .int _ => "int"
  | .str _ => "str"
  | .list _ => "list"
  | .tuple _ => "tuple"
  | .dict _ => "dict"
theorem Db.ty {v : V} {d : PyData} (h : Db K N H v d) : TyX K H v (.type (tyN d)) := by
  cases h with
  | non => exact .base .non
  | bl b => exact .base (.bl b)
  | int i => exact .base (.int i)
  | str x => exact .base (.str x)
  | lst e n a => exact ty_lst (.inl (.inl e))
  | tup e a => exact ty_tup e
  | dct e => exact .base (.dT e)
theorem Db.kn {v : V} {d : PyData} (h : Db K N H v d) : Kn K H v := by
  cases h with
  | non => exact .non
  | bl b => exact .bl b
  | int i => exact .int i
  | str x => exact .str x
  | lst e n a => exact .lst (.inl (.inl e))
  | tup e a => exact .tup e
  | dct e => exact .dT e
def isTD : PyData → Bool
  | .tuple _ => true
  | _ => false
def isSD : PyData → Bool
  | .str _ => true
  | _ => false
theorem kitT : ∀ d : PyData, kitB (tyN d) "tuple" = some (isTD d)
  | .none => (by decide +kernel : kitB "NoneType" "tuple" = some false)
  | .bool _ => (by decide +kernel : kitB "bool" "tuple" = some false)
  | .int _ => (by decide +kernel : kitB "int" "tuple" = some false)
  | .str _ => (by decide +kernel : kitB "str" "tuple" = some false)
  | .list _ => (by decide +kernel : kitB "list" "tuple" = some false)
  | .tuple _ => (by decide +kernel : kitB "tuple" "tuple" = some true)
  | .dict _ => (by decide +kernel : kitB "dict" "tuple" = some false)
theorem kitS : ∀ d : PyData, kitB (tyN d) "str" = some (isSD d)
  | .none => (by decide +kernel : kitB "NoneType" "str" = some false)
  | .bool _ => (by decide +kernel : kitB "bool" "str" = some false)
  | .int _ => (by decide +kernel : kitB "int" "str" = some false)
  | .str _ => (by decide +kernel : kitB "str" "str" = some true)
  | .list _ => (by decide +kernel : kitB "list" "str" = some false)
  | .tuple _ => (by decide +kernel : kitB "tuple" "str" = some false)
  | .dict _ => (by decide +kernel : kitB "dict" "str" = some false)
end
section
variable {X : Cx} {pins : List (Addr × Obj)} {σ : L2.St} {N : Addr → Prop} {H : Hp} {s : Shared}
mutual
theorem Db.rd (hN : N sysModules) (I : L2.Inv X pins σ H s) : ∀ (d : PyData) (v : V) (u : Value), Db X.K N H v d → RelV v u → ∃ as, Reads s.heap u d as ∧ sysModules ∉ as
  | .none, _, _, h, r => by
    cases h
    cases r
    exact ⟨_, .none, List.not_mem_nil⟩
  | .bool b, _, _, h, r => by
    cases h
    cases r
    exact ⟨_, .bool b, List.not_mem_nil⟩
  | .int i, _, _, h, r => by
    cases h
    obtain ⟨t, rfl⟩ := r
    exact ⟨_, .int i t, List.not_mem_nil⟩
  | .str x, _, _, h, r => by
    cases h
    obtain ⟨t, rfl⟩ := r
    exact ⟨_, .str x t, List.not_mem_nil⟩
  | .list ds, _, _, h, r => by
    cases h with
    | lst hs na ha =>
      cases r
      obtain ⟨its, rv, ⟨o, n, ho, hc, _, hd⟩, _⟩ := I.list (.inl (.inl hs))
      obtain ⟨as, hr, hn⟩ := DbAll.rd hN I ds _ its ha rv
      refine ⟨_, .list ho hc hd hr, fun z => ?_⟩
      rcases List.mem_cons.mp z with z | z
      · exact na (z ▸ hN)
      · exact hn z
  | .tuple ds, _, _, h, r => by
    cases h with
    | tup hs ha =>
      cases r
      obtain ⟨its, rv, ⟨o, ho, hc, n, hd⟩, _⟩ := I.tuple hs
      obtain ⟨as, hr, hn⟩ := DbAll.rd hN I ds _ its ha rv
      exact ⟨_, .tuple ho hc hd hr, hn⟩
  | .dict kvs, _, _, h, r => by
    cases h with
    | dct hd =>
      cases r
      obtain ⟨_, hsm, xs, hp, o, es, ep, ho, he, hdt, hes, _⟩ := I.hok _ _ hd
      cases hp
      have e0 : es.toList = [] := hes
      refine ⟨_, .dict (as := []) (bs := []) ho he.1 hdt (by rw [e0]; exact .nil) (by rw [e0]; exact .nil), fun z => ?_⟩
      rcases List.mem_cons.mp z with z | z
      · rw [← z] at hsm
        exact absurd hsm (by decide)
      · cases z
theorem DbAll.rd (hN : N sysModules) (I : L2.Inv X pins σ H s) : ∀ (ds : List PyData) (vs : List V) (us : List Value), DbAll X.K N H vs ds → Vals vs us → ∃ as, ReadsAll s.heap us ds as ∧ sysModules ∉ as
  | [], _, _, h, r => by
    cases h
    cases r
    exact ⟨_, .nil, List.not_mem_nil⟩
  | d :: ds, _, _, h, r => by
    cases h with
    | cons h1 h2 =>
      cases r with
      | cons r1 r2 =>
        obtain ⟨as, q1, n1⟩ := Db.rd hN I d _ _ h1 r1
        obtain ⟨bs, q2, n2⟩ := DbAll.rd hN I ds _ _ h2 r2
        exact ⟨_, .cons q1 q2, fun z => (List.mem_append.mp z).elim n1 n2⟩
end
end
section
variable {X : Cx}
end
/-! ### how great data is -/
def Asc (x : Str) : Prop := ∀ c ∈ x.cps.toList, c < 128
mutual
def szD : PyData → Nat
  | .none => 10
  | .bool _ => 10
  | .dict _ => 10
  | .int _ => 110
  | .str x => 12 * x.length + 20
  | .list ds => szA ds + 10
  | .tuple ds => szA ds + 10
def szA : List PyData → Nat
  | [] => 0
  | d :: ds => szD d + 5 + szA ds
end
theorem szA_len : ∀ a : List PyData, a.length ≤ szA a
  | [] => Nat.zero_le _
  | d :: a => by have := szA_len a; simp only [szA, List.length_cons]; omega
theorem szA_mem : ∀ {a : List PyData} {d : PyData}, d ∈ a → szD d ≤ szA a
  | e :: a, d, h => by
    rcases List.mem_cons.mp h with rfl | h
    · simp only [szA]; omega
    · have := szA_mem h
      simp only [szA]; omega
inductive Gd (k : Nat) : Nat → PyData → Prop
  | none {e : Nat} : Gd k e .none
  | bool {e : Nat} (b : Bool) : Gd k e (.bool b)
  | int {e : Nat} {i : Int} : i.natAbs < 2 ^ 80 + k → Gd k e (.int i)
  | str {e : Nat} {x : Str} : Asc x → Gd k e (.str x)
  | dict {e : Nat} : Gd k e (.dict [])
  | list {e : Nat} {ds : List PyData} : (∀ d ∈ ds, Gd k e d) → Gd k (e + 1) (.list ds)
  | tuple {e : Nat} {ds : List PyData} (h : ∀ d ∈ ds, Gd k e d) (hl : ds.length ≤ 41 + k := by first | omega | (simp <;> omega)) : Gd k (e + 1) (.tuple ds)
theorem Gd.mono {k k' : Nat} (hk : k ≤ k') : ∀ {e : Nat} {d : PyData}, Gd k e d → ∀ {e' : Nat}, e ≤ e' → Gd k' e' d := by
  intro e d h
  induction h with
  | none => intro e' _; exact .none
  | bool b => intro e' _; exact .bool b
  | int h => intro e' _; exact .int (by omega)
  | str h => intro e' _; exact .str h
  | dict => intro e' _; exact .dict
  | list h ih =>
    intro e' he
    obtain ⟨f, rfl⟩ : ∃ f, e' = f + 1 := ⟨e' - 1, by omega⟩
    exact .list fun d hd => ih d hd (by omega)
  | tuple h hl ih =>
    intro e' he
    obtain ⟨f, rfl⟩ : ∃ f, e' = f + 1 := ⟨e' - 1, by omega⟩
    exact .tuple (fun d hd => ih d hd (by omega)) (by omega)
theorem piled_sz {ds : List PyData} (h : ∀ d ∈ ds, d.shown.length ≤ szD d) : piled (ds.map PyData.shown) ≤ szA ds := by
  induction ds with
  | nil => simp [piled, szA]
  | cons d ds ih =>
    rw [List.map_cons, piled_cons]
    have h1 := h d List.mem_cons_self
    have h2 := ih fun e he => h e (List.mem_cons_of_mem _ he)
    simp only [szA]
    omega
theorem Gd.sh {k : Nat} (hk : k ≤ 2 ^ 80) {e : Nat} {d : PyData} (h : Gd k e d) : d.shown.length ≤ szD d ∧ d.showable = true ∧ d.depth ≤ e + 1 := by
  induction h with
  | none => exact ⟨by decide +kernel, by decide +kernel, by simp only [PyData.depth]; omega⟩
  | bool b => cases b <;> exact ⟨by decide +kernel, by decide +kernel, by simp only [PyData.depth]; omega⟩
  | @int e i h =>
    have hb : i.natAbs < 2 ^ 100 := by
      have : (2 : Nat) ^ 80 + 2 ^ 80 < 2 ^ 100 := by decide
      omega
    have h1 := int_shown hb
    have h2 := int_ok hb
    exact ⟨by simp only [szD]; omega, h2.1, by omega⟩
  | str h =>
    refine ⟨?_, rfl, by simp only [PyData.depth]; omega⟩
    have := StrLaws.reprText_len _ fun c hc => Nat.lt_of_lt_of_le (h c hc) (by decide)
    simp only [PyData.shown, szD]
    omega
  | dict => exact ⟨by decide +kernel, by decide +kernel, by simp only [PyData.depth, PyData.depthKv]; omega⟩
  | @list e ds h ih =>
    refine ⟨?_, ?_, ?_⟩
    · simp only [PyData.shown, szD]
      rw [shownAll_map]
      have := listText_le (ds.map PyData.shown)
      have := piled_sz fun d hd => (ih d hd).1
      omega
    · simp only [PyData.showable]
      exact showableAll_of fun d hd => (ih d hd).2.1
    · simp only [PyData.depth]
      have := depthAll_of (m := e + 1) fun d hd => (ih d hd).2.2
      omega
  | @tuple e ds h hl ih =>
    refine ⟨?_, ?_, ?_⟩
    · simp only [PyData.shown, szD]
      rw [shownAll_map]
      have := tupleText_le (ds.map PyData.shown)
      have := piled_sz fun d hd => (ih d hd).1
      omega
    · simp only [PyData.showable]
      exact showableAll_of fun d hd => (ih d hd).2.1
    · simp only [PyData.depth]
      have := depthAll_of (m := e + 1) fun d hd => (ih d hd).2.2
      omega
theorem Gd.shows {k : Nat} {e : Nat} {d : PyData} (h : Gd k e d) (hk : k ≤ 1000) (he : e ≤ 50) (hz : szD d ≤ 10000000) : Shows d := by
  obtain ⟨a, b, c⟩ := h.sh (Nat.le_trans hk (by decide))
  exact ⟨b, by omega, Nat.le_trans a (Nat.le_trans hz (by decide))⟩
/-! ### texts -/
theorem ascB {x : Str} (h : (x.cps.toList.all fun c => decide (c < 128)) = true) : Asc x := fun c hc => of_decide_eq_true (List.all_eq_true.mp h c hc)
/-! ### slices and sums of tuples, whatever they are -/
section
variable {X : Cx}
end
/-! t == (), t a tuple of anything -/
section
variable {X : Cx}
theorem op_eqE {K : PySem.W.Frag} (e : X.K = K) {k : Nat} (hr : Room k X.A) : OpR X (compareOp .Eq) (fun x y H Q => ∃ a b xs, x = .ref a ∧ y = .ref b ∧ SqT K H a xs ∧ SqT K H b [] ∧ Q (.bl (decide (xs.length = 0))) H) := by
  subst e
  intro pins s σ H x y v u Q I rx ry h
  obtain ⟨a, b, xs, rfl, rfl, hx, hy, q⟩ := h
  cases rx
  cases ry
  obtain ⟨i1, r1, p1, _⟩ := I.tuple hx
  obtain ⟨i2, r2, p2, _⟩ := I.tuple hy
  cases r2
  have hun := hr.un
  refine SeqAt.eq_tupleAt (e := fun _ => true) (show s.heap.IsTuple a i1.toArray from p1) (show s.heap.IsTuple b ([] : List Value).toArray from p2) (by omega) (fun j h1 h2 => absurd h2 (by simp)) ?_
  refine ⟨.bl (decide (xs.length = 0)), H, I, ?_, q⟩
  have e1 : ((List.range (min i1.toArray.size ([] : List Value).toArray.size)).all (fun _ => true) && i1.toArray.size == ([] : List Value).toArray.size) = decide (xs.length = 0) := by
    rw [r1.length, Bool.eq_iff_iff]
    simp
  rw [e1]
  rfl
end
/-- data that a bent thing may be -/
def Ob (K : PySem.W.Frag) (N : Addr → Prop) (H : Hp) (k e z : Nat) (v : V) : Prop := ∃ d, Db K N H v d ∧ Gd k e d ∧ szD d ≤ z
theorem Ob.stay {K : PySem.W.Frag} {N : Addr → Prop} {H H' : Hp} {k e z : Nat} {v : V} (h : Ob K N H k e z v) (s : Stay K N H H') : Ob K N H' k e z v :=
  let ⟨d, a, b, c⟩ := h
  ⟨d, a.stay s, b, c⟩
theorem Ob.mono {K : PySem.W.Frag} {N : Addr → Prop} {H : Hp} {k e z k' e' z' : Nat} {v : V} (h : Ob K N H k e z v) (hk : k ≤ k') (he : e ≤ e') (hz : z ≤ z') : Ob K N H k' e' z' v :=
  let ⟨d, a, b, c⟩ := h
  ⟨d, a, b.mono hk he, by omega⟩
theorem Ob.new {K : PySem.W.Frag} {N : Addr → Prop} {H : Hp} {k e z : Nat} {v : V} {D : Addr} (h : Ob K N H k e z v) (n : H D = none) : Ob K (fun p => N p ∨ p = D) H k e z v :=
  let ⟨d, a, b, c⟩ := h
  ⟨d, a.new n, b, c⟩
/-- addresses that are in use -/
def Used (N : Addr → Prop) (H : Hp) : Prop := ∀ p, N p → H p ≠ none
theorem Used.kp {N : Addr → Prop} {H H' : Hp} (u : Used N H) (k : Kp [] H H') : Used N H' := fun p hp => by
  cases e : H p with
  | none => exact absurd e (u p hp)
  | some o => rw [k.at0 e]; exact fun z => nomatch z
theorem Used.free {N : Addr → Prop} {H : Hp} (u : Used N H) {p : Addr} (n : H p = none) : ¬ N p := fun z => u p z n
end Cf

set_option Elab.async false
set_option linter.all false
set_option maxRecDepth 100000
set_option maxHeartbeats 2000000
namespace Cf
open PySem PySem.Spec PyProof.Rows L2
/-! ### repr of data with empty dicts among its lists -/
mutual
inductive Rx (h : Heap) : Value → PyData → Prop
  | non : Rx h .none .none
  | bl (b : Bool) : Rx h (.bool b) (.bool b)
  | int (i : Int) (t : Tok) : Rx h (.int i t) (.int i)
  | str (x : Str) (t : Tok) : Rx h (.str x t) (.str x)
  | lst {a : Addr} {o : Obj} {us : Array Value} {n : Nat} {ds : List PyData} : h.get? a = some o → o.cls = .type "list" → o.data = .seq us n → RxAll h us.toList ds → Rx h (.ref a) (.list ds)
  | tup {a : Addr} {o : Obj} {us : Array Value} {n : Nat} {ds : List PyData} : h.get? a = some o → o.cls = .type "tuple" → o.data = .seq us n → RxAll h us.toList ds → Rx h (.ref a) (.tuple ds)
  | dct {a : Addr} {o : Obj} {es : Array DictEntry} {n : Nat} : h.get? a = some o → o.cls = .type "dict" → o.data = .dict es n → es.toList = [] → (a == sysModules) = false → Rx h (.ref a) (.dict [])
inductive RxAll (h : Heap) : List Value → List PyData → Prop
  | nil : RxAll h [] []
  | cons {u : Value} {us : List Value} {d : PyData} {ds : List PyData} : Rx h u d → RxAll h us ds → RxAll h (u :: us) (d :: ds)
end
mutual
theorem Rx.rd {h : Heap} : ∀ {u : Value} {d : PyData}, Rx h u d → ∃ as, Reads h u d as
  | _, _, .non => ⟨_, .none⟩
  | _, _, .bl b => ⟨_, .bool b⟩
  | _, _, .int i t => ⟨_, .int i t⟩
  | _, _, .str x t => ⟨_, .str x t⟩
  | _, _, .lst a b c q => let ⟨_, r⟩ := RxAll.rd q; ⟨_, .list a b c r⟩
  | _, _, .tup a b c q => let ⟨_, r⟩ := RxAll.rd q; ⟨_, .tuple a b c r⟩
  | _, _, .dct a b c e _ => ⟨_, .dict (as := []) (bs := []) a b c (by rw [e]; exact .nil) (by rw [e]; exact .nil)⟩
theorem RxAll.rd {h : Heap} : ∀ {us : List Value} {ds : List PyData}, RxAll h us ds → ∃ as, ReadsAll h us ds as
  | _, _, .nil => ⟨_, .nil⟩
  | _, _, .cons a t => let ⟨_, p⟩ := Rx.rd a; let ⟨_, q⟩ := RxAll.rd t; ⟨_, .cons p q⟩
end
section
variable {P : Program} {w : World} {h : Heap}
/-- what is shown of it, the addresses on the way no deeper than it is -/
def Sh (P : Program) (w : World) (h : Heap) (n : Nat) (u : Value) (t : Str) : Prop := ∃ bs, ReadAtMost h n bs ∧ ReprK P w bs h n u t
def ShAll (P : Program) (w : World) (h : Heap) (n : Nat) (us : List Value) (ts : List Str) : Prop := ∃ bs, ReadAtMost h n bs ∧ ReprAllK P w bs h n us ts
mutual
theorem Rx.sh : ∀ {u : Value} {d : PyData}, Rx h u d → d.showable = true → d.shown.length ≤ sizeLine → Sh P w h d.depth u d.shown
  | _, _, .non, hs, hz => ReprK.of_reads .none hs (fun z => by cases z) hz
  | _, _, .bl b, hs, hz => ReprK.of_reads (.bool b) hs (fun z => by cases z) hz
  | _, _, .int i t, hs, hz => ReprK.of_reads (.int i t) hs (fun z => by cases z) hz
  | _, _, .str x t, hs, hz => ReprK.of_reads (.str x t) hs (fun z => by cases z) hz
  | _, _, .lst (ds := ds) (us := us) e1 e2 e3 q, hs, hz => by
    simp only [PyData.showable] at hs
    simp only [PyData.shown] at hz
    obtain ⟨bs, m, k⟩ := RxAll.sh q hs fun t ht => Nat.le_trans (listText_mem_le ht) hz
    obtain ⟨_, r⟩ := (Rx.lst e1 e2 e3 q).rd
    have out := not_mem_of_deeper r (n := PyData.depthAll ds) (by simp only [PyData.depth]; omega) m
    refine ⟨_, ReadAtMost.cons r (by simp only [PyData.depth]; omega) m, ?_⟩
    simp only [PyData.depth, PyData.shown]
    obtain ⟨l⟩ := us
    match l, q, e3, k with
    | [], q, e3, k =>
      cases (show RxAll h [] ds from q)
      simp only [PyData.shownAll, listText_nil]
      exact ReprK.listEmpty e1 e2 e3
    | x :: l, q, e3, k => exact ReprK.list e1 e2 e3 out (by simpa using k.length_eq) (fun i y z => k.item i y (by simpa using z))
  | _, _, .tup (ds := ds) e1 e2 e3 q, hs, hz => by
    simp only [PyData.showable] at hs
    simp only [PyData.shown] at hz
    obtain ⟨bs, m, k⟩ := RxAll.sh q hs fun t ht => Nat.le_trans (tupleText_mem_le ht) hz
    obtain ⟨_, r⟩ := (Rx.tup e1 e2 e3 q).rd
    have out := not_mem_of_deeper r (n := PyData.depthAll ds) (by simp only [PyData.depth]; omega) m
    refine ⟨_, ReadAtMost.cons r (by simp only [PyData.depth]; omega) m, ?_⟩
    simp only [PyData.depth, PyData.shown]
    exact ReprK.tuple e1 e2 e3 out k
  | _, _, .dct (a := a) e1 e2 e3 e4 e5, hs, hz =>
    ReprK.of_reads (.dict (as := []) (bs := []) e1 e2 e3 (by rw [e4]; exact .nil) (by rw [e4]; exact .nil)) hs (fun _ z => by
      rcases List.mem_cons.mp z with z | z
      · rw [← z] at e5
        exact absurd e5 (by decide)
      · cases z) hz
theorem RxAll.sh : ∀ {us : List Value} {ds : List PyData}, RxAll h us ds → PyData.showableAll ds = true → (∀ t ∈ PyData.shownAll ds, t.length ≤ sizeLine) → ShAll P w h (PyData.depthAll ds) us (PyData.shownAll ds)
  | _, _, .nil, _, _ => ⟨[], fun _ z => (List.not_mem_nil z).elim, by simp only [PyData.shownAll]; exact .nil⟩
  | _, _, .cons (d := d) (ds := ds) a t, hs, hz => by
    simp only [PyData.showableAll, Bool.and_eq_true] at hs
    simp only [PyData.shownAll, List.forall_mem_cons] at hz
    obtain ⟨b1, m1, k1⟩ := Rx.sh a hs.1 hz.1
    obtain ⟨b2, m2, k2⟩ := RxAll.sh t hs.2 hz.2
    simp only [PyData.depthAll, PyData.shownAll]
    refine ⟨b1 ++ b2, (m1.mono (Nat.le_max_left _ _)).append (m2.mono (Nat.le_max_right _ _)), .cons ?_ ?_⟩
    · exact (k1.more fun b z => List.mem_append_left _ z).level_le (Nat.le_max_left _ _)
    · exact k2.more_le (fun b z => List.mem_append_right _ z) (Nat.le_max_right _ _)
end
variable {A : Around} {E : Value → Shared → Prop} {s : Shared} {Q : Value → Shared → Prop}
theorem repr_rx {a : Addr} {d : PyData} (x : Rx h (.ref a) d) (hs : d.showable = true) (hz : d.shown.length ≤ sizeLine) (hg : A.guards = some []) (hu : A.units + (d.depth + 1) < cLine) (hk : ∀ b o, h.get? b = some o → s.heap.get? b = some o)
    (hQ : ∀ h' t tk, (∀ b o, s.heap.get? b = some o → h'.get? b = some o) → Q (.str d.shown t) { s with heap := h', toks := tk }) : wpAny (model P w) A (call (.builtin "repr") [.ref a]) Q E s := by
  cases x with
  | @lst _ o us n ds e1 e2 e3 q =>
    simp only [PyData.showable] at hs
    simp only [PyData.shown] at hz hQ
    simp only [PyData.depth] at hu
    obtain ⟨bs, m, k⟩ := RxAll.sh (P := P) (w := w) q hs fun t ht => Nat.le_trans (listText_mem_le ht) hz
    obtain ⟨_, r⟩ := (Rx.lst e1 e2 e3 q).rd
    have out := not_mem_of_deeper r (n := PyData.depthAll ds) (by simp only [PyData.depth]; omega) m
    refine call_repr_slot (by omega) ⟨o, hk _ _ e1, e2⟩ F.slot_list_repr.toG ?_
    obtain ⟨l⟩ := us
    match l, q, e3, k with
    | [], q, e3, k =>
      cases (show RxAll h [] ds from q)
      simp only [PyData.shownAll, listText_nil] at hQ
      exact call_list_repr_empty ⟨o, hk _ _ e1, e2⟩ (hk _ _ e1) e3 ⟨_, _, rfl, hQ s.heap _ _ fun _ _ z => z⟩
    | x :: l, q, e3, k => exact call_list_reprK e1 e2 e3 out (by simpa using k.length_eq) (fun i y z => k.item i y (by simpa using z)) hg (fun b _ => Clear.nil b) (by show A.units + 1 + _ < cLine; omega) hk (fun h' t tk z => ⟨_, _, rfl, hQ h' t tk z⟩) hz
  | @tup _ o us n ds e1 e2 e3 q =>
    simp only [PyData.showable] at hs
    simp only [PyData.shown] at hz hQ
    simp only [PyData.depth] at hu
    obtain ⟨bs, m, k⟩ := RxAll.sh (P := P) (w := w) q hs fun t ht => Nat.le_trans (tupleText_mem_le ht) hz
    obtain ⟨_, r⟩ := (Rx.tup e1 e2 e3 q).rd
    have out := not_mem_of_deeper r (n := PyData.depthAll ds) (by simp only [PyData.depth]; omega) m
    refine call_repr_slot (by omega) ⟨o, hk _ _ e1, e2⟩ F.slot_tuple_repr ?_
    exact call_tuple_reprK e1 e2 e3 out k hg (fun b _ => Clear.nil b) (by show A.units + 1 + _ < cLine; omega) hk (fun h' t tk z => ⟨_, _, rfl, hQ h' t tk z⟩) hz
  | dct e1 e2 e3 e4 e5 =>
    refine repr_of_reads' (.dict (as := []) (bs := []) e1 e2 e3 (by rw [e4]; exact .nil) (by rw [e4]; exact .nil)) hs (fun _ z => ?_) hg hu hk hQ hz
    rcases List.mem_cons.mp z with z | z
    · rw [← z] at e5
      exact absurd e5 (by decide)
    · cases z
end
section
variable {X : Cx} {pins : List (Addr × Obj)} {σ : L2.St} {N : Addr → Prop} {H : Hp} {s : Shared}
mutual
theorem Db.rx (I : L2.Inv X pins σ H s) : ∀ (d : PyData) (v : V) (u : Value), Db X.K N H v d → RelV v u → Rx s.heap u d
  | .none, _, _, q, r => by
    cases q
    cases r
    exact .non
  | .bool b, _, _, q, r => by
    cases q
    cases r
    exact .bl b
  | .int i, _, _, q, r => by
    cases q
    obtain ⟨t, rfl⟩ := r
    exact .int i t
  | .str x, _, _, q, r => by
    cases q
    obtain ⟨t, rfl⟩ := r
    exact .str x t
  | .list ds, _, _, q, r => by
    cases q with
    | lst hs na ha =>
      cases r
      obtain ⟨its, rv, ⟨o, n, ho, hc, _, hd⟩, _⟩ := I.list (.inl (.inl hs))
      exact .lst ho hc hd (DbAll.rx I ds _ its ha rv)
  | .tuple ds, _, _, q, r => by
    cases q with
    | tup hs ha =>
      cases r
      obtain ⟨its, rv, ⟨o, ho, hc, n, hd⟩, _⟩ := I.tuple hs
      exact .tup ho hc hd (DbAll.rx I ds _ its ha rv)
  | .dict kvs, _, _, q, r => by
    cases q with
    | dct hd =>
      cases r
      obtain ⟨_, hsm, xs, hp, o, es, ep, ho, he, hdt, hes, _⟩ := I.hok _ _ hd
      cases hp
      exact .dct ho he.1 hdt hes hsm
theorem DbAll.rx (I : L2.Inv X pins σ H s) : ∀ (ds : List PyData) (vs : List V) (us : List Value), DbAll X.K N H vs ds → Vals vs us → RxAll s.heap us ds
  | [], _, _, q, r => by
    cases q
    cases r
    exact .nil
  | d :: ds, _, _, q, r => by
    cases q with
    | cons h1 h2 =>
      cases r with
      | cons r1 r2 => exact .cons (Db.rx I d _ _ h1 r1) (DbAll.rx I ds _ _ h2 r2)
end
end
/-- repr(x) of data of any kind -/
def rReprX (K : PySem.W.Frag) : List V → Hp → VK → Prop := fun xs H Q => ∃ x d, ∃ N : Addr → Prop, xs = [x] ∧ Db K N H x d ∧ Shows d ∧ Q (.str d.shown) H
section
variable {X : Cx}
theorem call_reprX {k : Nat} {K : PySem.W.Frag} (e : X.K = K) (hr : Room k X.A) (hgd : X.A.guards = some []) : CallR X (.builtin "repr") (rReprX K) := by
  subst e
  intro pins s σ H xs us Q I r h
  obtain ⟨x, d, N, rfl, hd, ⟨hs, hdp, hz⟩, q⟩ := h
  obtain ⟨u, rfl, ru⟩ := vals1 r
  have rx := hd.rx I d x u ru
  have hun := hr.un
  cases hd with
  | non => exact call_repr hr hgd pins s σ H _ [u] Q I r ⟨_, _, rfl, .non, ⟨hs, hdp, hz⟩, q⟩
  | bl b => exact call_repr hr hgd pins s σ H _ [u] Q I r ⟨_, _, rfl, .bl b, ⟨hs, hdp, hz⟩, q⟩
  | int i => exact call_repr hr hgd pins s σ H _ [u] Q I r ⟨_, _, rfl, .int i, ⟨hs, hdp, hz⟩, q⟩
  | str y => exact call_repr hr hgd pins s σ H _ [u] Q I r ⟨_, _, rfl, .str y, ⟨hs, hdp, hz⟩, q⟩
  | lst sq na al =>
    cases (show u = Value.ref _ from ru)
    exact repr_rx rx hs hz hgd (by omega) (fun _ _ z => z) (fun h' t tk hk => ⟨.str _, H, I.kept hk, ⟨_, rfl⟩, q⟩)
  | tup sq al =>
    cases (show u = Value.ref _ from ru)
    exact repr_rx rx hs hz hgd (by omega) (fun _ _ z => z) (fun h' t tk hk => ⟨.str _, H, I.kept hk, ⟨_, rfl⟩, q⟩)
  | dct hd =>
    cases (show u = Value.ref _ from ru)
    exact repr_rx rx hs hz hgd (by omega) (fun _ _ z => z) (fun h' t tk hk => ⟨.str _, H, I.kept hk, ⟨_, rfl⟩, q⟩)
end
end Cf

set_option Elab.async false
set_option linter.all false
set_option maxRecDepth 100000
namespace Cf
open PySem PySem.Spec PyProof.Rows L2
open LamX (CodeO TabS Tabs ExtN TabB)
theorem loose_int {lv : List (Str × PySem.W.WData)} {mg : Str → Option Value} {h : Heap} {x : Str} {n : Int} (L : PySem.W.LooseAre lv mg h) (m : (x, PySem.W.WData.int n) ∈ lv) : ∃ t, mg x = some (.int n t) := by
  obtain ⟨v, e, r⟩ := L.val _ m
  cases r
  exact ⟨_, e⟩
/-- the end of a law some of whose constants are written as sums -/
theorem walkL {l : PySem.W.OpenLaw} {n k : Nat} {q p : Program} {lv : List (Str × PySem.W.WData)} {loose : List Str} {YP : World → Heap → Prop} {d : DefRec} {K : Params → PySem.W.Frag} {x : Str}
    (hn : l.most = some n) (hn2 : n ≤ sizeLine) (hdf : d.params.defaults = []) (hr : Room k callerA) (hY : ∀ (w : World) (h : Heap), YP w h → (K w.params).In h)
    (F : ∀ (w : World) (mg : Str → Option Value) (fa : Addr) (h : Heap), YP w h → PySem.W.LooseAre lv mg h → (K w.params).In h → h.Ns mainGlobals mg → mg d.name = some (.ref fa) →
      ∃ (fd : FuncData) (cs : List (Addr × Addr)) (sp : Sp), (∀ t ∈ cs, h.get? t.2 = some { cls := .none, data := .fields #[] }) ∧ (∀ t ∈ cs, (K w.params).lookup t.2 = none) ∧ (∀ t ∈ cs, PySem.W.CodeHd h t.1 t.2) ∧ (∀ (s : Shared) (u : Value), BindsTo s fd ⟨[u], []⟩ [(x, u)]) ∧
        (∀ (H : Hp) (a : Addr) (ns : List Int), ns.length ≤ n → (∀ t ∈ cs, H t.2 = some (.tbl #[])) → SqL (K w.params) H a (ns.map V.int) → sp [.ref a] H (fun v _ => v = .bl true) fun _ _ _ => False) ∧
        ∀ base : Heap, (K w.params).In base → base.Ns mainGlobals mg → (∀ t ∈ cs, TabB base mg t.1 t.2) → FnG l.prog w (K w.params) mg base CX0 k fa fd [x] sp) :
    PySem.W.WalkO q loose (PySem.W.XL p lv) YP l.row.toRowW d [] (fun f vs => PySem.call f vs) := by
  refine Att.attach_call hn hdf ?_
  intro w s0 s1 mg mb fa o pm cd doc a vs ns G Y ho hd hcd hmg hobj hints hlen hg
  have inK := hY w _ Y
  obtain ⟨fd, cs, sp, hT, nT, hC, hb, hsp, hF⟩ := F w mg fa _ Y G.X.2 inK G.T.g hmg
  exact law_callT inK G.T.g G.T.b G.T.builtins G.T.nolimit hg hT nT hC G.T.bmain hobj hints (Nat.le_trans hlen hn2) hr hF hb (fun H hH hS => hsp H a ns hlen hH hS) (fun H e s' h => h)
end Cf

set_option Elab.async false
set_option linter.all false
set_option maxRecDepth 100000
namespace Cf
open PySem PySem.Spec PyProof.Rows L2
section
variable {X : Cx}
end
end Cf

set_option Elab.async false
set_option linter.all false
set_option maxRecDepth 100000
namespace Cf
open PySem PySem.Spec PyProof.Rows L2
/-! ### ints in a list of the program's own, or in a tuple -/
def Si2 (K : PySem.W.Frag) (H : Hp) (p : Addr) (ns : List Int) : Prop := IL H p ns ∨ SqT K H p (ns.map V.int)
section
variable {K : PySem.W.Frag} {H H' : Hp} {p D : Addr} {ns : List Int}
theorem Si2.kp0 (h : Si2 K H p ns) (k : Kp [] H H') : Si2 K H' p ns := h.imp (fun h => k.at0 h) fun h => k.tup0 h
theorem Si2.md {acc : List V} (h : Si2 K H p ns) (hD : H D = some (.lst acc)) (m : Md D H H') (ne : p ≠ D ∨ SqT K H p (ns.map V.int)) : Si2 K H' p ns := by
  rcases ne with ne | h2
  · exact h.imp (fun h => (m p ne).trans h) fun h => m.kp.tup1 hD h
  · exact .inr (m.kp.tup1 hD h2)
theorem Si2.seq (h : Si2 K H p ns) : SqL K H p (ns.map V.int) ∨ SqT K H p (ns.map V.int) := h.imp (fun h => sqL h) id
theorem Si2.h1 {a : Addr} {ys : List V} (h : (IL H p ns ∧ p ≠ a) ∨ SqT K H p (ns.map V.int)) (ha : H a = some (.lst ys)) (k : Kp [a] H H') : Si2 K H' p ns := h.imp (fun h => k.at1 h.2 h.1) fun h => k.tup1 ha h
end
section
variable {X : Cx}
end
end Cf

set_option Elab.async false
set_option linter.all false
set_option maxRecDepth 100000
namespace Cf
open PySem PySem.Spec PyProof.Rows L2
/-! ### a def of one's own, called by keywords alone -/
def pickU (js : List Nat) (ws : List Value) : List Value := js.map fun j => ws.getD j .none
structure ClK (P : Program) (w : World) (K : PySem.W.Frag) (mg : Str → Option Value) (base : Heap) (CX : CXT) (k : Nat) (x : Str) (ks : List Str) (js : List Nat) (sp : Sp) : Prop where
  ex : ∃ (f : Addr) (fd : FuncData) (ps : List Str), FnG P w K mg base CX k f fd ps sp ∧ mg x = some (.ref f) ∧ PySem.W.keepIn K (.ref f) = true ∧
    ∀ (s : Shared) (ws : List Value), ws.length = ks.length → BindsTo s fd ⟨[], ks.zip ws⟩ (ps.zip (pickU js ws))
section
variable {X : Cx} {CX : CXT} {k : Nat} {sp : Sp} {E : XK} {x : Str} {p pos : Pos} {ks : List Str} {js : List Nat} {kws : List Keyword} {tk : TA}
end
end Cf

set_option Elab.async false
set_option linter.all false
set_option maxRecDepth 100000
set_option maxHeartbeats 2000000
namespace Cf
open PySem PySem.Spec PyProof.Rows L2
/-! ### a dict by a comprehension, whose keys are tuples -/
section
variable {X : Cx}
/-- what the parts of the comprehension promise, within its block -/
structure Parts (X : Cx) (scope : Scope) (tg kx vx : Expr) (ifs : List Expr) (g : TG) (tt : TT) (tk tv : TE) : Prop where
  tg : ∀ (m : Shared) (G : Hp) (C : Addr) (cl : List (Str × Addr)) (fp : List Addr), PG (X.blk m G scope (compEnvC scope cl C X.env) fp) tg g
  ts : ∀ (m : Shared) (G : Hp) (C : Addr) (cl : List (Str × Addr)) (fp : List Addr), PTs (X.blk m G scope (compEnvC scope cl C X.env) fp) ifs tt
  ky : ∀ (m : Shared) (G : Hp) (C : Addr) (cl : List (Str × Addr)) (fp : List Addr), PE (X.blk m G scope (compEnvC scope cl C X.env) fp) kx tk
  vl : ∀ (m : Shared) (G : Hp) (C : Addr) (cl : List (Str × Addr)) (fp : List Addr), PE (X.blk m G scope (compEnvC scope cl C X.env) fp) vx tv
theorem Parts.ups {scope : Scope} {tg kx vx : Expr} {ifs : List Expr} {g : TG} {tt : TT} {tk tv : TE} (ps : Parts X scope tg kx vx ifs g tt tk tv) : Parts X scope tg kx vx ifs (upG g) (upT tt) (upE tk) (upE tv) :=
  ⟨fun a b c d e => pg_up (ps.tg a b c d e), fun a b c d e => pts_up (ps.ts a b c d e), fun a b c d e => pe_up (ps.ky a b c d e), fun a b c d e => pe_up (ps.vl a b c d e)⟩
end
end Cf

set_option Elab.async false
set_option linter.all false
set_option maxRecDepth 100000
set_option maxHeartbeats 2000000
namespace Cf
open PySem PySem.Spec PyProof.Rows L2
/-! ### numbers that may be None, and dicts of them by tuples -/
def oV : Option Int → V
  | none => .non
  | some i => .int i
section
variable {X : Cx}
end
/-! ### pairs of a tuple and a number or None -/
inductive Pn (H : Hp) : List V → List (List Int × Option Int) → Prop
  | nil : Pn H [] []
  | cons {t u : Addr} {ns : List Int} {o : Option Int} {xs : List V} {ps : List (List Int × Option Int)} : H t = some (.tup [.ref u, oV o]) → H u = some (.tup (ns.map V.int)) → Pn H xs ps → Pn H (.ref t :: xs) ((ns, o) :: ps)
section
variable {H H' : Hp} {xs ys : List V} {ps qs : List (List Int × Option Int)}
theorem Pn.go (e : ∀ p zs, H p = some (.tup zs) → H' p = some (.tup zs)) : ∀ {xs : List V} {ps : List (List Int × Option Int)}, Pn H xs ps → Pn H' xs ps
  | _, _, .nil => .nil
  | _, _, .cons a b r => .cons (e _ _ a) (e _ _ b) (Pn.go e r)
theorem Pn.len : ∀ {xs : List V} {ps : List (List Int × Option Int)}, Pn H xs ps → xs.length = ps.length
  | _, _, .nil => rfl
  | _, _, .cons _ _ r => congrArg (· + 1) r.len
theorem Pn.one {t u : Addr} {ns : List Int} {o : Option Int} (h : H t = some (.tup [.ref u, oV o])) (hu : H u = some (.tup (ns.map V.int))) : Pn H [.ref t] [(ns, o)] := .cons h hu .nil
theorem Pn.get : ∀ {xs : List V} {ps : List (List Int × Option Int)} {i : Nat} {x : V}, Pn H xs ps → xs[i]? = some x → ∃ t u, x = .ref t ∧ i < ps.length ∧ H t = some (.tup [.ref u, oV (ps.getD i ([], none)).2]) ∧ H u = some (.tup ((ps.getD i ([], none)).1.map V.int))
  | _, _, 0, _, .cons a b r, e => by
    cases e
    exact ⟨_, _, rfl, Nat.succ_pos _, a, b⟩
  | _, _, i + 1, _, .cons a b r, e => by
    obtain ⟨t, u, h1, h2, h3, h4⟩ := Pn.get (i := i) r e
    exact ⟨t, u, h1, Nat.succ_lt_succ h2, h3, h4⟩
end
def oD : Option Int → PyData
  | none => .none
  | some i => .int i
def pnD (p : List Int × Option Int) : PyData := .tuple [tupD p.1, oD p.2]
theorem Pn.dp {K : PySem.W.Frag} {H : Hp} : ∀ {xs : List V} {ps : List (List Int × Option Int)}, Pn H xs ps → DpAll K H xs (ps.map pnD)
  | _, _, .nil => .nil
  | _, _, .cons (o := o) a b r => .cons (.tup (sqT a) (.cons (dp_ti (sqT b)) (.cons (by cases o with | none => exact .non | some i => exact .int i) .nil))) r.dp
section
variable {X : Cx}
end
/-! ### a dict that holds f s for each s of S -/
end Cf

set_option Elab.async false
set_option linter.all false
set_option maxRecDepth 100000
set_option maxHeartbeats 2000000
namespace Cf
open PySem PySem.Spec PyProof.Rows L2
section
variable {X : Cx}
end
end Cf

set_option Elab.async false
set_option linter.all false
set_option maxRecDepth 100000
set_option maxHeartbeats 2000000
namespace Cf
open PySem PySem.Spec PyProof.Rows L2
section
variable {X : Cx}
end
end Cf
namespace Cf
open PySem PySem.Spec PyProof.Rows L2
section
variable {X : Cx}
end
end Cf

set_option Elab.async false
set_option linter.all false
set_option maxRecDepth 100000
set_option maxHeartbeats 2000000
namespace Cf
open PySem PySem.Spec PyProof.Rows L2
open Sem (wp)
open AutoSeq1 (wpAny_loadPart')
/-! ### tuple(d.items()) -/
section
variable {X : Cx}
end
end Cf

set_option Elab.async false
set_option linter.all false
set_option maxRecDepth 100000
set_option maxHeartbeats 2000000
namespace Cf
open PySem PySem.Spec PyProof.Rows L2
open Sem (wp)
/-! ### sorted(d), d with tuples for keys -/
section
variable {prog : Program} {w : World} {A : Around} {s : Shared}
end
section
variable {X : Cx}
/-! ### dict(xs), xs pairs of a tuple and anything -/
end
end Cf

set_option Elab.async false
set_option linter.all false
set_option maxRecDepth 100000
set_option maxHeartbeats 2000000
namespace Cf
open PySem PySem.Spec PyProof.Rows L2
section
variable {X : Cx}
end
end Cf

set_option Elab.async false
set_option linter.all false
set_option maxRecDepth 100000
set_option maxHeartbeats 2000000
namespace Cf
open PySem PySem.Spec PyProof.Rows L2
open LamX (Tabs)
theorem sqH {K : PySem.W.Frag} {H : Hp} {p : Addr} {xs : List V} (h : H p = some (.tup xs)) : L2.SqT K H p xs := sqT h
namespace Pt
/-! ### data whose tuples stand in the heap, unlocked -/
abbrev SqT (K : PySem.W.Frag) (H : Hp) (p : Addr) (xs : List V) : Prop := H p = some (.tup xs)
theorem sqT {K : PySem.W.Frag} {H : Hp} {p : Addr} {xs : List V} (h : H p = some (.tup xs)) : SqT K H p xs := h
mutual
inductive Db (K : PySem.W.Frag) (N : Addr → Prop) (H : Hp) : V → PyData → Prop
  | non : Db K N H .non .none
  | bl (b : Bool) : Db K N H (.bl b) (.bool b)
  | int (i : Int) : Db K N H (.int i) (.int i)
  | str (x : Str) : Db K N H (.str x) (.str x)
  | lst {a : Addr} {xs : List V} {ds : List PyData} : H a = some (.lst xs) → ¬ N a → DbAll K N H xs ds → Db K N H (.ref a) (.list ds)
  | tup {a : Addr} {xs : List V} {ds : List PyData} : SqT K H a xs → DbAll K N H xs ds → Db K N H (.ref a) (.tuple ds)
  | dct {a : Addr} : H a = some (.dT []) → Db K N H (.ref a) (.dict [])
inductive DbAll (K : PySem.W.Frag) (N : Addr → Prop) (H : Hp) : List V → List PyData → Prop
  | nil : DbAll K N H [] []
  | cons {v : V} {vs : List V} {d : PyData} {ds : List PyData} : Db K N H v d → DbAll K N H vs ds → DbAll K N H (v :: vs) (d :: ds)
end
section
variable {K : PySem.W.Frag} {N N' : Addr → Prop} {H H' : Hp}
/-- what stays of a heap, stays of its data -/
structure Stay (K : PySem.W.Frag) (N : Addr → Prop) (H H' : Hp) : Prop where
  l : ∀ p xs, ¬ N p → H p = some (.lst xs) → H' p = some (.lst xs)
  t : ∀ p xs, SqT K H p xs → SqT K H' p xs
  d : ∀ p, H p = some (.dT []) → H' p = some (.dT [])
mutual
theorem Db.stay (k : Stay K N H H') : ∀ {v : V} {d : PyData}, Db K N H v d → Db K N H' v d
  | _, _, .non => .non
  | _, _, .bl b => .bl b
  | _, _, .int i => .int i
  | _, _, .str x => .str x
  | _, _, .lst s n h => .lst (k.l _ _ n s) n (DbAll.stay k h)
  | _, _, .tup s h => .tup (k.t _ _ s) (DbAll.stay k h)
  | _, _, .dct h => .dct (k.d _ h)
theorem DbAll.stay (k : Stay K N H H') : ∀ {vs : List V} {ds : List PyData}, DbAll K N H vs ds → DbAll K N H' vs ds
  | _, _, .nil => .nil
  | _, _, .cons h t => .cons (Db.stay k h) (DbAll.stay k t)
end
theorem Stay.trans {H1 : Hp} (a : Stay K N H H1) (b : Stay K N H1 H') : Stay K N H H' := ⟨fun p xs n e => b.l p xs n (a.l p xs n e), fun p xs e => b.t p xs (a.t p xs e), fun p e => b.d p (a.d p e)⟩
mutual
theorem Db.more (h : ∀ p xs, H p = some (.lst xs) → ¬ N p → ¬ N' p) : ∀ {v : V} {d : PyData}, Db K N H v d → Db K N' H v d
  | _, _, .non => .non
  | _, _, .bl b => .bl b
  | _, _, .int i => .int i
  | _, _, .str x => .str x
  | _, _, .lst s n q => .lst s (h _ _ s n) (DbAll.more h q)
  | _, _, .tup s q => .tup s (DbAll.more h q)
  | _, _, .dct q => .dct q
theorem DbAll.more (h : ∀ p xs, H p = some (.lst xs) → ¬ N p → ¬ N' p) : ∀ {vs : List V} {ds : List PyData}, DbAll K N H vs ds → DbAll K N' H vs ds
  | _, _, .nil => .nil
  | _, _, .cons a t => .cons (Db.more h a) (DbAll.more h t)
end
/-- one more address that is new -/
theorem Db.new {D : Addr} {v : V} {d : PyData} (h : Db K N H v d) (n : H D = none) : Db K (fun p => N p ∨ p = D) H v d :=
  h.more fun p xs e np z => z.elim np fun z => by rw [z, n] at e; cases e
theorem DbAll.len : ∀ {vs : List V} {ds : List PyData}, DbAll K N H vs ds → vs.length = ds.length
  | _, _, .nil => rfl
  | _, _, .cons _ t => by simp only [List.length_cons]; rw [t.len]
theorem DbAll.take : ∀ {vs : List V} {ds : List PyData} (n : Nat), DbAll K N H vs ds → DbAll K N H (vs.take n) (ds.take n)
  | _, _, 0, _ => by simp only [List.take_zero]; exact .nil
  | _, _, n + 1, .nil => by simp only [List.take_nil]; exact .nil
  | _, _, n + 1, .cons a t => .cons a (t.take n)
theorem DbAll.drop : ∀ {vs : List V} {ds : List PyData} (n : Nat), DbAll K N H vs ds → DbAll K N H (vs.drop n) (ds.drop n)
  | _, _, 0, h => h
  | _, _, n + 1, .nil => by simp only [List.drop_nil]; exact .nil
  | _, _, n + 1, .cons a t => t.drop n
theorem DbAll.get : ∀ {vs : List V} {ds : List PyData} {v : V} {i : Nat}, DbAll K N H vs ds → vs[i]? = some v → ∃ d, ds[i]? = some d ∧ Db K N H v d
  | _, _, _, _, .nil, e => by cases e
  | _, _, _, 0, .cons a t, e => ⟨_, rfl, by cases e; exact a⟩
  | _, _, _, i + 1, .cons a t, e => t.get (i := i) e
theorem DbAll.mem {vs : List V} {ds : List PyData} {v : V} (h : DbAll K N H vs ds) (m : v ∈ vs) : ∃ d ∈ ds, Db K N H v d := by
  obtain ⟨i, hi, e⟩ := List.getElem_of_mem m
  obtain ⟨d, e2, r⟩ := h.get (List.getElem?_eq_some_iff.mpr ⟨hi, e⟩)
  exact ⟨d, List.mem_of_getElem? e2, r⟩
theorem DbAll.ints : ∀ ns : List Int, DbAll K N H (ns.map V.int) (ns.map PyData.int)
  | [] => .nil
  | n :: r => .cons (.int n) (DbAll.ints r)
theorem Db.ty {v : V} {d : PyData} (h : Db K N H v d) : TyX K H v (.type (tyN d)) := by
  cases h with
  | non => exact .base .non
  | bl b => exact .base (.bl b)
  | int i => exact .base (.int i)
  | str x => exact .base (.str x)
  | lst e n a => exact ty_lst (.inl (.inl e))
  | tup e a => exact ty_tup (sqH e)
  | dct e => exact .base (.dT e)
theorem Db.kn {v : V} {d : PyData} (h : Db K N H v d) : Kn K H v := by
  cases h with
  | non => exact .non
  | bl b => exact .bl b
  | int i => exact .int i
  | str x => exact .str x
  | lst e n a => exact .lst (.inl (.inl e))
  | tup e a => exact .tup (sqH e)
  | dct e => exact .dT e
end
/-- data that a bent thing may be -/
def Ob (K : PySem.W.Frag) (N : Addr → Prop) (H : Hp) (k e z : Nat) (v : V) : Prop := ∃ d, Db K N H v d ∧ Gd k e d ∧ szD d ≤ z
theorem Ob.stay {K : PySem.W.Frag} {N : Addr → Prop} {H H' : Hp} {k e z : Nat} {v : V} (h : Ob K N H k e z v) (s : Stay K N H H') : Ob K N H' k e z v :=
  let ⟨d, a, b, c⟩ := h
  ⟨d, a.stay s, b, c⟩
theorem Ob.mono {K : PySem.W.Frag} {N : Addr → Prop} {H : Hp} {k e z k' e' z' : Nat} {v : V} (h : Ob K N H k e z v) (hk : k ≤ k') (he : e ≤ e') (hz : z ≤ z') : Ob K N H k' e' z' v :=
  let ⟨d, a, b, c⟩ := h
  ⟨d, a, b.mono hk he, by omega⟩
theorem Ob.new {K : PySem.W.Frag} {N : Addr → Prop} {H : Hp} {k e z : Nat} {v : V} {D : Addr} (h : Ob K N H k e z v) (n : H D = none) : Ob K (fun p => N p ∨ p = D) H k e z v :=
  let ⟨d, a, b, c⟩ := h
  ⟨d, a.new n, b, c⟩
/-! ### rules -/
section
variable {X : Cx}
theorem op_eqE {K : PySem.W.Frag} (e : X.K = K) {k : Nat} (hr : Room k X.A) : OpR X (compareOp .Eq) (fun x y H Q => ∃ a b xs, x = .ref a ∧ y = .ref b ∧ SqT K H a xs ∧ SqT K H b [] ∧ Q (.bl (decide (xs.length = 0))) H) :=
  op_imp (Cf.op_eqE e hr) fun _ _ _ _ ⟨a, b, xs, e1, e2, e3, e4, q⟩ => ⟨a, b, xs, e1, e2, sqH e3, sqH e4, q⟩
theorem call_len_seqK {K : PySem.W.Frag} (e : X.K = K) : CallR X (.builtin "len") (fun xs H Q => ∃ p ys, xs = [.ref p] ∧ (SqL K H p ys ∨ SqT K H p ys) ∧ Q (.int ys.length) H) :=
  call_imp (Cf.call_len_seqK e) fun _ _ _ ⟨p, ys, e1, e2, q⟩ => ⟨p, ys, e1, e2.imp id sqH, q⟩
theorem ix_taN {K : PySem.W.Frag} (e : X.K = K) : IxR X (fun x y H Q => ∃ (p : Addr) (xs : List V) (i : Nat) (v : V), x = .ref p ∧ y = .int (i : Int) ∧ SqT K H p xs ∧ xs[i]? = some v ∧ Q v H) :=
  ix_imp (Cf.ix_taN e) fun _ _ _ _ ⟨p, xs, i, v, e1, e2, e3, q⟩ => ⟨p, xs, i, v, e1, e2, sqH e3, q⟩
end
end Pt
mutual
theorem Pt.Db.db {K : PySem.W.Frag} {N : Addr → Prop} {H : Hp} : ∀ {v : V} {d : PyData}, Pt.Db K N H v d → Cf.Db K N H v d
  | _, _, .non => .non
  | _, _, .bl b => .bl b
  | _, _, .int i => .int i
  | _, _, .str x => .str x
  | _, _, .lst s n h => .lst s n (Pt.DbAll.db h)
  | _, _, .tup s h => .tup (sqH s) (Pt.DbAll.db h)
  | _, _, .dct h => .dct h
theorem Pt.DbAll.db {K : PySem.W.Frag} {N : Addr → Prop} {H : Hp} : ∀ {vs : List V} {ds : List PyData}, Pt.DbAll K N H vs ds → Cf.DbAll K N H vs ds
  | _, _, .nil => .nil
  | _, _, .cons h t => .cons h.db (Pt.DbAll.db t)
end
end Cf

set_option Elab.async false
set_option linter.all false
set_option maxRecDepth 100000
set_option maxHeartbeats 2000000
namespace Cf
open PySem PySem.Spec PyProof.Rows L2
section
variable {X : Cx}
/-! ### {t: v}, t a tuple -/
/-! ### the length of a dict with tuples for keys -/
/-! ### xs[i::k], xs any list -/
end
end Cf

set_option Elab.async false
set_option linter.all false
set_option maxRecDepth 100000
namespace Cf
open PySem PySem.Spec PyProof.Rows L2
/-! ### {**d, k: v} -/
section
variable {prog : Program} {w : World} {K : Type} [DecidableEq K] {knd : KeyKind prog w K} {A : Around} {E : Value → Shared → Prop} {s : Shared}
theorem wpAny_dictPut {d : Addr} {kvs : List (K × Value)} {k : K} {key v : Value} {Q : Unit → Shared → Prop} (hkey : knd.is k key = true) (hm : s.heap.DictOf knd d kvs)
    (hQ : ∀ h', h'.DictOf knd d (stored kvs k v) → Heap.SameBut d s.heap h' → Q () { s with heap := h' })
    (hsz : kvs.length ≤ sizeLine) :
    wpAny (model prog w) A (dictPut d (knd.hash k) key v) Q E s := by
  obtain ⟨o, es, ep, ho, hc, hd, hk, hp, hn⟩ := hm
  have hes : es.size ≤ sizeLine := by have e1 := hp.length; have e2 : es.toList.length = es.size := by simp
                                      omega
  unfold dictPut
  refine wpAny_bind (wpAny_dictFind_of hkey ho hd hk ?_)
  have hidx : (es.findIdx? fun e => knd.is k e.key) = kvs.findIdx? fun kv => decide (kv.1 = k) := by
    rw [← hp.findIdx k]; obtain ⟨l⟩ := es; simp
  cases hi : es.findIdx? fun e => knd.is k e.key with
  | some i =>
    refine (wpAny_updateDict ho hd ((hQ _ ⟨_, _, ep, Heap.get?_update_self _ ho (Obj.isFreed_of_dict (Obj.data_mapDict hd _)),
      hc.mapDict _, Obj.data_mapDict hd _, hk.modify _ _, ?_, ?_⟩ (Heap.SameBut.update ..))))
    · rw [stored, if_pos (any_of_findIdx_some (hidx ▸ hi))]
      have hl : (es.toList.findIdx? fun e => knd.is k e.key) = some i := by rw [← hi]; obtain ⟨l⟩ := es; simp
      have := hp.modify hn hl v
      obtain ⟨l⟩ := es
      simpa using this
    · rw [stored, if_pos (any_of_findIdx_some (hidx ▸ hi)), keys_map_store]; exact hn
  | none =>
    have hnot : k ∉ kvs.map (·.1) := not_mem_of_findIdx_none (hidx ▸ hi)
    have hany : ¬ (kvs.any fun kv => decide (kv.1 = k)) = true := by
      rw [List.any_eq_true]; rintro ⟨kv, hkv, he⟩
      exact hnot (List.mem_map.mpr ⟨kv, hkv, of_decide_eq_true he⟩)
    refine (wpAny_updateDictKeys (hz := hes) ho hd (hQ _ ⟨_, _, ep + 1, Heap.get?_update_self _ ho (Obj.isFreed_of_dict (Obj.data_mapDictKeys hd _)),
      hc.mapDictKeys _, Obj.data_mapDictKeys hd _, hk.push hkey _, ?_, ?_⟩ (Heap.SameBut.update ..)))
    · rw [stored, if_neg hany]
      have := hp.append hkey (knd.hash k) v
      obtain ⟨l⟩ := es
      simpa using this
    · rw [stored, if_neg hany, List.map_append, List.nodup_append]
      refine ⟨hn, by simp, ?_⟩
      intro a ha b hb
      simp only [List.map_cons, List.map_nil, List.mem_singleton] at hb
      subst hb
      exact fun e => hnot (e ▸ ha)
theorem wpAny_mergeMapping {d o : Addr} {kvs more : List (K × Value)} {Q : Unit → Shared → Prop} (hdo : d ≠ o) (hoS : (o == sysModules) = false)
    (hd : s.heap.DictOf knd d kvs) (ho : s.heap.DictOf knd o more)
    (hQ : ∀ h', h'.DictOf knd d (merged kvs more) → h'.DictOf knd o more → Heap.SameBut d s.heap h' → Q () { s with heap := h' })
    (hsz : kvs.length + more.length ≤ sizeLine) :
    wpAny (model prog w) A (mergeMapping d (.ref o) false) Q E s := by
  obtain ⟨od, esd, epd, hod, hcd, hdd, hkd, hpd, hnd⟩ := id hd
  obtain ⟨oo, eso, epo, hoo, hco, hdo', hko, hpo, hno⟩ := id ho
  have hlen : more.length = eso.size := by rw [← hpo.length]; simp
  unfold mergeMapping
  refine wpAny_bind (wpAny_isInstance ho.typeIs isSubtype_dict_dict ?_)
  rw [if_pos rfl]
  refine wpAny_bind (wpAny_specialOf ho.typeIs F.slot_dict_iter.lookup (wpAny_bind (wpAny_pure ?_)))
  dsimp only [Option.some.injEq]
  rw [show ((some (Value.builtin "dict.__iter__") == some (Value.builtin "dict.__iter__")) = true) from beq_self_eq_true _]
  dsimp only
  rw [if_neg (by rw [hoS]; exact Bool.false_ne_true)]
  have loop : wpAny (model prog w) A (do
      let l ← dictEntries o
      let epoch ← dictEpoch o
      forIn (List.range l.size) PUnit.unit fun i (_ : PUnit) => (do
          let l' ← dictEntries o
          match l'[i]? with
            | some e => do
              holding [e.key, e.val] (dictPut d e.hash e.key e.val)
              let ep' ← dictEpoch o
              if (ep' != epoch) = true then do
                  (unsupported "dict.changed-during-merge" : Sem PUnit)
                  pure (ForInStep.yield PUnit.unit)
                else pure (ForInStep.yield PUnit.unit)
            | _ => do
              (unsupported "dict.changed-during-merge" : Sem PUnit)
              pure (ForInStep.yield PUnit.unit) : Sem (ForInStep PUnit))
      pure ()) Q E s := by
    refine wpAny_bind (wpAny_dictEntries hoo hdo' ?_)
    refine wpAny_bind (wpAny_dictEpoch hoo hdo' ?_)
    refine wpAny_bind ?_
    refine wpAny_forIn_list _
      (fun rest _ s' => ∃ h' i, s' = { s with heap := h' } ∧ rest = List.range' i (eso.size - i) ∧ i ≤ eso.size ∧ h'.DictOf knd d (merged kvs (more.take i)) ∧ h'.get? o = some oo ∧ Heap.SameBut d s.heap h')
      _ ?_ ?_ _ _ ⟨s.heap, 0, rfl, by rw [List.range_eq_range', Nat.sub_zero], Nat.zero_le _, by simpa [merged] using hd, hoo, Heap.SameBut.refl _ _⟩
    · rintro x rest b s' ⟨h', i, rfl, hr, hi, hd', hoo', hs'⟩
      have hlt : i < eso.size := by
        rcases Nat.lt_or_ge i eso.size with h | h
        · exact h
        · rw [Nat.sub_eq_zero_of_le h] at hr; simp at hr
      obtain ⟨rfl, hrest⟩ : x = i ∧ rest = List.range' (i + 1) (eso.size - (i + 1)) := by
        have e : eso.size - i = (eso.size - (i + 1)) + 1 := by omega
        rw [e, List.range'_succ] at hr
        injection hr with h1 h2
        exact ⟨h1, h2⟩
      refine wpAny_bind (wpAny_dictEntries hoo' hdo' ?_)
      rw [Array.getElem?_eq_getElem hlt]
      obtain ⟨kv, hkv⟩ : ∃ kv, more[x]? = some kv := ⟨more[x]'(by rw [hlen]; exact hlt), List.getElem?_eq_getElem _⟩
      obtain ⟨k, v⟩ := kv
      obtain ⟨hkey, hval⟩ := hpo.get? (e := eso[x]) (by simp [hlt]) hkv
      obtain ⟨k', hkey', hhash⟩ := hko eso[x] (Array.getElem_mem hlt)
      obtain rfl : k' = k := knd.inj _ _ _ hkey' hkey
      show wpAny _ _ (holding [eso[x].key, eso[x].val] (dictPut d eso[x].hash eso[x].key eso[x].val) >>= _) _ _ _
      rw [hhash, hval]
      have hmx : (merged kvs (more.take x)).length ≤ sizeLine := by
        have e1 := merged_length_le kvs (more.take x)
        have e2 : (more.take x).length ≤ more.length := by rw [List.length_take]; omega
        omega
      refine wpAny_bind (wpAny_holding (wpAny_dictPut (hsz := hmx) hkey hd' fun h'' hd'' hs'' => ?_))
      have hoo'' : h''.get? o = some oo := (hs''.2 o (Ne.symm hdo)).trans hoo'
      refine wpAny_bind (wpAny_dictEpoch hoo'' hdo' ?_)
      rw [if_neg (by simp)]
      exact wpAny_pure ⟨h'', x + 1, rfl, hrest, hlt, by rw [merged_take_succ kvs more x (k', v) hkv]; exact hd'', hoo'', hs'.trans hs''⟩
    · rintro b s' ⟨h', i, rfl, hr, hi, hd', hoo', hs'⟩
      have hin : i = eso.size := by
        rcases Nat.lt_or_ge i eso.size with h | h
        · have e : eso.size - i = (eso.size - (i + 1)) + 1 := by omega
          rw [e, List.range'_succ] at hr; exact nomatch hr
        · exact Nat.le_antisymm hi h
      refine wpAny_pure (hQ h' ?_ ⟨oo, eso, epo, hoo', hco, hdo', hko, hpo, hno⟩ hs')
      rw [hin, ← hlen, List.take_length] at hd'; exact hd'
  refine wpAny_bind (wpAny_dictEntries hod hdd ?_)
  split
  · refine wpAny_bind (wpAny_dictEntries hoo hdo' ?_)
    refine wpAny_bind (wpAny_of_eq (a := PUnit.unit) ?_ loop)
    rw [← Array.forIn_toList]
    refine forIn_yield_id _ fun e he c => ?_
    obtain ⟨k, hkey, _⟩ := hko e (Array.mem_toList_iff.mp he)
    split
    · rename_i a ea
      have := knd.byValue k _ hkey
      rw [ea] at this
      cases this
    · rfl
  · exact loop
theorem display_star (m k v : Sem Value) : dictDisplay [(none, m), (some k, v)] = (do
    let d ← alloc { cls := .type "dict", data := .dict #[] }
    let x ← holding [.ref d] m
    (((holding [.ref d, x] (mergeMapping d x false)).onRaise fun y => do let _ ← holding [.ref d, x, y] (runValue (.builtin "proto.let_go" {}))).tryCatch fun e => do
        if ← isInstance e (.type "AttributeError") then
          rule "dict.display.not-a-mapping"; raiseError "TypeError" s!"'{← typeNameOf x}' object is not a mapping"
        throw e).onRaise fun y => do let _ ← holding [.ref d, y] (runValue (.builtin "proto.let_go" {}))
    let sub ← holding [.ref d] (subDict [(k, v)])
    (holding [.ref d, .ref sub] (mergeMapping d (.ref sub) false)).onRaise fun x => do let _ ← holding [.ref d, x] (runValue (.builtin "proto.let_go" {}))
    pure (.ref d)) := by
  unfold dictDisplay
  simp [List.forIn_cons, List.forIn_nil, bind_assoc]
end
section
variable {X : Cx} {pos : Pos}
/-- {**d, k: v}, keys ints and texts -/
def tStar (td tk tv : TE) : TE := fun σ H Q => ∀ p, H p = none → td σ (upd H p (.dK [])) fun x H1 => ∃ (a : Addr) (kvs : List (Key × V)), x = .ref a ∧ a ≠ p ∧ Rd H1 a (.dK kvs) ∧ H1 p = some (.dK []) ∧ kvs.length + 1 ≤ sizeLine ∧
  ∀ q, H1 q = none → tk σ (upd (upd H1 p (.dK kvs)) q (.dK [])) fun kx H2 => tv σ H2 fun y H3 => ∃ key : Key, kx = kV key ∧ H3 p = some (.dK kvs) ∧ H3 q = some (.dK []) ∧ q ≠ p ∧
    Q (.ref p) (upd (upd H3 q (.dK [(key, y)])) p (.dK (putK kvs key y)))
theorem pe_dstar {ed ek ev : Expr} {td tk tv : TE} (hd : PE X ed td) (hk : PE X ek tk) (hv : PE X ev tv) : PE X (.Dict [none, some ek] [ed, ev] pos) (tStar td tk tv) := by
  refine ⟨fun pins s σ H Q I q => ?_⟩
  rw [arm_eval_Dict]
  refine wpAny_bind (wpAny_standAt ?_)
  show wpAny _ _ (dictDisplay [(none, (do let x ← eval ed X.env; standAt pos; pure x)), (some (eval ek X.env), (do let x ← eval ev X.env; standAt pos; pure x))]) _ _ s
  rw [display_star]
  have hn := I.hok.fresh (Nat.le_refl s.heap.objs.size)
  have I1 := I.laid (a := s.heap.objs.size) (o := .dK []) (h' := s.heap.push { cls := .type "dict", data := .dict #[] }) (t' := s.toks) (fun _ _ q => Heap.get?_push_of_some _ q) (Nat.le_refl _) (dk_empty s.heap I.big)
  refine wpAny_bind (wpAny_alloc ?_)
  refine wpAny_bind (wpAny_holding (wpAny_bind ?_))
  refine thn (hd.run pins _ σ _ _ I1 (q _ hn)) fun u s1 ⟨x, H1, I2, rx, a, kvs, ex, hap, rd, hp, hl, q2⟩ => ?_
  subst ex
  cases (show u = Value.ref a from rx)
  refine wpAny_bind (wpAny_standAt (wpAny_pure ?_))
  refine wpAny_bind (wpAny_onRaise (wpAny_tryCatch (wpAny_onRaise (wpAny_holding ?_))))
  obtain ⟨zp, hps, vp, rp, dp⟩ := dk_of I2.hok hp
  cases rp
  obtain ⟨za, has, va, ra, da⟩ := dk_rd I2.hok rd
  have hlen : kvs.length = va.length := ra.length
  refine wpAny_mergeMapping (knd := mixKind X.prog X.w) (kvs := []) (more := va) hap.symm has dp da (fun h1 d1 _ sb => ?_) (by rw [List.length_nil]; omega)
  have hva : (va.map (·.1)).Nodup := let ⟨_, _, _, _, _, _, _, _, hn⟩ := da; hn
  rw [merged_nil_of_nodup va hva] at d1
  have he : ∃ q, h1.get? s.heap.objs.size = some q := let ⟨q, _, _, hq, _⟩ := d1; ⟨q, hq⟩
  have I3 : Inv X pins σ (upd H1 s.heap.objs.size (.dK kvs)) { s1 with heap := h1 } := d_write (t' := s1.toks) I2 (by rw [hp]; exact True.intro) sb he (dk_new (by omega) hps ra d1)
  have hq := I3.hok.fresh (Nat.le_refl h1.objs.size)
  have hqp : h1.objs.size ≠ s.heap.objs.size := fun e => by
    rw [e, upd_same] at hq
    cases hq
  have hq1 : H1 h1.objs.size = none := (upd_ne hqp).symm.trans hq
  have I4 := I3.laid (a := h1.objs.size) (o := .dK []) (h' := h1.push { cls := .type "dict", data := .dict #[] }) (t' := s1.toks) (fun _ _ q => Heap.get?_push_of_some _ q) (Nat.le_refl _) (dk_empty h1 I3.big)
  refine wpAny_bind (wpAny_holding ?_)
  refine wpAny_subDict (knd := mixKind X.prog X.w) (s := { s1 with heap := h1 }) (pairs := [(eval ek X.env, (do let x ← eval ev X.env; standAt pos; pure x))]) (by show 1 ≤ 15; decide) ?_
  refine evalPairs_cons (thn (hk.run pins _ σ _ _ I4 (q2 _ hq1)) fun kv s2 ⟨kx, H2, J2, rk, w2⟩ => ?_)
  refine wpAny_bind (thn (hv.run pins _ σ _ _ J2 w2) fun vv s3 ⟨y, H3, J3, rv, key, ek2, e3, e4, hne, w3⟩ => wpAny_bind (wpAny_standAt (wpAny_pure ?_)))
  subst ek2
  refine evalPairs_nil ?_
  obtain ⟨_, hqs, vq, rq, dq⟩ := dk_of J3.hok e4
  cases rq
  refine ⟨[(key, vv)], ⟨kV_is rk, rfl, True.intro⟩, dq, fun h2 d2 sb2 => ?_⟩
  have he2 : ∃ q, h2.get? h1.objs.size = some q := let ⟨q, _, _, hq, _⟩ := d2; ⟨q, hq⟩
  have d2' : h2.DictOf (mixKind X.prog X.w) h1.objs.size [(key, vv)] := d2
  have J4 : Inv X pins σ (upd H3 h1.objs.size (.dK [(key, y)])) { s3 with heap := h2, toks := s3.toks + 1 } := d_write (t' := s3.toks + 1) J3 (by rw [e4]; exact True.intro) sb2 he2 (dk_new (by show 1 ≤ sizeLine; decide) hqs (.cons ⟨rfl, rv⟩ .nil) d2')
  refine wpAny_bind (wpAny_onRaise (wpAny_holding ?_))
  have e5 : (upd H3 h1.objs.size (.dK [(key, y)])) s.heap.objs.size = some (.dK kvs) := (upd_ne hne.symm).trans e3
  obtain ⟨_, _, vp2, rp2, dp2⟩ := dk_of J4.hok e5
  have hl2 : kvs.length = vp2.length := rp2.length
  refine wpAny_mergeMapping (knd := mixKind X.prog X.w) (kvs := vp2) (more := [(key, vv)]) hne.symm hqs dp2 d2' (fun h3 d3 _ sb3 => ?_) (by show vp2.length + 1 ≤ sizeLine; omega)
  have he3 : ∃ q, h3.get? s.heap.objs.size = some q := let ⟨q, _, _, hq, _⟩ := d3; ⟨q, hq⟩
  have hpl : (putK kvs key y).length ≤ sizeLine := Nat.le_trans (length_putK kvs key y) hl
  have r3 : KV (putK kvs key y) (merged vp2 [(key, vv)]) := rp2.put key rv
  refine wpAny_pure ⟨.ref s.heap.objs.size, _, d_write (t' := s3.toks + 1) J4 (by rw [e5]; exact True.intro) sb3 he3 (dk_new hpl hps r3 d3), rfl, w3⟩
end
end Cf

set_option Elab.async false
set_option linter.all false
set_option maxRecDepth 100000
namespace Cf
open PySem PySem.Spec PyProof.Rows L2
/-! ### methods of the program's own classes, over defs that run where nothing is shown -/
theorem make_guards {A : Around} {C : Addr} {us : List Value} {kw : List (Str × Value)} : (A.under (.builtin "type.__call__" ⟨.ref C :: us, kw⟩)).guards = A.guards := by
  first | rfl | simp [Around.under, Code.guards, Code.isGuard, guardIds]
/-- what a caller knows of a method -/
structure ClM (P : Program) (w : World) (K : PySem.W.Frag) (mg : Str → Option Value) (base : Heap) (CX : CXT) (k : Nat) (C : Addr) (m : Str) (sp : Sp) : Prop where
  ex : ∃ (f : Addr) (fd : FuncData) (ps : List Str), FnG P w K mg base CX k f fd ps sp ∧ Meth K C m f ∧ Binds K fd ps []
/-- .. and by the names of all its parameters but self -/
structure ClMK (P : Program) (w : World) (K : PySem.W.Frag) (mg : Str → Option Value) (base : Heap) (CX : CXT) (k : Nat) (C : Addr) (m : Str) (ks : List Str) (js : List Nat) (sp : Sp) : Prop where
  ex : ∃ (f : Addr) (fd : FuncData) (ps : List Str), FnG P w K mg base CX k f fd ps sp ∧ Meth K C m f ∧
    ∀ (s : Shared) (u : Value) (ws : List Value), ws.length = ks.length → BindsTo s fd ⟨[u], ks.zip ws⟩ (ps.zip (u :: pickU js ws))
/-- .. of a class that is made -/
structure ClN (P : Program) (w : World) (K : PySem.W.Frag) (mg : Str → Option Value) (base : Heap) (CX : CXT) (k : Nat) (x : Str) (C : Addr) (sp : Sp) : Prop where
  g : mg x = some (.ref C)
  ex : ∃ (f : Addr) (fd : FuncData) (ps : List Str), FnG P w K mg base CX k f fd ps sp ∧ Mk K C f ∧ Binds K fd ps []
structure ClNK (P : Program) (w : World) (K : PySem.W.Frag) (mg : Str → Option Value) (base : Heap) (CX : CXT) (k : Nat) (x : Str) (C : Addr) (ks : List Str) (js : List Nat) (sp : Sp) : Prop where
  g : mg x = some (.ref C)
  ex : ∃ (f : Addr) (fd : FuncData) (ps : List Str), FnG P w K mg base CX k f fd ps sp ∧ Mk K C f ∧
    ∀ (s : Shared) (u : Value) (ws : List Value), ws.length = ks.length → BindsTo s fd ⟨[u], ks.zip ws⟩ (ps.zip (u :: pickU js ws))
/-- a method without wishes of its own beside that of its caller -/
def tMethG (C : Addr) (m : Str) (sp : Sp) (E : L2.St → XK) (ta : TE) (t : TA) : TE := fun σ H Q => ta σ H fun x H1 => ∃ a dx fs, x = .ref a ∧ H1 a = some (.ins C dx fs) ∧ fs.lookup m = none ∧ t σ H1 fun vs H2 => sp (x :: vs) H2 Q (E σ)
def tNewG (C : Addr) (sp : Sp) (E : L2.St → XK) (t : TA) : TE := fun σ H Q => t σ H fun vs H1 => ∀ x dx, H1 x = none → H1 dx = none → dx ≠ x → sp (.ref x :: vs) (upd (upd H1 dx (.own x)) x (.ins C dx [])) (fun v H2 => v = .non ∧ Q (.ref x) H2) (E σ)
theorem passG {X : Cx} {E : L2.St → XK} : ∀ σ, PassesAt CX0 X σ (E σ) := fun σ _ _ _ _ _ _ z => z.elim
section
variable {X : Cx} {CX : CXT} {k n : Nat} {C : Addr} {sp : Sp} {E : L2.St → XK} {x m : Str} {p pos apos : Pos} {e o : Expr} {es : List Expr} {t tk : TA} {ta : TE} {ks : List Str} {js : List Nat} {kws : List Keyword}
theorem run_g {pins : List (Addr × Obj)} {σ : L2.St} {H : Hp} {s : Shared} {Q : VK} {us : List Value} {vs : List V} {f : Addr} {fd : FuncData} {ps : List Str} (F : FnG X.prog X.w X.K X.mg X.base CX k f fd ps sp) (hr : Room k X.A) (hgd : X.A.guards = some []) (hb : Binds X.K fd ps [])
    (hx : ∀ σ, PassesAt CX X σ (E σ)) (I : Inv X pins σ H s) (r : Vals vs us) (q : sp vs H Q (E σ)) : wpAny (model X.prog X.w) X.A (call (.ref f) us) (EP X pins σ Q) X.xe s := by
  have hl : us.length = ps.length := by
    rw [← r.length]
    exact F.len _ _ _ _ q
  have hb' := hb s us I.kIn (by rw [List.append_nil]; exact hl)
  rw [List.append_nil] at hb'
  refine wpAny_call (codeAny_mono (F.run X.A X.stack s H ⟨us, []⟩ us vs Q (E σ) hr hgd I.env0 hb' r q) ?_)
  intro res s' hq
  match res, hq with
  | .error er, hq => exact hx σ pins H s er s' I hq
  | .ok (.ret u), hq => exact I.after hq
  | .ok .next, hq => exact hq.elim
  | .ok .brk, hq => exact hq.elim
  | .ok .cont, hq => exact hq.elim
/-- o.m(e, ..) -/
theorem pe_clM {pl : Sem Bool} (c : Cls X.K C) (M : ClM X.prog X.w X.K X.mg X.base CX k C m sp) (hr : Room k X.A) (hgd : X.A.guards = some []) (hx : ∀ σ, PassesAt CX X σ (E σ)) (he : PE X o ta) (ha : PA X (e :: es) t)
    (hst : starEach (e :: es) X.env = (false, eval e X.env) :: starEach es X.env := by rfl) (hpl : (backTo pos (starEach es X.env)).any (·.1) = false := by rfl)
    (ht : eval (.Call (.Attribute o m apos) (e :: es) [] pos) X.env = (do
      let ov ← eval o X.env
      standAt apos.atName
      let (f, first) ← holding [ov] (getMethod ov m pl)
      callWith pos f first (backTo pos (starEach (e :: es) X.env)) (backToKw pos (keywordEach [] X.env))) := by rfl) :
    PE X (.Call (.Attribute o m apos) (e :: es) [] pos) (tMethG C m sp E ta t) := by
  obtain ⟨f, fd, ps, F, hm, hb⟩ := M.ex
  refine ⟨fun pins s σ H Q I h => ?_⟩
  refine PySem.W.methodCall_KW (pl := pl) (thn (he.run pins s σ H _ I h) fun u s1 ⟨x, H1, I1, rx, a, dx, fs, ex, ea, l, q⟩ => ?_) ht
  subst ex
  obtain rfl : u = Value.ref a := rx
  refine getmeth_ok I1 ea c hm l ?_
  refine PySem.W.callWith_K (first := [.ref a]) (h₀ := X.base) I.ok.mod.kin hm.kp (thn (ha.run pos pins s1 σ H1 _ I1 q) fun us s2 ⟨vs, H2, I2, r, q2⟩ => ⟨I2.kIn, ?_⟩) hst hpl
  exact run_g (us := .ref a :: us) (vs := .ref a :: vs) F hr hgd hb hx I2 (.cons rfl r) q2
/-- o.m() -/
theorem pe_clM0 {pl : Sem Bool} (c : Cls X.K C) (M : ClM X.prog X.w X.K X.mg X.base CX k C m sp) (hr : Room k X.A) (hgd : X.A.guards = some []) (hx : ∀ σ, PassesAt CX X σ (E σ)) (he : PE X o ta)
    (ht : eval (.Call (.Attribute o m apos) [] [] pos) X.env = (do
      let ov ← eval o X.env
      standAt apos.atName
      let (f, first) ← holding [ov] (getMethod ov m pl)
      callWith pos f first (backTo pos (starEach [] X.env)) (backToKw pos (keywordEach [] X.env))) := by rfl) :
    PE X (.Call (.Attribute o m apos) [] [] pos) (tMethG C m sp E ta tNil) := by
  obtain ⟨f, fd, ps, F, hm, hb⟩ := M.ex
  refine ⟨fun pins s σ H Q I h => ?_⟩
  refine PySem.W.methodCall_KW (pl := pl) (thn (he.run pins s σ H _ I h) fun u s1 ⟨x, H1, I1, rx, a, dx, fs, ex, ea, l, q⟩ => ?_) ht
  subst ex
  obtain rfl : u = Value.ref a := rx
  refine getmeth_ok I1 ea c hm l ?_
  exact PySem.W.callWith_K0 (first := [.ref a]) I1.kIn hm.kp (run_g (us := [.ref a]) (vs := [.ref a]) F hr hgd hb hx I1 (.cons rfl .nil) q)
/-- C(e, ..) -/
theorem run_mk {pins : List (Addr × Obj)} {σ : L2.St} {H : Hp} {s : Shared} {Q : VK} {us us2 : List Value} {kw : List (Str × Value)} {vs : List V} {f : Addr} {fd : FuncData} {ps : List Str} (M : Mk X.K C f) (F : FnG X.prog X.w X.K X.mg X.base CX k f fd ps sp) (hr : Room (k + 1) X.A) (hgd : X.A.guards = some [])
    (hb : ∀ (s : Shared) (u : Value), X.K.In s.heap → (u :: us2).length = ps.length → BindsTo s fd ⟨u :: us, kw⟩ (ps.zip (u :: us2)))
    (hx : ∀ σ, PassesAt CX X σ (E σ)) (I : Inv X pins σ H s) (r : Vals vs us2)
    (h : ∀ x dx, H x = none → H dx = none → dx ≠ x → sp (.ref x :: vs) (upd (upd H dx (.own x)) x (.ins C dx [])) (fun v H2 => v = .non ∧ Q (.ref x) H2) (E σ)) :
    wpAny (model X.prog X.w) X.A (call (.ref C) us kw) (EP X pins σ Q) X.xe s := by
  have hq := h (s.heap.objs.size + 1) s.heap.objs.size (I.hok.fresh (Nat.le_succ _)) (I.hok.fresh (Nat.le_refl _)) (Nat.ne_of_lt (Nat.lt_succ_self _))
  have I2 := Inv.made (C := C) I
  have r2 : Vals (V.ref (s.heap.objs.size + 1) :: vs) (Value.ref (s.heap.objs.size + 1) :: us2) := .cons rfl r
  have hl : (Value.ref (s.heap.objs.size + 1) :: us2).length = ps.length := by
    have e := r2.length
    rw [F.len _ _ _ _ hq] at e
    exact e.symm
  refine wpAny_call (make_map (f := f) I.kIn M.makes M.init (beq_iff_eq.mp M.fn) (codeAny_mono (F.run _ X.stack _ _ ⟨Value.ref (s.heap.objs.size + 1) :: us, kw⟩ (Value.ref (s.heap.objs.size + 1) :: us2) _ _ (E σ) (hr.make C us kw) (make_guards.trans hgd)
    (I2.env0.make C us kw) (hb _ (Value.ref (s.heap.objs.size + 1)) I2.kIn hl) r2 hq) fun r s' hq' => ?_))
  cases r with
  | error e => exact hx σ pins _ _ e s' I2 hq'
  | ok fl =>
    cases fl with
    | ret u =>
      obtain ⟨v, H', I3, rv, ev, q3⟩ := I2.after hq'
      subst ev
      exact ⟨rv, ⟨V.ref (s.heap.objs.size + 1), H', I3, rfl, q3⟩⟩
    | next => exact False.elim hq'
    | brk => exact False.elim hq'
    | cont => exact False.elim hq'
theorem pe_clN (M : ClN X.prog X.w X.K X.mg X.base CX k x C sp) (hr : Room (k + 1) X.A) (hgd : X.A.guards = some []) (hx : ∀ σ, PassesAt CX X σ (E σ)) (hg : Gl X x) (ha : PA X (e :: es) t)
    (hdb : (x == ("__debug__" : Str)) = false := by decide) (he : starEach (e :: es) X.env = (false, eval e X.env) :: starEach es X.env := by rfl) (hpl : (backTo pos (starEach es X.env)).any (·.1) = false := by rfl) :
    PE X (.Call (.Name x p) (e :: es) [] pos) (tNewG C sp E t) := by
  obtain ⟨f, fd, ps, F, hm, hb⟩ := M.ex
  refine ⟨fun pins s σ H Q I h => ?_⟩
  refine wpAny_Call_Name_kw (ld_glob I hg M.g ?_ hdb)
  refine PySem.W.callWith_K (h₀ := X.base) I.ok.mod.kin hm.kp (thn (ha.run pos pins s σ H _ I h) fun us s1 ⟨vs, H1, I1, r, q⟩ => ⟨I1.kIn, ?_⟩) he hpl
  refine run_mk (us := us) (us2 := us) hm F hr hgd (fun s u kin hl => ?_) hx I1 r q
  have := hb s (u :: us) kin (by rw [List.append_nil]; exact hl)
  rwa [List.append_nil] at this
end
end Cf

set_option Elab.async false
set_option linter.all false
set_option maxRecDepth 100000
namespace Cf
open PySem PySem.Spec PyProof.Rows L2
open LamX (Tabs)
/-! ### o.f as one target among several -/
def gFld (K : PySem.W.Frag) (ta : TE) (f : Str) : TG := fun y σ H Q => ta σ H fun x H2 => ∃ a C dx fs, x = .ref a ∧ H2 a = some (.ins C dx fs) ∧ Cls K C ∧ NoAttr K C f ∧ fs.length < 1000 ∧ Q σ (upd H2 a (.ins C dx (putF f y fs)))
section
variable {X : Cx} {o : Expr} {f : Str} {pos : Pos} {ta : TE}
theorem pg_fld (ho : PE X o ta)
    (ha : ∀ v, assign (.Attribute o f pos) X.env v = (do
      let ov ← holding [v] (eval o X.env)
      standAt pos.atName
      holding [v, ov] (setAttr ov f v)
      release [v, ov] []) := by intro _; rfl) : PG X (.Attribute o f pos) (gFld X.K ta f) := by
  refine ⟨fun pins s σ H v u Q I r h => ?_⟩
  rw [ha]
  refine wpAny_bind (wpAny_holding (thn (ho.run pins s σ H _ I h) fun ov s1 ⟨x, H2, I2, rx, a, C, dx, fs, ex, ea, c, n, l, q⟩ => ?_))
  subst ex
  obtain rfl : ov = Value.ref a := rx
  refine wpAny_bind (wpAny_standAt (wpAny_bind (wpAny_holding (setattr_ok I2 ea c n l r fun s3 I3 => ?_))))
  exact wpAny_release ⟨σ, _, I3, q⟩
end
/-! ### heaps that go on, but for the addresses of S -/
structure Ks (T : List (Addr × Str)) (S : Addr → Prop) (H H' : Hp) : Prop where
  keep : ∀ p o, ¬ S p → H p = some o → (∀ ps, o ≠ .tbl ps) → H' p = some o
  tab : Tabs T H → Tabs T H'
def Nul : Addr → Prop := fun _ => False
section
variable {K : PySem.W.Frag} {T : List (Addr × Str)} {S S' S1 : Addr → Prop} {H H0 H1 H2 : Hp} {p d : Addr} {o : HO} {xs : List V}
theorem Ks.of (k : Kt T H H1) : Ks T S H H1 := ⟨fun p o _ e n => k.ext p o e n, k.tab⟩
theorem Ks.refl : Ks T S H H := .of .refl
theorem Ks.mono (k : Ks T S H H1) (h : ∀ p, S p → S' p) : Ks T S' H H1 := ⟨fun p o n e z => k.keep p o (fun w => n (h p w)) e z, k.tab⟩
/-- one more step; what it changes is in S or was not there at the start -/
theorem Ks.thn (a : Ks T S H0 H) (b : Ks T S1 H H1) (h : ∀ p, S1 p → S p ∨ Nt H0 p) : Ks T S H0 H1 :=
  ⟨fun p o n e z => b.keep p o (fun w => (h p w).elim n fun t => by
    obtain ⟨ps, e2⟩ := t o e
    exact z ps e2) (a.keep p o n e z) z, fun t => b.tab (a.tab t)⟩
theorem Ks.trans (a : Ks T S H0 H) (b : Ks T S H H1) : Ks T S H0 H1 := a.thn b fun _ z => .inl z
theorem Ks.kt (a : Ks T S H0 H) (b : Kt T H H1) : Ks T S H0 H1 := a.trans (.of b)
theorem Ks.kp (a : Ks T S H0 H) (b : Kp [] H H1) : Ks T S H0 H1 := a.kt b.kt
theorem Ks.toKt (a : Ks T S H0 H) (h : ∀ p, S p → Nt H0 p) : Kt T H0 H := ⟨fun p o e n => a.keep p o (fun w => by
    obtain ⟨ps, e2⟩ := h p w o e
    exact n ps e2) e n, a.tab⟩
theorem tabs_put {o' : HO} (h : H p = some o) (n1 : ∀ ps, o ≠ .tbl ps) (n2 : ∀ f, o ≠ .ext f) (t : Tabs T H) : Tabs T (upd H p o') := fun r hr => by
  obtain ⟨ps, h1, h3, h4⟩ := t r hr
  refine ⟨ps, ?_, h3, fun pos cv hc => ?_⟩
  · rw [upd_ne fun z => ?_]
    · exact h1
    · rw [← z, h1] at h
      exact n1 _ (Option.some.inj h).symm
  · obtain ⟨c, e1, e2⟩ := h4 pos cv hc
    refine ⟨c, e1, ?_⟩
    rw [upd_ne fun z => ?_]
    · exact e2
    · rw [← z, e2] at h
      have := (Option.some.inj h).symm
      exact n2 _ this
theorem Ks.put {o' : HO} (a : Ks T S H0 H) (h : H p = some o) (n1 : ∀ ps, o ≠ .tbl ps) (n2 : ∀ f, o ≠ .ext f) (s : S p ∨ Nt H0 p) : Ks T S H0 (upd H p o') := by
  refine a.thn (S1 := fun q => q = p) ⟨fun q u n e _ => by rw [upd_ne n]; exact e, tabs_put h n1 n2⟩ fun q z => by rw [z]; exact s
theorem Ks.putI {C dx : Addr} {fs : List (Str × V)} {o' : HO} (a : Ks T S H0 H) (h : H p = some (.ins C dx fs)) (s : S p ∨ Nt H0 p) : Ks T S H0 (upd H p o') := a.put h (fun _ z => nomatch z) (fun _ z => nomatch z) s
theorem Ks.putL {o' : HO} (a : Ks T S H0 H) (h : H p = some (.lst xs)) (s : S p ∨ Nt H0 p) : Ks T S H0 (upd H p o') := a.put h (fun _ z => nomatch z) (fun _ z => nomatch z) s
theorem Ks.putD {kvs : List (Key × V)} {o' : HO} (a : Ks T S H0 H) (h : H p = some (.dK kvs)) (s : S p ∨ Nt H0 p) : Ks T S H0 (upd H p o') := a.put h (fun _ z => nomatch z) (fun _ z => nomatch z) s
/-- a list at p is changed -/
theorem Ks.md {ys : List V} (a : Ks T S H0 H) (h : H p = some (.lst ys)) (m : Kp [p] H H1) (s : S p ∨ Nt H0 p) : Ks T S H0 H1 := by
  refine a.thn (S1 := fun q => q = p) ⟨fun q u n e _ => m.at1 n e, fun t => ?_⟩ fun q z => by rw [z]; exact s
  intro r hr
  obtain ⟨ps, h1, h3, h4⟩ := t r hr
  refine ⟨ps, m.at1 (fun z => ?_) h1, h3, fun pos cv hc => ?_⟩
  · rw [z, h] at h1
    cases h1
  · obtain ⟨c, e1, e2⟩ := h4 pos cv hc
    refine ⟨c, e1, m.at1 (fun z => ?_) e2⟩
    rw [z, h] at e2
    unfold LamX.CodeO at e2
    cases e2
theorem Ks.at_ (a : Ks T S H H1) (n : ¬ S p) (h : H p = some o) (z : ∀ ps, o ≠ .tbl ps) : H1 p = some o := a.keep p o n h z
theorem Ks.nt (a : Ks T S H H1) (h : Nt H1 p) (n : ¬ S p) : Nt H p := fun o e => by
  by_cases z : ∃ ps, o = .tbl ps
  · exact z
  · exact h o (a.keep p o n e fun ps w => z ⟨ps, w⟩)
theorem Ks.atL (a : Ks T S H H1) (n : ¬ S p) (h : H p = some (.lst xs)) : H1 p = some (.lst xs) := a.keep p _ n h fun _ z => nomatch z
theorem Ks.atT (a : Ks T S H H1) (n : ¬ S p) (h : H p = some (.tup xs)) : H1 p = some (.tup xs) := a.keep p _ n h fun _ z => nomatch z
theorem Ks.atD {kvs : List (Key × V)} (a : Ks T S H H1) (n : ¬ S p) (h : H p = some (.dK kvs)) : H1 p = some (.dK kvs) := a.keep p _ n h fun _ z => nomatch z
theorem Ks.atI {C dx : Addr} {fs : List (Str × V)} (a : Ks T S H H1) (n : ¬ S p) (h : H p = some (.ins C dx fs)) : H1 p = some (.ins C dx fs) := a.keep p _ n h fun _ z => nomatch z
/-- the addresses of S hold no tuples -/
def NoTupS (S : Addr → Prop) (H : Hp) : Prop := ∀ p, S p → ∀ xs o, H p ≠ some (.tup xs) ∧ H p ≠ some (.frz o (.tup xs)) ∧ H p ≠ some (.dT [])
theorem Ks.tup (a : Ks T S H H1) (n : ∀ p, S p → ∀ xs o, H p ≠ some (.tup xs) ∧ H p ≠ some (.frz o (.tup xs))) (h : SqT K H p xs) : SqT K H1 p xs := by
  rcases h with (h | ⟨u, h⟩) | h
  · exact .inl (.inl (a.keep p _ (fun z => (n p z xs default).1 h) h fun _ z => nomatch z))
  · exact .inl (.inr ⟨u, a.keep p _ (fun z => (n p z xs u).2 h) h fun _ z => nomatch z⟩)
  · exact .inr h
theorem Ks.stay {N : Addr → Prop} (a : Ks T S H H1) (n : NoTupS S H) (hN : ∀ p xs, S p → H p = some (.lst xs) → N p) : Stay K N H H1 :=
  ⟨fun p xs np e => a.atL (fun z => np (hN p xs z e)) e, fun p xs e => a.tup (fun p z xs o => ⟨(n p z xs o).1, (n p z xs o).2.1⟩) e, fun p e => a.keep p _ (fun z => (n p z [] default).2.2 e) e fun _ z => nomatch z⟩
end
end Cf

set_option Elab.async false
set_option linter.all false
set_option maxRecDepth 100000
set_option maxHeartbeats 2000000
namespace Cf
open PySem PySem.Spec PyProof.Rows L2
open LamX (Tabs)
/-! ### a dict by a comprehension, whose keys are ints and texts -/
def tDcK (wi : TI) (g : TG) (tt : TT) (tk tv : TE) (vs : List Nat) : TE := fun σ H Q => wi σ H fun J H1 => ∃ n G Y, Walk J n G Y ∧ n ≤ sizeLine ∧
  ∀ D H2, H1 D = none → Kp [] H1 H2 → H2 D = some (.dK []) → ∃ Pv : Nat → List (Key × V) → Hp → Prop, Pv 0 [] H2 ∧ (∀ i es H, i ≤ n → Pv i es H → G H) ∧
  (∀ i es x H H', i < n → Pv i es H → H D = some (.dK es) → Y i H x H' → g x (wipe σ vs) H' fun σ2 H3 => wipe σ2 vs = wipe σ vs ∧ tt σ2 H3 fun b H4 =>
    if b = true then (tk σ2 H4 fun y H5 => tv σ2 H5 fun z H6 => ∃ k, y = kV k ∧ H6 D = some (.dK es) ∧ ∀ H7, Md D H6 H7 → H7 D = some (.dK (putK es k z)) → Pv (i + 1) (putK es k z) H7)
    else H4 D = some (.dK es) ∧ Pv (i + 1) es H4) ∧
  ∀ es H, es.length ≤ n → H D = some (.dK es) → Pv n es H → Q (.ref D) H
theorem dcK {wi : TI} {g : TG} {tt : TT} {tk tv : TE} {vs : List Nat} {σ : L2.St} {H : Hp} {Q : VK} (h : tDcK wi g tt tk tv vs σ H Q) : tDc (upI wi) (upG g) (upT tt) (upE tk) (upE tv) vs σ H Q := by
  refine ⟨_, h, ?_⟩
  rintro J H1 ⟨n, G, Y, w, small, body⟩ D free
  obtain ⟨Pv, start, goes, step, done⟩ := body D _ free (Kp.new free) upd_same
  refine ⟨fun i m H => m = n - i ∧ i ≤ n ∧ ∃ es, H D = some (.dK es) ∧ es.length ≤ i ∧ Pv i es H, ⟨n, by simp, Nat.zero_le _, [], upd_same, Nat.le_refl _, start⟩, ?_⟩
  rintro i m H ⟨rfl, le, es, ed, el, p⟩
  have ok := goes i es H le p
  cases Nat.lt_or_ge i n with
  | inr ge =>
    obtain rfl : i = n := Nat.le_antisymm le ge
    exact .inl ⟨w.stops H ok, done es H el ed p⟩
  | inl lt =>
    refine .inr ⟨w.goes i H lt ok, fun H' => ∃ es, H' D = some (.dK es) ∧ es.length ≤ i + 1 ∧ Pv (i + 1) es H', ?_, ?_⟩
    · rintro H' ⟨es', q⟩
      exact ⟨n - (i + 1), by omega, rfl, lt, es', q⟩
    · intro x H' y
      refine ⟨_, step i es x H H' lt p ed (w.yields i H x H' lt ok y), ?_⟩
      rintro σ2 H3 ⟨same, t⟩
      refine ⟨same, _, t, ?_⟩
      intro b H4 hb
      cases b with
      | false =>
        rw [if_neg Bool.false_ne_true] at hb ⊢
        exact ⟨es, hb.1, Nat.le_succ_of_le el, hb.2⟩
      | true =>
        rw [if_pos rfl] at hb ⊢
        refine ⟨_, hb, ?_⟩
        intro y H5 q5
        refine ⟨_, q5, ?_⟩
        rintro z H6 ⟨k, rfl, ed6, next⟩
        refine ⟨es, k, rfl, ed6, by omega, _, upd_same, ?_, next _ Md.upd upd_same⟩
        exact Nat.le_trans (length_putK es k z) (Nat.succ_le_succ el)
section
variable {X : Cx}
theorem pe_dcK {kx vx tg iter : Expr} {ifs : List Expr} {scope : Scope} {own : List (Str × Nat)} {pos : Pos} {wi : TI} {g : TG} {tt : TT} {tk tv : TE} (calm : X.calm = true) (nd : X.N.Nodup) (hi : PI X tg iter wi)
    (ok : BlkOk X.N X.env.scope scope own) (ps : Parts X scope tg kx vx ifs g tt tk tv) (fold : ∀ x, foldedSetIterable iter X.env x = pure x := by intro _; rfl) :
    PE X (.DictComp kx vx [⟨tg, iter, ifs, 0⟩] scope pos) (tDcK wi g tt tk tv (own.map (·.2))) :=
  pe_imp (pe_dc calm nd (pi_up hi) ok ps.ups.tg ps.ups.ts ps.ups.ky ps.ups.vl fold) fun _ _ _ => dcK
theorem pe_fldK {K : PySem.W.Frag} {e : Expr} {ta : TE} {f : Str} {pos : Pos} (eK : X.K = K) (he : PE X e ta) (hb : attributeBase e f X.env (eval e X.env) = eval e X.env) : PE X (.Attribute e f pos) (tFld K ta f) := by
  subst eK
  exact pe_fld he hb
/-- sorted(d) of a dict with few keys, all texts: the keys in order, said by a premise -/
theorem cr_srtDS (calm : X.calm = true) : CallR X (.builtin "sorted") (fun xs H Q => ∃ (a : Addr) (kvs : List (Key × V)) (ks : List Str), xs = [.ref a] ∧ Rd H a (.dK kvs) ∧ kvs.map (·.1) = ks.map Sum.inr ∧ ks.length < 64 ∧
    ∀ ys : List Str, ys.Perm ks → sortedS ys = true → New H (.lst (ys.map V.str)) Q) := by
  intro pins s σ H xs us Q I r q
  obtain ⟨a, kvs, ks, e, rd, ek, l, w⟩ := q
  exact call_sortedD calm pins s σ H xs us Q I r ⟨a, kvs, ks, e, rd, ek, l, fun ys p pm so n => w ys pm so p _ n (Kp.new n) upd_same⟩
theorem cr_dictD {K : PySem.W.Frag} (eK : X.K = K) : CallR X (.type "dict") (fun xs H Q => ∃ (a : Addr) (kvs : List (Key × V)), xs = [.ref a] ∧ Rd H a (.dK kvs) ∧ New H (.dK kvs) Q) := by
  intro pins s σ H xs us Q I r q
  obtain ⟨a, kvs, e, rd, w⟩ := q
  exact call_dictD pins s σ H xs us Q I r ⟨a, kvs, e, rd, fun p n => w p _ n (Kp.new n) upd_same⟩
end
end Cf

set_option Elab.async false
set_option linter.all false
set_option maxRecDepth 100000
set_option maxHeartbeats 2000000
namespace Cf
open PySem PySem.Spec PyProof.Rows L2
open LamX (Tabs)
section
variable {X : Cx}
/-- a def that may let exceptions out, called where it doesn't -/
theorem passFS : ∀ σ, PassesAt (L2.CX X.prog X.w) X σ ((fun (_ : L2.St) (_ : Value) (_ : Option Addr) (_ : Hp) => False) σ) := fun σ pins H s e s' I c => passF (X := X) pins σ H s e s' I c
end
end Cf

set_option Elab.async false
set_option linter.all false
set_option maxRecDepth 100000
set_option maxHeartbeats 4000000
/-! NJ: sorted and min of pairs (int, text). -/
namespace SrtIS
open PySem PyProof.Rows Srt SrtO
def IsIS (h : Heap) (v : Value) (x : Int) (y : Str) : Prop := ∃ a o t u n, v = .ref a ∧ h.get? a = some o ∧ o.cls = .type "tuple" ∧ o.data = .seq #[.int x t, .str y u] n
theorem IsIS.keeps {h h' : Heap} {v : Value} {x : Int} {y : Str} (p : IsIS h v x y) (k : ∀ b o, h.get? b = some o → o.cls = .type "tuple" → h'.get? b = some o) : IsIS h' v x y := by
  obtain ⟨a, o, t, u, n, e, ho, hc, hd⟩ := p
  exact ⟨a, o, t, u, n, e, k _ _ ho hc, hc, hd⟩
theorem str_ext {a b : Str} (h : a.cps.toList = b.cps.toList) : a = b := by
  cases a with
  | mk x => cases b with
    | mk y => rw [show x = y from Array.toList_inj.mp h]
section
variable {prog : Program} {w : World} {A : Around} {E : Value → Shared → Prop} {s : Shared}
end
end SrtIS
namespace Cf
open PySem PySem.Spec PyProof.Rows L2 SrtIS
open PySem.W (dataLt minD min_list_data AlikeAll alike alikeAll dataLt_pair dataLt_int dataLt_str)
/-- a list of pairs (int, text) -/
inductive PIS (H : Hp) : List V → List (Int × Str) → Prop
  | nil : PIS H [] []
  | cons {t : Addr} {p : Int × Str} {xs : List V} {ps : List (Int × Str)} : H t = some (.tup [.int p.1, .str p.2]) → PIS H xs ps → PIS H (.ref t :: xs) (p :: ps)
theorem PIS.len {H : Hp} : ∀ {xs : List V} {ps : List (Int × Str)}, PIS H xs ps → xs.length = ps.length
  | _, _, .nil => rfl
  | _, _, .cons _ h => by rw [List.length_cons, List.length_cons, h.len]
theorem PIS.keep {H H' : Hp} (k : ∀ t xs, H t = some (.tup xs) → H' t = some (.tup xs)) : ∀ {xs : List V} {ps : List (Int × Str)}, PIS H xs ps → PIS H' xs ps
  | _, _, .nil => .nil
  | _, _, .cons e h => .cons (k _ _ e) (h.keep k)
/-- what the pair at a place of the heap says -/
def kIS (H : Hp) : V → Int × Str
  | .ref t => match H t with
    | some (.tup [.int i, .str s]) => (i, s)
    | _ => (0, Str.empty)
  | _ => (0, Str.empty)
theorem kIS_at {H : Hp} {t : Addr} {i : Int} {s : Str} (h : H t = some (.tup [.int i, .str s])) : kIS H (.ref t) = (i, s) := by
  unfold kIS
  show (match H t with | some (.tup [.int i, .str s]) => (i, s) | _ => (0, Str.empty)) = _
  rw [h]
theorem PIS.map {H : Hp} : ∀ {xs : List V} {ps : List (Int × Str)}, PIS H xs ps → xs.map (kIS H) = ps
  | _, _, .nil => rfl
  | _, _, .cons (p := p) e h => by rw [List.map_cons, h.map, kIS_at e]
theorem PIS.all {H : Hp} : ∀ {xs : List V} {ps : List (Int × Str)}, PIS H xs ps → ∀ x ∈ xs, ∃ t, x = .ref t ∧ H t = some (.tup [.int (kIS H x).1, .str (kIS H x).2])
  | _, _, .nil, _, hx => nomatch hx
  | _, _, .cons (t := t) e h, x, hx => by
    rcases List.mem_cons.mp hx with rfl | hx
    · refine ⟨t, rfl, ?_⟩
      rw [kIS_at e]
      exact e
    · exact h.all x hx
theorem PIS.of {H : Hp} : ∀ {xs : List V}, (∀ x ∈ xs, ∃ t, x = .ref t ∧ H t = some (.tup [.int (kIS H x).1, .str (kIS H x).2])) → PIS H xs (xs.map (kIS H))
  | [], _ => .nil
  | x :: xs, h => by
    obtain ⟨t, rfl, e⟩ := h x List.mem_cons_self
    exact .cons e (PIS.of fun y hy => h y (List.mem_cons_of_mem _ hy))
section
variable {X : Cx}
/-! ### the least pair -/
def encIS (p : Int × Str) : PyData := .tuple [.int p.1, .str p.2]
theorem PIS.reads {pins : List (Addr × Obj)} {σ : L2.St} {H : Hp} {s : Shared} (I : Inv X pins σ H s) : ∀ {xs : List V} {ps : List (Int × Str)} {us : List Value}, PIS H xs ps → Vals xs us → ∃ as, ReadsAll s.heap us (ps.map encIS) as
  | _, _, _, .nil, .nil => ⟨[], .nil⟩
  | _, _, _, .cons (t := t) e h, .cons r rs => by
    obtain ⟨as, ih⟩ := h.reads I rs
    obtain rfl : _ = Value.ref t := r
    obtain ⟨_, its2, r2, o, ho, hc, n, hd⟩ := I.hok _ _ e
    obtain ⟨u1, u2, rfl, ri, rj⟩ := vals2 r2
    obtain ⟨t1, rfl⟩ := ri
    obtain ⟨t2, rfl⟩ := rj
    exact ⟨_, .cons (.tuple ho hc hd (.cons (.int _ _) (.cons (.str _ _) .nil))) ih⟩
end
end Cf

set_option Elab.async false
set_option linter.all false
set_option maxRecDepth 100000
set_option maxHeartbeats 2000000
namespace Cf
open PySem PySem.Spec PyProof.Rows L2
open LamX (Tabs)
/-! ### d[k] as one target among several -/
section
variable {X : Cx} {o i : Expr} {pos : Pos} {td ty : TE}
/-! ### dict(list(d.items())): a copy -/
/-- a reading that may be weakened -/
def tWk (te : TE) : TE := fun σ H Q => ∃ P : VK, te σ H P ∧ ∀ x H1, P x H1 → Q x H1
theorem pe_wk {e : Expr} {te : TE} (he : PE X e te) : PE X e (tWk te) := by
  refine ⟨fun pins s σ H Q I h => ?_⟩
  obtain ⟨P, h, w⟩ := h
  exact thn (he.run pins s σ H P I h) fun u s1 ⟨x, H1, I1, r1, q1⟩ => ⟨x, H1, I1, r1, w x H1 q1⟩
end
end Cf

set_option Elab.async false
set_option linter.all false
set_option maxRecDepth 100000
set_option maxHeartbeats 2000000
/-! NL: sorted(set(xs)), xs a list of texts. -/
namespace Cf
open PySem PySem.Spec PyProof.Rows L2 PySem.Froz
/-- the payload of a set that can be walked, with the texts l in it -/
structure TxR (P : Program) (w : World) (D : SD) (l : List Str) : Prop where
  ok : TxOk P w D l
  ris : Ris D.2.2.place.toList
  led : w.params.followText "set-order" = true ∨ D.2.2.led = true
  vals : ∃ vs : List Value, vs.Perm (D.1.toList.map (·.2)) ∧ StrsAre vs l
section
variable {P : Program} {w : World}
variable {A : Around} {E : Value → Shared → Prop} {s : Shared}
end
section
variable {P : Program} {w : World} {A : Around} {E : Value → Shared → Prop} {s : Shared}
end
/-! ### as rules -/
section
variable {X : Cx}
end
end Cf

set_option Elab.async false
set_option linter.all false
set_option maxRecDepth 100000
set_option maxHeartbeats 2000000
/-! NM: xs == [], xs a list of anything. -/
namespace Cf
open PySem PySem.Spec PyProof.Rows L2
section
variable {X : Cx}
end
end Cf

set_option Elab.async false
set_option linter.all false
set_option maxRecDepth 100000
set_option maxHeartbeats 2000000
/-! NN: len(o), o with a __len__ of its own. -/
namespace Cf
open PySem PySem.Spec PyProof.Rows L2
section
variable {X : Cx}
end
end Cf

set_option Elab.async false
set_option linter.all false
set_option maxRecDepth 100000
set_option maxHeartbeats 2000000
namespace Cf
open PySem PySem.Spec PyProof.Rows L2
/-! ### a caught exception, with an own dict or without -/
structure KeptO (H : Hp) (a D : Addr) (d : Option Addr) (fs : List (Str × V)) : Prop where
  ob : H a = some (ExK (.ref D) d a)
  di : ∀ q, d = some q → H q = some (.xd fs)
theorem KeptO.kept {H : Hp} {a D q : Addr} {fs : List (Str × V)} (k : KeptO H a D (some q) fs) : Kept H a D q fs := ⟨k.ob, k.di q rfl⟩
theorem KeptO.kp {H H' : Hp} {a D : Addr} {d : Option Addr} {fs : List (Str × V)} (h : KeptO H a D d fs) (k : Kp [] H H') : KeptO H' a D d fs := ⟨k.at0 h.ob, fun q e => k.at0 (h.di q e)⟩
section
variable {X : Cx}
theorem KeptO.inst {pins : List (Addr × Obj)} {σ : L2.St} {H : Hp} {s : Shared} {a D : Addr} {d : Option Addr} {fs : List (Str × V)} (k : KeptO H a D d fs) (I : Inv X pins σ H s) :
    ∃ (oe : Obj) (od : Option Obj), PySem.W.InstAt s.heap a oe D od := by
  cases d with
  | some q =>
    obtain ⟨oe, od, m, J, _⟩ := k.kept.inst I
    exact ⟨oe, _, J⟩
  | none =>
    obtain ⟨⟨oe, vs, e1, ⟨e2, e3⟩, e4⟩, _, _⟩ := I.hok a _ k.ob
    refine ⟨oe, none, ?_⟩
    obtain ⟨oc, od, oda, osl⟩ := oe
    dsimp only at e2 e3 e4
    subst e2 e3 e4
    exact ⟨e1, rfl, rfl, trivial⟩
/-- isinstance(e, c), e a caught exception -/
theorem call_isKO {K : PySem.W.Frag} (eK : X.K = K) : CallR X (.builtin "isinstance")
    (fun xs H Q => ∃ (a D : Addr) (d : Option Addr) (fs : List (Str × V)) (c : V) (cv : Value) (b : Bool), ExcC K D ∧ KeptO H a D d fs ∧ xs = [.ref a, c] ∧ (∀ u, RelV c u → u = cv) ∧ PySem.W.kitOne K (.ref D) cv = some b ∧ Q (.bl b) H) := by
  subst eK
  intro pins s σ H xs us Q I r h
  obtain ⟨a, D, d, fs, c, cv, b, C, k, rfl, hcv, e, q⟩ := h
  obtain ⟨u1, u2, rfl, r1, r2⟩ := vals2 r
  cases (show u1 = Value.ref a from r1)
  obtain rfl := hcv _ r2
  obtain ⟨oe, od, J⟩ := k.inst I
  exact PySem.W.kia_one (kit_kept C) I.kIn J e (fun z => nomatch z) fun tk => ⟨.bl b, H, I.kept (t' := tk) fun _ _ z => z, rfl, q⟩
/-! ### a text in a list or tuple of texts -/
theorem flat_strs (ns : List Str) : (ns.map V.str).all flatV = true := by
  rw [List.all_eq_true]
  intro v hv
  obtain ⟨i, _, rfl⟩ := List.mem_map.mp hv
  rfl
theorem inV_str (i : Str) : ∀ ns : List Str, inV (.str i) (ns.map V.str) = decide (i ∈ ns)
  | [] => rfl
  | x :: r => by
    have ih := inV_str i r
    unfold inV at ih ⊢
    rw [List.map_cons, List.any_cons, ih]
    have e : eqV (.str x) (.str i) = decide (i = x) := by
      by_cases h : i = x
      · subst h
        simp [eqV]
      · have h2 : ¬ x = i := fun z => h z.symm
        simp [eqV, h, h2]
    rw [e]
    by_cases h : i = x <;> simp [h]
theorem op_inS {K : PySem.W.Frag} (e : X.K = K) : OpR X (compareOp .In) (fun x y H Q => ∃ p, ∃ ns : List Str, ∃ i : Str, x = .str i ∧ y = .ref p ∧ (SqL K H p (ns.map V.str) ∨ SqT K H p (ns.map V.str)) ∧ Q (.bl (decide (i ∈ ns))) H) := by
  subst e
  refine op_imp op_in_seq fun x y H Q ⟨p, ns, i, a, b, c, q⟩ => ?_
  subst a
  refine ⟨p, _, b, c, rfl, flat_strs ns, ?_⟩
  rw [inV_str]
  exact q
/-! ### a def without parameters -/
end
end Cf
set_option Elab.async false
set_option linter.all false
set_option maxRecDepth 100000
set_option maxHeartbeats 2000000
namespace Cf
open PySem PySem.Spec PyProof.Rows L2
/-! ### sorted of a tuple of texts -/
section
variable {prog : Program} {w : World} {A : Around} {E : Value → Shared → Prop} {s : Shared} {l : Addr}
theorem sorted_tupS {vs : List Value} {ss : List Str} {Q : Value → Shared → Prop} (hl : s.heap.IsTuple l vs.toArray) (hS : StrsAre vs ss) (hz : vs.length ≤ sizeLine)
    (h : ∀ (out : Array Value) (ms : List Str), StrsAre out.toList ms → ms.Perm ss → sortedS ms = true → Q (.ref (s.heap.objs.size + 1)) { s with heap := sortedAll s.heap vs out }) :
    wpAny (model prog w) A (call (.builtin "sorted") [.ref l]) Q E s := by
  refine Calls.call_function_entry kind_sorted plain_sorted entry_sorted (args_sorted1 _) ?_
  unfold Builtin.«sorted»
  refine wpAny_bind (m := checkCount "sorted" 1 1 _) (wpAny_pure ?_)
  refine wpAny_bind (collect_tup hl hz ?_)
  refine wpAny_bind (wpAny_newList ?_ hz)
  have size1 : ((s.heap.push (seqObj "list" #[] 0)).update s.heap.objs.size (Obj.mapSeq (· ++ vs.toArray))).objs.size = s.heap.objs.size + 1 := by
    rw [Heap.size_update, Heap.size_push]
  have new : (((s.heap.push (seqObj "list" #[] 0)).update s.heap.objs.size (Obj.mapSeq (· ++ vs.toArray))).push (seqObj "list" vs.toArray 0)).get? (s.heap.objs.size + 1) = some (seqObj "list" vs.toArray 0) := by
    rw [← size1]
    exact Heap.get?_push_size _ rfl
  show wpAny _ _ _ _ _ { s with heap := ((s.heap.push (seqObj "list" #[] 0)).update s.heap.objs.size (Obj.mapSeq (· ++ vs.toArray))).push (seqObj "list" vs.toArray 0) }
  rw [size1]
  refine wpAny_bind (wpAny_holding (wpAny_call_entry slot_list_sort ⟨_, new, rfl⟩ entry_list_sort (list_sort_treeKAny strKind_oneLt new hS.keysOf (fun v₁ v₂ rest e => keyKind_strs (by rw [← e]; exact hS)) hz fun st' hp hs => ?_) (args_list_sort _)))
  obtain ⟨m1, b1, b2, b3⟩ := sorted_out_str hS hp hs
  exact ⟨_, rfl, wpAny_pure ⟨_, rfl, h _ m1 b1 b2 b3⟩⟩
end
section
variable {X : Cx}
theorem cr_sortTS {K : PySem.W.Frag} (e : X.K = K) : CallR X (.builtin "sorted") (fun vs H Q => ∃ (p : Addr) (ns : List Str), vs = [.ref p] ∧ SqT K H p (ns.map V.str) ∧
    ∀ (ms : List Str), ms.Perm ns → sortedS ms = true → New H (.lst (ms.map V.str)) Q) := by
  subst e
  intro pins s σ H vs us Q I r h
  obtain ⟨a, xs, rfl, hs, q⟩ := h
  obtain ⟨its, rv, hl, hz⟩ := I.tuple hs
  rw [Vals.ref1 r]
  refine sorted_tupS hl rv.strs (by rw [← rv.length]; exact hz) fun out ys h1 h2 h3 => ?_
  obtain ⟨ep, he⟩ := PyProof.Rows.sortedAll_at s.heap its out
  have hlen : (ys.map V.str).length ≤ sizeLine := by rw [List.length_map, h2.length_eq, ← List.length_map (f := V.str)]; exact hz
  exact ⟨.ref _, upd H (s.heap.objs.size + 1) (.lst (ys.map V.str)), I.laid (t' := s.toks) (fun _ _ => PyProof.Rows.sortedAll_old) (Nat.le_succ _) ⟨hlen, out.toList, ep, vals_of_strs h1, he⟩, rfl, (q ys h2 h3).go _ (I.hok.fresh (Nat.le_succ _))⟩
end
/-! ### list(zip(a, b)) of two tuples of one length -/
/-- the pairs of xs and ys from place k on, at the addresses as -/
def PrsAt (h : Heap) (xs ys : Array Value) : Nat → List Addr → Prop
  | _, [] => True
  | k, a :: as => (∃ x y, xs[k]? = some x ∧ ys[k]? = some y ∧ IsPair h a x y) ∧ PrsAt h xs ys (k + 1) as
theorem PrsAt.go {h h' : Heap} {xs ys : Array Value} : ∀ {as : List Addr} {k : Nat}, PrsAt h xs ys k as → (∀ a ∈ as, ∀ o, h.get? a = some o → h'.get? a = some o) → PrsAt h' xs ys k as
  | [], _, _, _ => trivial
  | a :: as, k, ⟨⟨x, y, e1, e2, e3⟩, r⟩, w => ⟨⟨x, y, e1, e2, w a List.mem_cons_self _ e3⟩, PrsAt.go r fun b hb => w b (List.mem_cons_of_mem _ hb)⟩
section
variable {prog : Program} {w : World} {A : Around} {E : Value → Shared → Prop} {s : Shared}
/-- what stands while a zip of two tuples is drawn from: pair k is the next one -/
structure ZipRun (h : Heap) (z TI TO T i1 i2 l1 l2 : Addr) (f : Bool) (k : Nat) (xs ys : Array Value) : Prop where
  z : IsZipHeld h z TI TO T f
  T : ∃ o, h.get? T = some o
  TI : IsPair h TI (.ref i1) (.ref i2)
  i1 : h.IsTupleIter i1 l1 k
  i2 : h.IsTupleIter i2 l2 k
  l1 : h.IsTuple l1 xs
  l2 : h.IsTuple l2 ys
end
theorem PrsAt.get {h : Heap} {xs ys : Array Value} : ∀ {as : List Addr} {k j : Nat} {a : Addr}, PrsAt h xs ys k as → as[j]? = some a → ∃ x y, xs[k + j]? = some x ∧ ys[k + j]? = some y ∧ IsPair h a x y
  | [], _, _, _, _, e => by cases e
  | b :: as, k, 0, a, ⟨z, _⟩, e => by
    cases e
    exact z
  | b :: as, k, j + 1, a, ⟨_, r⟩, e => by
    have := PrsAt.get (k := k + 1) (j := j) r e
    rw [show k + 1 + j = k + (j + 1) by omega] at this
    exact this
section
variable {X : Cx}
end
end Cf

set_option Elab.async false
set_option linter.all false
set_option maxRecDepth 100000
set_option maxHeartbeats 2000000
/-! NQ: an own __eq__ against a value of any kind, != by it, dicts compared. -/
namespace Cf
open PySem PySem.Spec PyProof.Rows L2
section
variable {κ : Type} [DecidableEq κ]
/-- what a comparison of two dicts of one length finds -/
def dEqB (ks ls : List (κ × V)) : Bool := ks.all fun p => match valV ls p.1 with
  | none => false
  | some y => eqV p.2 y
theorem valV_in2 : ∀ {ls : List (κ × V)} {k : κ} {y : V}, valV ls k = some y → ∃ p ∈ ls, p.2 = y
  | [], _, _, h => by rw [valV_nil] at h; cases h
  | p :: r, k, y, h => by
    by_cases e : p.1 = k
    · rw [valV_pos e] at h
      exact ⟨p, List.mem_cons_self, Option.some.inj h⟩
    · rw [valV_neg e] at h
      obtain ⟨q, hq, z⟩ := valV_in2 h
      exact ⟨q, List.mem_cons_of_mem _ hq, z⟩
theorem hits_any {A : Around} {s : Shared} {kvs : List (κ × V)} {vb : List (κ × Value)} (rb : KV kvs vb) (fb : ∀ p ∈ kvs, flatV p.2 = true) {ks : List (κ × V)} {va : List (κ × Value)} (ra : KV ks va) :
    (∀ p ∈ ks, flatV p.2 = true) → PySem.W.KeqHits A s vb va (dEqB ks kvs) := by
  unfold KV at ra
  induction ra with
  | nil => intro _; exact .nil
  | @cons p q ps qs h t ih =>
    intro hp
    obtain ⟨h1, h2⟩ := h
    obtain ⟨k, v⟩ := q
    have h1' : p.1 = k := h1
    have rv := rb.val p.1
    have ih := ih fun p' hm => hp p' (List.mem_cons_of_mem _ hm)
    show PySem.W.KeqHits A s vb ((k, v) :: qs) ((match valV kvs p.1 with | none => false | some y => eqV p.2 y) && dEqB ps kvs)
    cases e : valV kvs p.1 with
    | none =>
      rw [e] at rv
      have z := rv.none_of
      rw [h1'] at z
      exact .miss z
    | some y =>
      rw [e] at rv
      obtain ⟨z, hz, rz⟩ := rv.some_of
      rw [h1'] at hz
      obtain ⟨q, hq, eq⟩ := valV_in2 e
      exact .hit hz (eqAt_V h2 rz (hp p List.mem_cons_self) (by rw [← eq]; exact fb q hq)) ih
end
section
variable {X : Cx}
/-- == of two dicts of plain values -/
theorem op_eqDD (hu : X.A.units < cLine) : OpR X (compareOp .Eq) (fun x y H Q => ∃ (a b : Addr) (ks ls : List (Key × V)), x = .ref a ∧ y = .ref b ∧ H a = some (.dK ks) ∧ H b = some (.dK ls) ∧ (∀ p ∈ ks, flatV p.2 = true) ∧ (∀ p ∈ ls, flatV p.2 = true) ∧ Q (.bl (ks.length == ls.length && dEqB ks ls)) H) := by
  intro pins s σ H x y v u Q I rx ry h
  obtain ⟨a, b, ks, ls, rfl, rfl, ea, eb, fa, fb, q⟩ := h
  obtain rfl : v = Value.ref a := rx
  obtain rfl : u = Value.ref b := ry
  obtain ⟨_, ya, va, ra, da⟩ := (show ObjOk X.prog X.w H s.heap a (.dK ks) from I.hok a _ ea)
  obtain ⟨_, yb, vb, rb, db⟩ := (show ObjOk X.prog X.w H s.heap b (.dK ls) from I.hok b _ eb)
  refine PySem.W.keq_eq (knd := mixKind X.prog X.w) (r := dEqB ks ls) ya yb da db hu (fun _ => hits_any rb fb ra fa) (fin_bl I q ?_)
  rw [ra.length, rb.length]
end
section
variable {prog : Program} {w : World} {A : Around} {E : Value → Shared → Prop} {s : Shared} {K : PySem.W.Frag} {x C f : Addr} {ox : Obj} {od : Option Obj} {name : Str}
theorem ifBound_B {M : Model} {args : List Value} {id : String} {Q : Option Value → Shared → Prop} (X : K.In s.heap) (I : PySem.W.InstAt s.heap x ox C od) (hs : PySem.W.findIn K (.ref C) name = some (some (.builtin id))) (hb : ∀ self, bindSpecial (.builtin id) self = pure (.builtin id, [self]))
    (h : wpAny M A (call (.builtin id) (.ref x :: args)) (fun v => Q (some v)) E s) : wpAny M A (callSpecialIfBound? (.ref x) name args) Q E s := by
  simp only [callSpecialIfBound?, bindSpecialIfBound?]
  refine wpAny_holding (wpAny_bind (wpAny_bind (wpAny_bind (I.type.here ((PySem.W.looks_findIn X hs).here ?_)))))
  simp only [hb]
  refine wpAny_bind (wpAny_askSetting (wpAny_ite ?_))
  have fin : wpAny M A (call (.builtin id) ([.ref x] ++ args) >>= fun v => pure (some v)) Q E s := wpAny_bind (wpAny_mono h (fun v s' h' => wpAny_pure h') fun _ _ h' => h')
  split
  · exact wpAny_bind (wpAny_pure (wpAny_pure fin))
  · exact wpAny_tryCatch (wpAny_bind (wpAny_pure (wpAny_pure fin)))
theorem objNe_K {y : Value} {Q : Fin → Shared → Prop} (hu : A.units < cLine) (X : K.In s.heap) (I : PySem.W.InstAt s.heap x ox C od) (hs : PySem.W.findIn K (.ref C) "__eq__" = some (some (.ref f))) (hf : PySem.W.isFn K (.ref f) = true)
    (hcall : wpAny (model prog w) A (call (.ref f) [.ref x, y]) (fun v s' => ∃ b, v = .bool b ∧ Q (.done (.ret (.bool (!b)))) s') E s) :
    wpAny (model prog w) A (Builtin.«object.__ne__» ⟨[.ref x, y], []⟩) Q E s := by
  unfold Builtin.«object.__ne__»
  repeat (first
    | with_reducible refine wpAny_cRoomFor hu ?_
    | (refine wpAny_bind (m := callSpecialIfBound? (.ref x) (Str.ofString "__eq__") [y])
        (PySem.W.ifBound_K X I hs hf (wpAny_mono hcall (fun r s' hr => by
          obtain ⟨b, rfl, hq⟩ := hr
          repeat (first | exact hq | exact wpAny_pure hq | exact wpAny_truthy_bool hq | (refine wpAny_bind (m := truthy (.bool _)) (wpAny_truthy_bool ?_)) | wp_step)) fun _ _ e => e)))
    | wp_step)
theorem cmp_ne_K {L : Addr} {h₀ : Heap} {m : Str → Option Value} {b tb : Value} {Q : Value → Shared → Prop} (hu : A.units + 1 < cLine) (F : PyProof.Rows.Fr h₀ L s.heap m) (X₀ : K.In h₀) (I : PySem.W.InstAt s.heap x ox C od) (hb : PySem.W.Looks (model prog w) s.heap (typeOf b) tb) (hn : PySem.W.notFirst K C tb = true)
    (hne : PySem.W.findIn K (.ref C) "__ne__" = some (some (.builtin "object.__ne__"))) (hm : PySem.W.mroIn K C (.type "object") = some true) (hs : PySem.W.findIn K (.ref C) "__eq__" = some (some (.ref f))) (hf : PySem.W.isFn K (.ref f) = true)
    (h : wpAny (model prog w) A.in1 (call (.ref f) [.ref x, b]) (fun v s' => ∃ c, v = .bool c ∧ Q (.bool (!c)) s') E s) : wpAny (model prog w) A (richCompare .NotEq (.ref x) b) Q E s := by
  have X := X₀.keeps F.keep
  have one : wpAny (model prog w) A (tryCompare (.ref x) "__ne__" b) (fun r s' => ∃ v, r = some v ∧ Q v s') E s := by
    unfold tryCompare
    refine wpAny_bind (ifBound_B X I hne PySem.F.slot_object_ne.bind (wpAny_call (codeAny_call_builtin PySem.F.slot_object_ne.plain PySem.F.entry_object_ne
      (PySem.W.check_slot PySem.F.cmpKind_ne PySem.F.cmpSplit_ne (I.type.andThen (PySem.W.looks_mroIn X hm)) (PySem.F.cmpArgs_ne _ _) (objNe_K (A := A.in1) hu X I hs hf (wpAny_mono h (fun v s' hv => ?_) fun _ _ e => e))))))
    obtain ⟨c, rfl, hq⟩ := hv
    first | exact ⟨c, rfl, wpAny_pure ⟨_, rfl, hq⟩⟩ | exact ⟨c, rfl, ⟨_, wpAny_pure ⟨_, rfl, hq⟩⟩⟩ | exact ⟨c, rfl, wpAny_pure (wpAny_pure ⟨_, rfl, hq⟩)⟩
  unfold richCompare
  simp only [oneThing_ref]
  refine wpAny_holding (wpAny_bind (wpAny_cRoomFor (Nat.lt_of_succ_lt hu) ?_))
  refine wpAny_bind (I.type.here (wpAny_bind (hb.here ?_)))
  split
  · rename_i q
    have e : PySem.W.subIn K tb (.ref C) = some false := by
      rcases Bool.or_eq_true_iff.mp hn with e | e
      · rw [beq_iff_eq.mp e] at q; simp at q
      · exact beq_iff_eq.mp e
    refine wpAny_bind ((PySem.W.looks_subIn X e).here ?_)
    simp only [Bool.false_eq_true, if_false]
    refine wpAny_bind (wpAny_mono one (fun r s' z => ?_) fun _ _ e => e)
    obtain ⟨v, rfl, hq⟩ := z
    exact wpAny_pure hq
  · refine wpAny_bind (wpAny_pure ?_)
    simp only [Bool.false_eq_true, if_false]
    refine wpAny_bind (wpAny_mono one (fun r s' z => ?_) fun _ _ e => e)
    obtain ⟨v, rfl, hq⟩ := z
    exact wpAny_pure hq
end
section
variable {X : Cx}
/-- o != y by an own __eq__ -/
theorem op_neMo {k : Nat} {C : Addr} {sp : Sp} (M : ClM X.prog X.w X.K X.mg X.base CX0 k C "__eq__" sp) (hne : PySem.W.findIn X.K (.ref C) "__ne__" = some (some (.builtin "object.__ne__"))) (hmo : PySem.W.mroIn X.K C (.type "object") = some true) (hr : Room (k + 1) X.A) (hgd : X.A.guards = some []) :
    OpR X (compareOp .NotEq) (fun x y H Q => ∃ (a dx : Addr) (fs : List (Str × V)) (t : Value), x = .ref a ∧ H a = some (.ins C dx fs) ∧ TyX X.K H y t ∧ PySem.W.notFirst X.K C t = true ∧ sp [.ref a, y] H (fun v H' => ∃ c : Bool, v = .bl c ∧ Q (.bl (!c)) H') (fun _ _ _ => False)) := by
  intro pins s σ H x y v u Q I rx ry h
  obtain ⟨a, dx, fs, t, rfl, ea, ty, hn, q⟩ := h
  cases (show v = Value.ref a from rx)
  obtain ⟨f, fd, ps, F, hm, hb⟩ := M.ex
  obtain ⟨mA, O, _⟩ := ins_get I.hok ea
  obtain ⟨od, J, _⟩ := O.look
  obtain ⟨P, Z, pz, _⟩ := kit_of I ry ty
  obtain ⟨m, hF⟩ := I.fr
  have hl := F.len _ _ _ _ q
  have hb' := hb s [.ref a, u] I.kIn (by rw [List.append_nil]; exact hl)
  rw [List.append_nil] at hb'
  show wpAny _ _ (richCompare .NotEq (.ref a) u) _ _ _
  refine cmp_ne_K (tb := t) ?_ hF I.ok.mod.kin J (Z.ty _ _ I.kIn pz) hn hne hmo hm.at_ hm.fn ?_
  · have := hr.in1.units0
    exact this
  refine wpAny_call (codeAny_mono (F.run X.A.in1 X.stack s H ⟨[.ref a, u], []⟩ [.ref a, u] [.ref a, y] _ _ hr.in1 (by simpa using hgd) I.env0.in1 hb' (.cons rfl (.cons ry .nil)) q) ?_)
  intro res s' hq
  match res, hq with
  | .error er, hq => exact hq.elim
  | .ok (.ret u), hq =>
    obtain ⟨v, H', I', rv, n, rfl, q'⟩ := I.after hq
    cases (show u = Value.bool n from rv)
    exact ⟨n, rfl, .bl _, H', I', rfl, q'⟩
  | .ok .next, hq => exact hq.elim
  | .ok .brk, hq => exact hq.elim
  | .ok .cont, hq => exact hq.elim
end
section
variable {X : Cx}
end
end Cf

set_option Elab.async false
set_option linter.all false
set_option maxRecDepth 100000
set_option maxHeartbeats 2000000
/-! NR: max and min of a list of pairs of ints. -/
namespace Cf
open PySem PySem.Spec PyProof.Rows PySem.W L2
def encII (p : Int × Int) : PyData := .tuple [.int p.1, .int p.2]
def leII (p q : Int × Int) : Prop := p.1 < q.1 ∨ (p.1 = q.1 ∧ p.2 ≤ q.2)
theorem leII.trans {p q r : Int × Int} (a : leII p q) (b : leII q r) : leII p r := by
  unfold leII at *
  omega
section
variable {X : Cx} {pins : List (Addr × Obj)} {σ : L2.St} {H : Hp} {s : Shared}
theorem Pr.reads (I : Inv X pins σ H s) : ∀ {xs : List V} {ps : List (Int × Int)} {us : List Value}, Pr H xs ps → Vals xs us → ∃ as, ReadsAll s.heap us (ps.map encII) as
  | _, _, _, .nil, .nil => ⟨[], .nil⟩
  | _, _, _, .cons (t := t) e h, .cons r rs => by
    obtain ⟨as, ih⟩ := h.reads I rs
    obtain rfl : _ = Value.ref t := r
    obtain ⟨_, its2, r2, o, ho, hc, n, hd⟩ := I.hok _ _ e
    obtain ⟨u1, u2, rfl, ri, rj⟩ := vals2 r2
    obtain ⟨t1, rfl⟩ := ri
    obtain ⟨t2, rfl⟩ := rj
    exact ⟨_, .cons (.tuple ho hc hd (.cons (.int _ _) (.cons (.int _ _) .nil))) ih⟩
end
section
variable {X : Cx}
end
end Cf

set_option Elab.async false
set_option linter.all false
set_option maxRecDepth 100000
set_option maxHeartbeats 2000000
/-! NS: for i, x in enumerate(xs, start=1). -/
namespace Cf
open PySem PySem.Spec PyProof.Rows L2
section
variable {M : Model} {A : Around} {E : Value → Shared → Prop} {s : Shared} {env : Env}
theorem callWith_type_kwB {pos : Pos} {T : String} {first : List Value} {args : List (Bool × Sem Value)} {keywords : List (Option Str × Sem Value)} {Q : Value → Shared → Prop}
    (h1 : args.any (·.1) = false) (h2 : keywords.any (·.1.isNone) = false)
    (h : wpAny M A (evalArgs (.type T) true args keywords) (fun a s₁ => wpAny M A (call (.type T) (first ++ a.pos) a.kw) Q E s₁) E s) :
    wpAny M A (callWith pos (.type T) first args keywords) Q E s := by
  unfold callWith
  refine wpAny_bind (wpAny_holding (wpAny_mono h (fun a s₁ q => wpAny_bind (wpAny_standAt ?_)) fun _ _ x => x))
  simp only [h1, h2, Bool.or_false]
  refine wpAny_bind (wpAny_pure ?_)
  exact wpAny_bind (wpAny_mono q (fun r s₂ z => wpAny_bind (wpAny_holding (wpAny_point (wpAny_pure z)))) fun _ _ x => x)
end
/-- the places from n on, each with its item -/
def Ites (K : PySem.W.Frag) (a : Addr) (n : Nat) : It where
  go := fun i H => ∃ xs x, SqL K H a xs ∧ xs[i]? = some x
  yld := fun i H v H' => ∃ T x, v = .ref T ∧ H T = none ∧ Kp [] H H' ∧ H' T = some (.tup [.int ((i + n : Nat) : Int), x]) ∧ ∀ xs, SqL K H a xs → xs[i]? = some x
  stop := fun i H => ∃ xs, SqL K H a xs ∧ xs.length ≤ i
theorem turn_es {P : Program} {w : World} {K : PySem.W.Frag} {elts : List Expr} {kk : Nat} {tpos : Pos} (a e it : Addr) (n : Nat) (ne : e ≠ it) (na : a ≠ e) :
    Turn P w K (.Tuple elts kk tpos) (Ites K a n) [e, it] e (fun i h => (∃ old, IsEnum h e it ((i + n : Nat) : Int) old) ∧ h.IsListIter it a i) where
  mem := List.mem_cons_self
  obj := by
    rintro i h ⟨⟨old, he⟩, ⟨o, ho, _, hd⟩⟩ c hc
    simp only [List.mem_cons, List.not_mem_nil, or_false] at hc
    rcases hc with rfl | rfl
    · exact ⟨_, he, fun v q => nomatch q⟩
    · exact ⟨o, ho, fun v q => by rw [hd] at q; cases q⟩
  keep := by
    rintro i h h' ⟨⟨old, he⟩, hi⟩ k
    exact ⟨⟨old, k e (by simp) _ he⟩, hi.at fun o q => k it (by simp) o q⟩
  item := by
    intro X hP hw hK hc i pins s σ H E I hf st hg
    subst hP hw hK
    obtain ⟨⟨old, he⟩, hit⟩ := st
    obtain ⟨xs, x, hq, hx⟩ := hg
    obtain ⟨its, rv, p, _⟩ := I.list hq
    obtain ⟨u, hu, ru⟩ := rv.get hx
    have lt : ∀ c ∈ [e, it], c < s.heap.objs.size := by
      intro c hc
      simp only [List.mem_cons, List.not_mem_nil, or_false] at hc
      rcases hc with rfl | rfl
      · exact Heap.lt_size he
      · obtain ⟨_, q, _⟩ := hit
        exact Heap.lt_size q
    refine next_enum he (PySem.wpAny_nextOf_list_item hit p.isList (x := u) (by simpa using hu) ?_)
    intro g1 hit1 same1
    refine ⟨(same1.2 e ne).trans he, ?_⟩
    intro g2 E2 T2 size2 kept2
    refine ⟨_, rfl, wpAny_letOwnedTupleGo_enum (s := { s with heap := g2, toks := s.toks + 1 }) E2 ?_⟩
    intro g3 E3 same3
    replace same3 : Heap.SameBut e g2 g3 := same3
    have size1 : g1.objs.size = s.heap.objs.size := same1.1
    have ltE : e < g1.objs.size := by
      rw [size1]
      exact lt e (List.mem_cons_self)
    have T3 : g3.get? s.heap.objs.size = some { cls := .type "tuple", data := .seq #[.int ((i + n : Nat) : Int) s.toks, u] } := by
      rw [← size1]
      exact (same3.2 _ (Nat.ne_of_gt ltE)).trans T2
    have hn : H s.heap.objs.size = none := I.hok.fresh (Nat.le_refl _)
    have I2 : L2.Inv X pins σ (upd H s.heap.objs.size (.tup [.int ((i + n : Nat) : Int), x])) { s with heap := g3, toks := s.toks + 1 } := by
      refine I.turnedNew (ch := [e, it]) ?_ hf (Nat.le_refl _) ?_
      · intro c o hc q
        have hce : c ≠ e := fun z => hc (by simp [z])
        have hci : c ≠ it := fun z => hc (by simp [z])
        exact (same3.2 c hce).trans (kept2 c o hce ((same1.2 c hci).trans q))
      · exact ⟨by show 2 ≤ sizeLine; decide, [.int ((i + n : Nat) : Int) s.toks, u], .cons ⟨_, rfl⟩ (.cons ru .nil), ⟨_, T3, rfl, _, rfl⟩⟩
    have eT : Value.ref g1.objs.size = Value.ref s.heap.objs.size := by rw [size1]
    refine ⟨.ref s.heap.objs.size, _, I2, eT, ⟨_, x, rfl, hn, Kp.new hn, upd_same, ?_⟩, ⟨⟨u, ?_⟩, ?_⟩, ?_⟩
    · intro l hl
      rw [I.list_inj hl hq]
      exact hx
    · rw [show ((i + 1 + n : Nat) : Int) = ((i + n : Nat) : Int) + 1 by omega]
      exact E3
    · exact hit1.at fun o q => (same3.2 it ne.symm).trans (kept2 it o ne.symm q)
    · intro c hc
      rw [upd_ne (Nat.ne_of_lt (lt c hc))]
      exact (hf c hc).1
  done := by
    intro X hP hw hK hc i pins s σ H E I hf st hg
    subst hP hw hK
    obtain ⟨⟨old, he⟩, hit⟩ := st
    obtain ⟨xs, hq, hl⟩ := hg
    obtain ⟨its, rv, p, _⟩ := I.list hq
    have n1 := rv.length
    refine next_enum_end he (PySem.wpAny_nextOf_list_end (I.ok.hd hc) hit p.isList (by simp; omega) ?_)
    rintro g1 ex kept ⟨o, ho, hcl⟩
    refine ⟨ex, o, rfl, ho, hcl, rfl, ?_⟩
    refine I.turnedL (t' := s.toks) (ch := [e, it]) ?_ hf
    intro c ob hb q
    exact kept c ob (fun z => hb (by simp [z])) q
  self := by
    rintro A i s Q E ⟨⟨old, he⟩, _⟩ h
    exact wpAny_pyIter_enum he h
def iEs (K : PySem.W.Frag) (te tk : TA) : TI := fun σ H R => te σ H fun vs H1 => tk σ H1 fun zs H2 => ∃ a xs n, vs = [.ref a] ∧ zs = [.int ((n : Nat) : Int)] ∧ n < 1000 ∧ SqL K H2 a xs ∧ R (Ites K a n) H2
theorem pi_es {X : Cx} {e : Expr} {kws : List Keyword} {te tk : TA} {p pos tpos : Pos} {elts : List Expr} {kk : Nat} (hg : Gl X "enumerate") (hm : X.mg "enumerate" = none)
    (ha : PA X [e] te) (hk : PK X kws tk) (he : backTo pos (starEach [e] X.env) = (false, eval e X.env) :: backTo pos (starEach [] X.env) := by rfl) (hpl : (backTo pos (starEach [e] X.env)).any (·.1) = false := by rfl)
    (hall : (backToKw pos (keywordEach kws X.env)).all (·.1.isSome) = true := by rfl) (hnone : (backToKw pos (keywordEach kws X.env)).any (·.1.isNone) = false := by rfl)
    (hks : (backToKw pos (keywordEach kws X.env)).filterMap (·.1) = [Str.ofString "start"] := by rfl) :
    PI X (.Tuple elts kk tpos) (.Call (.Name "enumerate" p) [e] kws pos) (iEs X.K te tk) := by
  refine ⟨fun pins s σ H R I h => ?_⟩
  refine wpAny_Call_Name_kw (ld_blt I hg hm PyProof.Rows.boot_enumerate ?_)
  refine callWith_type_kwB hpl hnone ?_
  rw [he]
  refine evalArgs_kwB hall ?_
  rw [← he]
  refine thn (ha.run pos pins s σ H _ I h) fun us s1 ⟨vs, H1, I1, r1, q1⟩ => thn (hk.run pos pins s1 σ H1 _ I1 q1) fun ws s2 ⟨zs, H2, I2, r2, q2⟩ => ?_
  obtain ⟨a, xs, n, rfl, rfl, hn, hq, q⟩ := q2
  rw [hks]
  cases r1 with
  | cons ra rb =>
    cases rb
    cases ra
    cases r2 with
    | cons rc rd =>
      cases rd
      obtain ⟨t, rfl⟩ := rc
      obtain ⟨its, rv, p1, _⟩ := I2.list hq
      refine enum_begins_start (begins_list a its.toArray) p1.isList (by omega) (by omega) ?_
      intro g1 he1 hit sz kept
      refine wpAny_pyIter_enum he1 ?_
      have I3 : L2.Inv X pins σ H2 { s2 with heap := g1 } := I2.kept (t' := s2.toks) kept
      have la : a < s2.heap.objs.size := by
        obtain ⟨o, ho, _⟩ := p1.isList
        exact Heap.lt_size ho
      refine ⟨s2.heap.objs.size + 1, [s2.heap.objs.size + 1, s2.heap.objs.size], _, Ites X.K a n, H2, rfl, I3,
        turn_es a (s2.heap.objs.size + 1) s2.heap.objs.size n (Nat.succ_ne_self _) (Nat.ne_of_lt (Nat.lt_succ_of_lt la)), ⟨⟨.none, ?_⟩, ?_⟩, ?_, q⟩
      · rw [Nat.zero_add]; exact he1
      · exact ⟨_, hit, rfl, rfl⟩
      intro c hc
      have hle : s2.heap.objs.size ≤ c := by
        simp only [List.mem_cons, List.not_mem_nil, or_false] at hc
        rcases hc with rfl | rfl
        · exact Nat.le_add_right _ _
        · exact Nat.le_refl _
      exact I2.fpOk hle (I2.hok.fresh hle)
def YES (n : Nat) (xs : List V) : Nat → Hp → V → Hp → Prop := fun i H x H' => ∃ T v, x = .ref T ∧ H T = none ∧ Kp [] H H' ∧ H' T = some (.tup [.int ((i + n : Nat) : Int), v]) ∧ xs[i]? = some v
theorem walk_es {K : PySem.W.Frag} {a : Addr} {n : Nat} {xs : List V} : Walk (Ites K a n) xs.length (fun H => SqL K H a xs) (YES n xs) := by
  refine ⟨fun i H hi q => ⟨_, _, q, List.getElem?_eq_getElem hi⟩, fun H q => ⟨_, q, Nat.le_refl _⟩, ?_⟩
  rintro i H x H' hi q ⟨T, x1, e, n, kp, hT, e1⟩
  exact ⟨T, x1, e, n, kp, hT, e1 _ q⟩
end Cf

set_option Elab.async false
set_option linter.all false
set_option maxRecDepth 100000
set_option maxHeartbeats 2000000
/-! NT: an except suite that raises anew from None: X(v) made where nothing is handled, its context kept in sight; X(v) made in the suite. -/
namespace Cf
open PySem PySem.Spec PyProof.Rows L2
section
variable {P : Program} {w : World} {K : PySem.W.Frag} {mg : Str → Option Value} {base : Heap}
/-- a def that may let exceptions of the program out, none of them with a context -/
theorem okN {k : Nat} {x qual : Str} {st : Stmt} {f : Addr} {fd : FuncData}
    {N ps : List Str} {sp : Sp} (F : Fun K x qual st f fd) (S : FnScope N ps (defScope st))
    (len : ∀ vs H Q E, sp vs H Q E → vs.length = ps.length)
    (body : ∀ (cdv : Value) (A : Around) (outer : List Env) (s : Shared) (H : Hp) (vs : List V) (Q : VK) (E : XK),
      (A.deeper (envOfC qual (defScope st) s.heap.objs.size f cdv)).guards = some [] → Room k (A.deeper (envOfC qual (defScope st) s.heap.objs.size f cdv)) → sp vs H Q E →
      ∃ t, PSs (cxOf (L2N.CX P w) P w K mg base N qual (defScope st) f cdv A outer s H E) (defBody st) t ∧
        t { nx := fun _ H' => Q .non H', rt := Q } (start N vs) H) :
    FnG P w K mg base (L2N.CX P w) (k + 1) f fd ps sp :=
  fnG_of F S len fun cd A o s H vs Q E g hr q => body cd A o s H vs Q E g hr q
/-- a def that is called while an exception is handled -/
theorem fnH_of {CX : CXT} {k : Nat} {x qual : Str} {st : Stmt} {f : Addr} {fd : FuncData}
    {N ps : List Str} {sp : Sp} (F : Fun K x qual st f fd) (S : FnScope N ps (defScope st))
    (len : ∀ vs H Q E, sp vs H Q E → vs.length = ps.length)
    (body : ∀ (cdv : Value) (A : Around) (outer : List Env) (s : Shared) (H : Hp) (vs : List V) (Q : VK) (E : XK) (p : Addr × Obj),
      L2H.Hot1 A p → L2H.RoomH k (A.deeper (envOfC qual (defScope st) s.heap.objs.size f cdv)) → sp vs H Q E →
      ∃ t, PSs (L2H.cxH CX P w K mg base N qual (defScope st) f cdv A outer s H E p) (defBody st) t ∧
        t { nx := fun _ H' => Q .non H', rt := Q } (start N vs) H) :
    L2H.FnH P w K mg base CX (k + 1) f fd ps sp := by
  obtain ⟨oc, od, kV, doc, pm, an, cd, ct, sl, rfl, look, code⟩ := F.ex
  exact L2H.fn_ofH look code S len fun A o s H vs Q E p h1 h2 h3 => body cd A o s H vs Q E p h1 h2 h3
/-- a class and its __init__, where an exception is handled -/
def ToldH (P : Program) (w : World) (K : PySem.W.Frag) (mg : Str → Option Value) (base : Heap) (x : Str) (C : Addr) : Prop :=
  ∃ (fI : Addr) (fd : FuncData), ValC K mg x C fI fd ∧ L2H.FnH P w K mg base CX0 1 fI fd ["self", "value"] (sp_init C)
end
section
variable {X : Cx}
theorem upd3 {H1 : Hp} {a d : Addr} {o1 o2 o3 : HO} (ha : H1 a = none) (hda : d ≠ a) (z : HO) : upd (del (upd (upd (upd H1 a o1) d o2) a o3) a) d z = upd H1 d z := by
  funext b
  by_cases hb : b = d
  · rw [hb, upd_same, upd_same]
  · rw [upd_ne hb, upd_ne hb]
    by_cases h2 : b = a
    · rw [h2, del_same, ha]
    · rw [del_ne h2, upd_ne h2, upd_ne hb, upd_ne h2]
/-- X(v) in an except suite -/
theorem pmk5_value {C fI : Addr} {fd : FuncData} {k : Nat} {x : Str} {p pos : Pos} {e : Expr} {te : TE} (T : ValC X.K X.mg x C fI fd) (F1 : L2H.FnH X.prog X.w X.K X.mg X.base CX0 k fI fd ["self", "value"] (sp_init C)) (hr : L2H.RoomH (k + 1) X.A) (hot : L2H.HotC X) (hg : Gl X x) (he : PE X e te)
    (hdb : (x == ("__debug__" : Str)) = false := by decide) (hs : starEach [e] X.env = (false, eval e X.env) :: starEach [] X.env := by rfl) (hpl : (backTo pos (starEach [] X.env)).any (·.1) = false := by rfl) :
    L2H.PMk5 X (.Call (.Name x p) [e] [] pos) (fun σ H Q => te σ H fun v H1 => ∀ d, H1 d = none → Q (.ref C) (some d) (upd H1 d (.xd [("value", v)]))) := by
  intro pins s σ H Q I h
  refine L2H.pmk5_oexH T.o T.i T.t F1 hr hot T.b (fun _ _ _ _ _ _ _ z => z.elim) hg T.g (pa_cons (pe_mono he) pa_nil hs) hdb hs hpl pins s σ H Q I ?_
  refine ⟨_, h, fun v H1 q => ?_⟩
  refine ⟨by show 1 ≤ 1000; decide, fun a ha => ⟨a, v, rfl, upd_same, fun d hd nd => ⟨rfl, d, [("value", v)], upd_same, ?_, ?_, ?_⟩⟩⟩
  · rw [upd_ne nd, upd_same]
  · exact (upd_ne nd).symm.trans hd
  · rw [upd3 ha nd]
    exact q d ((upd_ne nd).symm.trans hd)
/-- try: for .. in ..: .., except X: a suite that raises -/
theorem ps_try_for {x : Str} {c : Value} {tg iter : Expr} {body suite : List Stmt} {b₀ : Stmt} {fpos np pos pos' : Pos} {wi : TI} {g : TG} {tb : WX → TS} {ts : Addr → Value → Option Addr → TS} {Wout : WX}
    (hs : X.stack = X.env :: X.outer) (hf : X.env.frame = some X.env.locals) (hc : Names X x c) (hpa : ∀ hd : Option Value, PassesOwnAt (model X.prog X.w) (X.A.mark hd) X.A X.env X.xe) (tk : L2.Takes X Wout) (calm : X.calm = true)
    (hi : ∀ (pn : List (Addr × Obj)) (xe : Value → Shared → Prop), PI (X.tr pn xe) tg iter wi) (hg : ∀ (pn : List (Addr × Obj)) (xe : Value → Shared → Prop), PG (X.tr pn xe) tg g)
    (hb : ∀ (W : WX) (pn : List (Addr × Obj)) (xe : Value → Shared → Prop), L2N.Takes (X.tr pn xe) W → PSs (X.tr pn xe) body (tb W))
    (hsu : ∀ (a : Addr) (oe : Obj) (cls : Value) (d : Option Addr) (pn : List (Addr × Obj)), L2N.Zn cls d oe → (∃ vs, oe.data = .fields vs) → L2.Takes (L2H.suiteX X a ((a, oe) :: pn)) Wout → L2H.HotC (L2H.suiteX X a ((a, oe) :: pn)) →
      PSs (L2H.suiteX X a ((a, oe) :: pn)) (b₀ :: suite) (ts a cls d))
    (hfold : ∀ x, foldedSetIterable iter X.env x = pure x := by intro _; rfl) :
    PS X (.Try [.For tg iter body [] fpos] [.ExceptHandler (some (.Name x np)) none (b₀ :: suite) pos'] [] [] pos) (fun D σ H => tForW wi g (tb (L2.wOnly X.K c ts Wout D)) D σ H) :=
  L2H.ps_try_onlyX (tb := fun W => tForW wi g (tb W)) hs hf hc hpa tk
    (fun W pn xe tk1 tk2 po => pss_one (ps_forW po calm (hi pn xe) (hg pn xe) (hb W pn xe tk1) hfold)) hsu
/-- X(v) where nothing is handled: it has no context -/
theorem pmkN_value {C fI : Addr} {fd : FuncData} {k : Nat} {x : Str} {p pos : Pos} {e : Expr} {te : TE} (T : ValC X.K X.mg x C fI fd) (F1 : FnOk X.prog X.w X.K X.mg X.base CX0 k fI fd ["self", "value"] (sp_init C)) (room : Room (k + 1) X.A) (hg : Gl X x) (he : PE X e te)
    (hdb : (x == ("__debug__" : Str)) = false := by decide) (hs : starEach [e] X.env = (false, eval e X.env) :: starEach [] X.env := by rfl) (hpl : (backTo pos (starEach [] X.env)).any (·.1) = false := by rfl) :
    L2N.PMk X (.Call (.Name x p) [e] [] pos) (fun σ H Q => te σ H fun v H1 => ∀ d, H1 d = none → Q (.ref C) (some d) (upd H1 d (.xd [("value", v)]))) := by
  intro pins s σ H Q I h
  obtain ⟨cn, cq, cN, cb, cm, csn, csub, cab, ccol, cdd, y0, y1, y2, y3, y5, at_C, of_cm⟩ := T.o.cls
  refine wpAny_Call_Name_kw (ld_glob I hg T.g ?_ hdb)
  refine PySem.W.callWith_K (h₀ := X.base) I.ok.mod.kin T.o.kC (thn ((pa_cons (pe_mono he) pa_nil hs).run pos pins s σ H (fun vs H1 => ∃ v, vs = [v] ∧ ∀ d, H1 d = none → Q (.ref C) (some d) (upd H1 d (.xd [("value", v)]))) I ⟨_, h, fun v H1 q => ⟨v, rfl, q⟩⟩) ?_) hs hpl
  rintro us s1 ⟨_, H1, I1, rel, v, rfl, wish⟩
  refine ⟨I1.kIn, ?_⟩
  show wpAny _ _ (call (.ref C) us) _ _ _
  obtain ⟨hp, gn, dr, tk, os⟩ := s1
  generalize hn : hp.objs.size = n at *
  have le1 : hp.objs.size ≤ n + 1 := by omega
  have free1 : H1 (n + 1) = none := I1.hok.fresh le1
  generalize hh2 : (hp.push (PySem.W.kdv_tup us)).push (PySem.HandSPX.excO C n) = hp2
  have stay2 : ∀ b o, hp.get? b = some o → hp2.get? b = some o := by
    intro b o z
    rw [← hh2]
    exact Heap.get?_push_of_some _ (Heap.get?_push_of_some _ z)
  have at2 : hp2.get? (n + 1) = some (PySem.HandSPX.excO C n) := by
    rw [← hh2, ← hn]
    heap_get
  have J : Inv X pins σ (upd H1 (n + 1) (exo (n + 1) C none)) ⟨hp2, gn, dr, tk, os⟩ :=
    I1.laid (t' := tk) stay2 le1 (exo_ok at2)
  have rel2 : Vals [V.ref (n + 1), v] (Value.ref (n + 1) :: us) := .cons rfl rel
  have two : (Value.ref (n + 1) :: us ++ []).length = 2 := by
    rw [List.append_nil]
    exact rel2.length.symm
  have few : us.length ≤ sizeLine := by
    rw [← Paired.length rel, sizeLine_eq]
    exact Nat.le_of_ble_eq_true rfl
  have init : sp_init C [V.ref (n + 1), v] (upd H1 (n + 1) (exo (n + 1) C none)) (fun u H2 => u = .non ∧ ∃ (d : Addr) (fs : List (Str × V)), H2 (n + 1) = some (exo (n + 1) C (some d)) ∧ H2 d = some (exd d fs) ∧ H1 d = none ∧ Q (.ref C) (some d) (upd (del H2 (n + 1)) d (.xd fs))) (fun _ _ _ => False) := by
    refine ⟨n + 1, v, rfl, upd_same, fun d hd nd => ⟨rfl, d, [("value", v)], upd_same, ?_, ?_, ?_⟩⟩
    · rw [upd_ne nd, upd_same]
    · exact (upd_ne nd).symm.trans hd
    · rw [upd3 free1 nd]
      exact wish d ((upd_ne nd).symm.trans hd)
  have bind := T.b _ (Value.ref (n + 1) :: us) J.kIn two
  rw [List.append_nil] at bind
  have body := F1.run (X.A.under (.builtin "type.__call__" ⟨.ref C :: us, []⟩)) X.stack ⟨hp2, gn, dr, tk, os⟩ _ ⟨Value.ref (n + 1) :: us, []⟩ (Value.ref (n + 1) :: us) _ _ (fun _ _ _ => False) (room.make C us []) (J.env0.make C us []) bind rel2 init
  rw [← hh2, ← hn] at body
  refine wpAny_call (PySem.HandSPX.call_own F.excBase_ValueError (fun Y => PySem.HandSPX.refsVE_contains Y cm of_cm) (I1.kIn _ _ at_C) (PySem.W.looks_findIn I1.kIn T.i) (fun me => PySem.W.bind_fn I1.kIn me T.t) few (codeAny_mono body ?_))
  rw [hn, hh2]
  intro res s2 out
  match res, out with
  | .error er, out => exact False.elim out
  | .ok .next, out => exact False.elim out
  | .ok .brk, out => exact False.elim out
  | .ok .cont, out => exact False.elim out
  | .ok (.ret u), out =>
    obtain ⟨v2, H2, os2, bare2, un2, hok2, rv, rfl, d, fs, ea, ed, hd1, q2⟩ := out
    obtain ⟨h2, g2, d2, t2, os3⟩ := s2
    obtain ⟨t0, G, J2, kG, ge, hoe, na⟩ := mk_end0 (d2 := d2) (t2 := t2) I1 le1 stay2 un2 hok2 os2 bare2 ea ed hd1
    refine ⟨rv, ⟨n + 1, _, _, ⟨G, g2, d2, t2, os3⟩, _, .ref C, some d, rfl, J2, kG, ge, hoe, ⟨rfl, rfl, fun vs hv => ?_⟩, rfl, rfl, na, rfl, bare2, raises_own T.o.exC T.o.tyC, q2⟩⟩
    cases hv
    rfl
end
end Cf

set_option Elab.async false
set_option linter.all false
set_option maxRecDepth 100000
set_option maxHeartbeats 2000000
/-! NU: behind a test against a written text a token is out. -/
namespace Cf
open PySem PySem.Spec PyProof.Rows L2
def PTK (X : Cx) (e : Expr) (t : TT) : Prop :=
  ∀ (pins : List (Addr × Obj)) (s : Shared) (σ : L2.St) (H : Hp) (Q : Bool → Hp → Prop), Inv X pins σ H s → t σ H Q → wpAny (model X.prog X.w) X.A (isTrue e X.env (eval e X.env)) (fun b s1 => 1 ≤ s1.toks ∧ TP X pins σ Q b s1) X.xe s
section
variable {X : Cx} {a c : Expr} {ta : TE} {tc : TT} {t u v : TS} {b1 b2 rest : List Stmt} {x : Str} {j : Nat} {p0 pos : Pos}
theorem ptk_cmp {op : CmpOp} {r : R2} (ho : OpR X (compareOp op) r) (ha : PE X a ta) (hm : behindInMarks op (.Constant (.str x) j p0) = false) : PTK X (.Compare a [op] [.Constant (.str x) j p0] pos) (tTest (tOp r ta (tC (.str x)))) := by
  intro pins s σ H Q I h
  refine wpAny_isTrue_Compare1 (thn (ha.run pins s σ H _ I h) fun v s1 ⟨z, H1, I1, r1, q1⟩ => Calls.Constant_str ?_) hm
  refine wpAny_mono (PySem.wpAny_toks (ho pins _ σ H1 z (.str x) v _ _ (I1.tok _) r1 ⟨_, rfl⟩ q1)) (fun c s3 q => ?_) fun _ _ z => z.2
  obtain ⟨hk, z, H3, I3, r3, k, e, q3⟩ := q
  subst e
  cases r3
  have hk : s1.toks + 1 ≤ s3.toks := hk
  exact wpAny_truthy_bool ⟨by omega, H3, I3, q3⟩
theorem pss_ifK (hc : PTK X c tc) (ha : PSs X b1 t) (hb : PSs X b2 u) (hr : PSsT X rest v) : PSs X (.If c b1 b2 pos :: rest) (tSeq (tIfS tc t u) v) := by
  refine ⟨fun pins s σ H D I h => ?_⟩
  refine wpAny_execs_cons ?_
  refine wpAny_If (wpAny_mono (hc pins s σ H _ I h) (fun d s1 q => ?_) fun _ _ z => z)
  obtain ⟨hk, H1, I1, q1⟩ := q
  have go : ∀ {f : Flow} {s2 : Shared}, s1.toks ≤ s2.toks → SP X pins { D with nx := v D } f s2 → match f with
      | .next => wpAny (model X.prog X.w) X.A (execs rest X.env) (SP X pins D) X.xe s2
      | f => SP X pins D f s2 := by
    intro f s2 hk2 q
    cases f with
    | next =>
      obtain ⟨σ', H', I', q⟩ := q
      exact hr pins s2 σ' H' D (by omega) I' q
    | ret v => exact q
    | brk => exact q
    | cont => exact q
  cases d with
  | true =>
    refine wpAny_mono (PySem.wpAny_toks (ha.run pins s1 σ H1 _ I1 q1)) (fun f s2 q => ?_) fun _ _ z => z.2
    have g := go q.1 q.2
    cases f <;> exact g
  | false =>
    refine wpAny_mono (PySem.wpAny_toks (hb.run pins s1 σ H1 _ I1 q1)) (fun f s2 q => ?_) fun _ _ z => z.2
    have g := go q.1 q.2
    cases f <;> exact g
end
end Cf

set_option Elab.async false
set_option linter.all false
set_option maxRecDepth 100000
set_option maxHeartbeats 4000000
namespace Cf
open PySem PySem.Spec PyProof.Rows L2
open LamX (TabB Tabs TabS)
def topS (i : Nat) : Stmt := PySem.Challenge.pw_creditfloor_k66_whole_links_that_were_re.main.body.getD i (.Pass ⟨0, 0, 0, 0⟩)
abbrev s_is_integer : Stmt := topS 6
theorem sc_is_integer : FnScope ["thing"] ["thing"] (defScope s_is_integer) :=
  ⟨rfl, rfl, rfl, by decide +kernel, rfl, by decide +kernel, by decide +kernel⟩
abbrev s_is_between : Stmt := topS 7
theorem sc_is_between : FnScope ["thing", "least", "most"] ["thing", "least", "most"] (defScope s_is_between) :=
  ⟨rfl, rfl, rfl, by decide +kernel, rfl, by decide +kernel, by decide +kernel⟩
abbrev s_is_amount : Stmt := topS 8
theorem sc_is_amount : FnScope ["thing"] ["thing"] (defScope s_is_amount) :=
  ⟨rfl, rfl, rfl, by decide +kernel, rfl, by decide +kernel, by decide +kernel⟩
abbrev s_is_budget : Stmt := topS 9
theorem sc_is_budget : FnScope ["thing"] ["thing"] (defScope s_is_budget) :=
  ⟨rfl, rfl, rfl, by decide +kernel, rfl, by decide +kernel, by decide +kernel⟩
abbrev s_is_name : Stmt := topS 10
theorem sc_is_name : FnScope ["thing", "letter"] ["thing"] (defScope s_is_name) :=
  ⟨rfl, rfl, rfl, by decide +kernel, rfl, by decide +kernel, by decide +kernel⟩
abbrev s_thresholds : Stmt := topS 26
theorem sc_thresholds : FnScope ["count", "budget", "found", "reached", "size", "share"] ["count", "budget"] (defScope s_thresholds) :=
  ⟨rfl, rfl, rfl, by decide +kernel, rfl, by decide +kernel, by decide +kernel⟩
abbrev s_sums : Stmt := topS 28
theorem sc_sums : FnScope ["balances", "found", "total", "balance"] ["balances"] (defScope s_sums) :=
  ⟨rfl, rfl, rfl, by decide +kernel, rfl, by decide +kernel, by decide +kernel⟩
abbrev s_gap : Stmt := topS 29
theorem sc_gap : FnScope ["balances", "budget", "needs", "at", "held"] ["balances", "budget"] (defScope s_gap) :=
  ⟨rfl, rfl, rfl, by decide +kernel, rfl, by decide +kernel, by decide +kernel⟩
abbrev s_poorest_first : Stmt := topS 31
theorem sc_poorest_first : FnScope ["balances", "senders", "at"] ["balances", "senders"] (defScope s_poorest_first) :=
  ⟨rfl, rfl, rfl, by decide +kernel, rfl, by decide +kernel, by decide +kernel⟩
abbrev s_weak_set : Stmt := topS 30
theorem sc_weak_set : FnScope ["balances", "budget", "found", "order"] ["balances", "budget"] (defScope s_weak_set) :=
  ⟨rfl, rfl, rfl, by decide +kernel, rfl, by decide +kernel, by decide +kernel⟩
abbrev s_least_beside : Stmt := topS 32
theorem sc_least_beside : FnScope ["others", "budget", "least", "held", "need", "have"] ["others", "budget"] (defScope s_least_beside) :=
  ⟨rfl, rfl, rfl, by decide +kernel, rfl, by decide +kernel, by decide +kernel⟩
abbrev s_require_amount : Stmt := topS 35
theorem sc_require_amount : FnScope ["amount"] ["amount"] (defScope s_require_amount) :=
  ⟨rfl, rfl, rfl, by decide +kernel, rfl, by decide +kernel, by decide +kernel⟩
abbrev s_require_budget : Stmt := topS 36
theorem sc_require_budget : FnScope ["budget"] ["budget"] (defScope s_require_budget) :=
  ⟨rfl, rfl, rfl, by decide +kernel, rfl, by decide +kernel, by decide +kernel⟩
abbrev s_weak_names : Stmt := topS 37
theorem sc_weak_names : FnScope ["budget", "balances", "names", "senders", "name", "at"] ["budget", "balances"] (defScope s_weak_names) :=
  ⟨rfl, rfl, rfl, by decide +kernel, rfl, by decide +kernel, by decide +kernel⟩
abbrev s_poorest_name : Stmt := topS 38
theorem sc_poorest_name : FnScope ["balances", "name"] ["balances"] (defScope s_poorest_name) :=
  ⟨rfl, rfl, rfl, by decide +kernel, rfl, by decide +kernel, by decide +kernel⟩
abbrev s_is_spend : Stmt := topS 40
theorem sc_is_spend : FnScope ["thing", "name", "amount"] ["thing"] (defScope s_is_spend) :=
  ⟨rfl, rfl, rfl, by decide +kernel, rfl, by decide +kernel, by decide +kernel⟩
abbrev s_is_spends : Stmt := topS 39
theorem sc_is_spends : FnScope ["thing", "names", "name", "amount", "low", "high", "part"] ["thing"] (defScope s_is_spends) :=
  ⟨rfl, rfl, rfl, by decide +kernel, rfl, by decide +kernel, by decide +kernel⟩
abbrev s_Link_require_known : Stmt := inClass (topS 34) 18
theorem sc_Link_require_known : FnScope ["self", "name"] ["self", "name"] (defScope s_Link_require_known) :=
  ⟨rfl, rfl, rfl, by decide +kernel, rfl, by decide +kernel, by decide +kernel⟩
abbrev s_Link_keep : Stmt := inClass (topS 34) 20
theorem sc_Link_keep : FnScope ["self", "budget", "balances"] ["self", "budget", "balances"] (defScope s_Link_keep) :=
  ⟨rfl, rfl, rfl, by decide +kernel, rfl, by decide +kernel, by decide +kernel⟩
abbrev s_Link_change : Stmt := inClass (topS 34) 19
theorem sc_Link_change : FnScope ["self", "budget", "balances", "names"] ["self", "budget", "balances"] (defScope s_Link_change) :=
  ⟨rfl, rfl, rfl, by decide +kernel, rfl, by decide +kernel, by decide +kernel⟩
abbrev s_Link___init__ : Stmt := inClass (topS 34) 0
theorem sc_Link___init__ : FnScope ["self", "budget"] ["self", "budget"] (defScope s_Link___init__) :=
  ⟨rfl, rfl, rfl, by decide +kernel, rfl, by decide +kernel, by decide +kernel⟩
abbrev s_Link___len__ : Stmt := inClass (topS 34) 2
theorem sc_Link___len__ : FnScope ["self"] ["self"] (defScope s_Link___len__) :=
  ⟨rfl, rfl, rfl, by decide +kernel, rfl, by decide +kernel, by decide +kernel⟩
abbrev s_Link_enter : Stmt := inClass (topS 34) 3
theorem sc_Link_enter : FnScope ["self", "name", "balance"] ["self", "name", "balance"] (defScope s_Link_enter) :=
  ⟨rfl, rfl, rfl, by decide +kernel, rfl, by decide +kernel, by decide +kernel⟩
abbrev s_Link_leave : Stmt := inClass (topS 34) 4
theorem sc_Link_leave : FnScope ["self", "name", "left", "other"] ["self", "name"] (defScope s_Link_leave) :=
  ⟨rfl, rfl, rfl, by decide +kernel, rfl, by decide +kernel, by decide +kernel⟩
abbrev s_Link_names : Stmt := inClass (topS 34) 5
theorem sc_Link_names : FnScope ["self"] ["self"] (defScope s_Link_names) :=
  ⟨rfl, rfl, rfl, by decide +kernel, rfl, by decide +kernel, by decide +kernel⟩
abbrev s_Link_balance_of : Stmt := inClass (topS 34) 6
theorem sc_Link_balance_of : FnScope ["self", "name"] ["self", "name"] (defScope s_Link_balance_of) :=
  ⟨rfl, rfl, rfl, by decide +kernel, rfl, by decide +kernel, by decide +kernel⟩
abbrev s_Link_total : Stmt := inClass (topS 34) 7
theorem sc_Link_total : FnScope ["self", "name"] ["self"] (defScope s_Link_total) :=
  ⟨rfl, rfl, rfl, by decide +kernel, rfl, by decide +kernel, by decide +kernel⟩
abbrev s_Link_current_budget : Stmt := inClass (topS 34) 8
theorem sc_Link_current_budget : FnScope ["self"] ["self"] (defScope s_Link_current_budget) :=
  ⟨rfl, rfl, rfl, by decide +kernel, rfl, by decide +kernel, by decide +kernel⟩
abbrev s_Link_deposit : Stmt := inClass (topS 34) 9
theorem sc_Link_deposit : FnScope ["self", "name", "amount"] ["self", "name", "amount"] (defScope s_Link_deposit) :=
  ⟨rfl, rfl, rfl, by decide +kernel, rfl, by decide +kernel, by decide +kernel⟩
abbrev s_Link_withdraw : Stmt := inClass (topS 34) 10
theorem sc_Link_withdraw : FnScope ["self", "name", "amount"] ["self", "name", "amount"] (defScope s_Link_withdraw) :=
  ⟨rfl, rfl, rfl, by decide +kernel, rfl, by decide +kernel, by decide +kernel⟩
abbrev s_Link_transfer : Stmt := inClass (topS 34) 11
theorem sc_Link_transfer : FnScope ["self", "giver", "taker", "amount", "after"] ["self", "giver", "taker", "amount"] (defScope s_Link_transfer) :=
  ⟨rfl, rfl, rfl, by decide +kernel, rfl, by decide +kernel, by decide +kernel⟩
abbrev s_Link_set_budget : Stmt := inClass (topS 34) 12
theorem sc_Link_set_budget : FnScope ["self", "budget"] ["self", "budget"] (defScope s_Link_set_budget) :=
  ⟨rfl, rfl, rfl, by decide +kernel, rfl, by decide +kernel, by decide +kernel⟩
abbrev s_Link_spare_of : Stmt := inClass (topS 34) 13
theorem sc_Link_spare_of : FnScope ["self", "name", "others", "other"] ["self", "name"] (defScope s_Link_spare_of) :=
  ⟨rfl, rfl, rfl, by decide +kernel, rfl, by decide +kernel, by decide +kernel⟩
abbrev s_Link_tick : Stmt := inClass (topS 34) 14
theorem sc_Link_tick : FnScope ["self", "spends", "name", "amount", "spent", "after", "granted"] ["self", "spends"] (defScope s_Link_tick) :=
  ⟨rfl, rfl, rfl, by decide +kernel, rfl, by decide +kernel, by decide +kernel⟩
abbrev s_Link_undo : Stmt := inClass (topS 34) 15
theorem sc_Link_undo : FnScope ["self"] ["self"] (defScope s_Link_undo) :=
  ⟨rfl, rfl, rfl, by decide +kernel, rfl, by decide +kernel, by decide +kernel⟩
abbrev s_Link_changes : Stmt := inClass (topS 34) 16
theorem sc_Link_changes : FnScope ["self"] ["self"] (defScope s_Link_changes) :=
  ⟨rfl, rfl, rfl, by decide +kernel, rfl, by decide +kernel, by decide +kernel⟩
abbrev s_Link_clone : Stmt := inClass (topS 34) 17
theorem sc_Link_clone : FnScope ["self", "twin"] ["self"] (defScope s_Link_clone) :=
  ⟨rfl, rfl, rfl, by decide +kernel, rfl, by decide +kernel, by decide +kernel⟩
abbrev s_Link___eq__ : Stmt := inClass (topS 34) 1
theorem sc_Link___eq__ : FnScope ["self", "other"] ["self", "other"] (defScope s_Link___eq__) :=
  ⟨rfl, rfl, rfl, by decide +kernel, rfl, by decide +kernel, by decide +kernel⟩
abbrev s_read_number : Stmt := topS 51
theorem sc_read_number : FnScope ["word", "least", "most", "number", "digit"] ["word", "least", "most"] (defScope s_read_number) :=
  ⟨rfl, rfl, rfl, by decide +kernel, rfl, by decide +kernel, by decide +kernel⟩
abbrev s_read_amount : Stmt := topS 49
theorem sc_read_amount : FnScope ["word"] ["word"] (defScope s_read_amount) :=
  ⟨rfl, rfl, rfl, by decide +kernel, rfl, by decide +kernel, by decide +kernel⟩
abbrev s_read_budget : Stmt := topS 50
theorem sc_read_budget : FnScope ["word"] ["word"] (defScope s_read_budget) :=
  ⟨rfl, rfl, rfl, by decide +kernel, rfl, by decide +kernel, by decide +kernel⟩
abbrev s_show_link : Stmt := topS 44
theorem sc_show_link : FnScope ["link", "rows", "name"] ["link"] (defScope s_show_link) :=
  ⟨rfl, rfl, rfl, by decide +kernel, rfl, by decide +kernel, by decide +kernel⟩
abbrev s_read_budget_row : Stmt := topS 47
theorem sc_read_budget_row : FnScope ["row", "words"] ["row"] (defScope s_read_budget_row) :=
  ⟨rfl, rfl, rfl, by decide +kernel, rfl, by decide +kernel, by decide +kernel⟩
abbrev s_read_sender_row : Stmt := topS 48
theorem sc_read_sender_row : FnScope ["row", "words", "balance"] ["row"] (defScope s_read_sender_row) :=
  ⟨rfl, rfl, rfl, by decide +kernel, rfl, by decide +kernel, by decide +kernel⟩
abbrev s_read_senders : Stmt := topS 46
theorem sc_read_senders : FnScope ["rows", "found", "before", "at", "row", "pair"] ["rows"] (defScope s_read_senders) :=
  ⟨rfl, rfl, rfl, by decide +kernel, rfl, by decide +kernel, by decide +kernel⟩
abbrev s_read_link : Stmt := topS 45
theorem sc_read_link : FnScope ["text", "rows", "budget", "senders", "link", "name", "balance"] ["text"] (defScope s_read_link) :=
  ⟨rfl, rfl, rfl, by decide +kernel, rfl, by decide +kernel, by decide +kernel⟩
abbrev s__law_take : Stmt := topS 54
theorem sc__law_take : FnScope ["_law_hand_here", "_law_many", "_law_digit", "_law_prime", "_law_drawn"] ["_law_hand_here", "_law_many"] (defScope s__law_take) :=
  ⟨rfl, rfl, rfl, by decide +kernel, rfl, by decide +kernel, by decide +kernel⟩
abbrev s__law_of : Stmt := topS 55
theorem sc__law_of : FnScope ["_law_hand_here", "_law_some"] ["_law_hand_here", "_law_some"] (defScope s__law_of) :=
  ⟨rfl, rfl, rfl, by decide +kernel, rfl, by decide +kernel, by decide +kernel⟩
abbrev s__law_hand : Stmt := topS 53
theorem sc__law_hand : FnScope ["_law_script", "_law_k", "_law_cell", "_law_great"] ["_law_script", "_law_k"] (defScope s__law_hand) :=
  ⟨rfl, rfl, rfl, by decide +kernel, rfl, by decide +kernel, by decide +kernel⟩
abbrev s__law_name : Stmt := topS 56
theorem sc__law_name : FnScope ["_law_hand_here"] ["_law_hand_here"] (defScope s__law_name) :=
  ⟨rfl, rfl, rfl, by decide +kernel, rfl, by decide +kernel, by decide +kernel⟩
abbrev s__law_amount : Stmt := topS 57
theorem sc__law_amount : FnScope ["_law_hand_here"] ["_law_hand_here"] (defScope s__law_amount) :=
  ⟨rfl, rfl, rfl, by decide +kernel, rfl, by decide +kernel, by decide +kernel⟩
abbrev s__law_spends : Stmt := topS 58
theorem sc__law_spends : FnScope ["_law_hand_here", "_law_budget", "_law_found", "_law_left", "_law_name_here", "_law_amount_here"] ["_law_hand_here", "_law_budget"] (defScope s__law_spends) :=
  ⟨rfl, rfl, rfl, by decide +kernel, rfl, by decide +kernel, by decide +kernel⟩
abbrev s__law_wish : Stmt := topS 59
theorem sc__law_wish : FnScope ["_law_hand_here", "_law_link", "_law_words", "_law_word", "_law_some", "_law_pair"] ["_law_hand_here", "_law_link"] (defScope s__law_wish) :=
  ⟨rfl, rfl, rfl, by decide +kernel, rfl, by decide +kernel, by decide +kernel⟩
abbrev s__law_link_text : Stmt := topS 62
theorem sc__law_link_text : FnScope ["_law_link", "_law_rows", "_law_name_here"] ["_law_link"] (defScope s__law_link_text) :=
  ⟨rfl, rfl, rfl, by decide +kernel, rfl, by decide +kernel, by decide +kernel⟩
abbrev s__law_asked : Stmt := topS 61
theorem sc__law_asked : FnScope ["_law_link", "_law_word", "_law_parts", "_law_name_here"] ["_law_link", "_law_word", "_law_parts"] (defScope s__law_asked) :=
  ⟨rfl, rfl, rfl, by decide +kernel, rfl, by decide +kernel, by decide +kernel⟩
abbrev s__law_done : Stmt := topS 60
theorem sc__law_done : FnScope ["_law_link", "_law_wish_here", "_law_word", "_law_parts"] ["_law_link", "_law_wish_here"] (defScope s__law_done) :=
  ⟨rfl, rfl, rfl, by decide +kernel, rfl, by decide +kernel, by decide +kernel⟩
abbrev s__law_error : Stmt := topS 63
theorem sc__law_error : FnScope ["_law_caught", "_law_sorts", "_law_word"] ["_law_caught"] (defScope s__law_error) :=
  ⟨rfl, rfl, rfl, by decide +kernel, rfl, by decide +kernel, by decide +kernel⟩
abbrev s__law_met : Stmt := topS 64
theorem sc__law_met : FnScope ["_law_ask", "_law_caught", "error"] ["_law_ask"] (defScope s__law_met) :=
  ⟨rfl, rfl, rfl, by decide +kernel, rfl, by decide +kernel, by decide +kernel⟩
abbrev s__law_history : Stmt := topS 65
theorem sc__law_history : FnScope ["_law_hand_here", "_law_budget", "_law_many", "_law_turn", "_law_link", "_law_wish_here"] ["_law_hand_here", "_law_budget", "_law_many"] (defScope s__law_history) :=
  ⟨rfl, rfl, rfl, by decide +kernel, rfl, by decide +kernel, by decide +kernel⟩
abbrev s__law_back_right : Stmt := topS 66
theorem sc__law_back_right : FnScope ["_law_link", "_law_read", "_law_texts", "_law_text"] ["_law_link", "_law_read", "_law_texts"] (defScope s__law_back_right) :=
  ⟨rfl, rfl, rfl, by decide +kernel, rfl, by decide +kernel, by decide +kernel⟩
abbrev s__law_right : Stmt := topS 67
theorem sc__law_right : FnScope ["_law_hand_here", "_law_texts", "_law_turn", "_law_ahead", "_law_many", "_law_told", "_law_link", "_law_read", "_law_wish_here"] ["_law_hand_here"] (defScope s__law_right) :=
  ⟨rfl, rfl, rfl, by decide +kernel, rfl, by decide +kernel, by decide +kernel⟩
abbrev s_law : Stmt := topS 68
theorem sc_law : FnScope ["_law_script", "_law_k"] ["_law_script"] (defScope s_law) :=
  ⟨rfl, rfl, rfl, by decide +kernel, rfl, by decide +kernel, by decide +kernel⟩
section
variable {P : Program} {w : World} {K : PySem.W.Frag} {mg : Str → Option Value} {base : Heap}
abbrev i_BadName : Stmt := inClass (topS 13) 0
theorem sci_BadName : FnScope ["self", "value"] ["self", "value"] (defScope i_BadName) := ⟨rfl, rfl, rfl, by decide +kernel, rfl, by decide +kernel, by decide +kernel⟩
theorem init_BadName {f C : Addr} {fd : FuncData} (F : Fun K "__init__" "BadName.__init__" i_BadName f fd) (T : OexC K C) (no : PySem.W.findIn K (.ref C) "value" = some none) : FnOk P w K mg base CX0 1 f fd ["self", "value"] (sp_init C) := by
  refine F.ok sci_BadName (fun vs H Q E h => ?_) (fun cdv A outer s H vs Q E hr h => ⟨_, pss_one (ps_ost (pv 0) (pv 1)), ?_⟩)
  · obtain ⟨a, v, rfl, _⟩ := h
    rfl
  · obtain ⟨a, v, rfl, ha, q⟩ := h
    refine ⟨_, rfl, _, rfl, a, C, rfl, T, no, .inl ⟨ha, fun d hd nd => q d hd nd⟩⟩
abbrev i_TakenName : Stmt := inClass (topS 14) 0
theorem sci_TakenName : FnScope ["self", "value"] ["self", "value"] (defScope i_TakenName) := ⟨rfl, rfl, rfl, by decide +kernel, rfl, by decide +kernel, by decide +kernel⟩
theorem init_TakenName {f C : Addr} {fd : FuncData} (F : Fun K "__init__" "TakenName.__init__" i_TakenName f fd) (T : OexC K C) (no : PySem.W.findIn K (.ref C) "value" = some none) : FnOk P w K mg base CX0 1 f fd ["self", "value"] (sp_init C) := by
  refine F.ok sci_TakenName (fun vs H Q E h => ?_) (fun cdv A outer s H vs Q E hr h => ⟨_, pss_one (ps_ost (pv 0) (pv 1)), ?_⟩)
  · obtain ⟨a, v, rfl, _⟩ := h
    rfl
  · obtain ⟨a, v, rfl, ha, q⟩ := h
    refine ⟨_, rfl, _, rfl, a, C, rfl, T, no, .inl ⟨ha, fun d hd nd => q d hd nd⟩⟩
abbrev i_UnknownName : Stmt := inClass (topS 15) 0
theorem sci_UnknownName : FnScope ["self", "value"] ["self", "value"] (defScope i_UnknownName) := ⟨rfl, rfl, rfl, by decide +kernel, rfl, by decide +kernel, by decide +kernel⟩
theorem init_UnknownName {f C : Addr} {fd : FuncData} (F : Fun K "__init__" "UnknownName.__init__" i_UnknownName f fd) (T : OexC K C) (no : PySem.W.findIn K (.ref C) "value" = some none) : FnOk P w K mg base CX0 1 f fd ["self", "value"] (sp_init C) := by
  refine F.ok sci_UnknownName (fun vs H Q E h => ?_) (fun cdv A outer s H vs Q E hr h => ⟨_, pss_one (ps_ost (pv 0) (pv 1)), ?_⟩)
  · obtain ⟨a, v, rfl, _⟩ := h
    rfl
  · obtain ⟨a, v, rfl, ha, q⟩ := h
    refine ⟨_, rfl, _, rfl, a, C, rfl, T, no, .inl ⟨ha, fun d hd nd => q d hd nd⟩⟩
abbrev i_BadAmount : Stmt := inClass (topS 16) 0
theorem sci_BadAmount : FnScope ["self", "value"] ["self", "value"] (defScope i_BadAmount) := ⟨rfl, rfl, rfl, by decide +kernel, rfl, by decide +kernel, by decide +kernel⟩
theorem init_BadAmount {f C : Addr} {fd : FuncData} (F : Fun K "__init__" "BadAmount.__init__" i_BadAmount f fd) (T : OexC K C) (no : PySem.W.findIn K (.ref C) "value" = some none) : FnOk P w K mg base CX0 1 f fd ["self", "value"] (sp_init C) := by
  refine F.ok sci_BadAmount (fun vs H Q E h => ?_) (fun cdv A outer s H vs Q E hr h => ⟨_, pss_one (ps_ost (pv 0) (pv 1)), ?_⟩)
  · obtain ⟨a, v, rfl, _⟩ := h
    rfl
  · obtain ⟨a, v, rfl, ha, q⟩ := h
    refine ⟨_, rfl, _, rfl, a, C, rfl, T, no, .inl ⟨ha, fun d hd nd => q d hd nd⟩⟩
abbrev i_BadBudget : Stmt := inClass (topS 17) 0
theorem sci_BadBudget : FnScope ["self", "value"] ["self", "value"] (defScope i_BadBudget) := ⟨rfl, rfl, rfl, by decide +kernel, rfl, by decide +kernel, by decide +kernel⟩
theorem init_BadBudget {f C : Addr} {fd : FuncData} (F : Fun K "__init__" "BadBudget.__init__" i_BadBudget f fd) (T : OexC K C) (no : PySem.W.findIn K (.ref C) "value" = some none) : FnOk P w K mg base CX0 1 f fd ["self", "value"] (sp_init C) := by
  refine F.ok sci_BadBudget (fun vs H Q E h => ?_) (fun cdv A outer s H vs Q E hr h => ⟨_, pss_one (ps_ost (pv 0) (pv 1)), ?_⟩)
  · obtain ⟨a, v, rfl, _⟩ := h
    rfl
  · obtain ⟨a, v, rfl, ha, q⟩ := h
    refine ⟨_, rfl, _, rfl, a, C, rfl, T, no, .inl ⟨ha, fun d hd nd => q d hd nd⟩⟩
abbrev i_BadSpends : Stmt := inClass (topS 18) 0
theorem sci_BadSpends : FnScope ["self", "value"] ["self", "value"] (defScope i_BadSpends) := ⟨rfl, rfl, rfl, by decide +kernel, rfl, by decide +kernel, by decide +kernel⟩
theorem init_BadSpends {f C : Addr} {fd : FuncData} (F : Fun K "__init__" "BadSpends.__init__" i_BadSpends f fd) (T : OexC K C) (no : PySem.W.findIn K (.ref C) "value" = some none) : FnOk P w K mg base CX0 1 f fd ["self", "value"] (sp_init C) := by
  refine F.ok sci_BadSpends (fun vs H Q E h => ?_) (fun cdv A outer s H vs Q E hr h => ⟨_, pss_one (ps_ost (pv 0) (pv 1)), ?_⟩)
  · obtain ⟨a, v, rfl, _⟩ := h
    rfl
  · obtain ⟨a, v, rfl, ha, q⟩ := h
    refine ⟨_, rfl, _, rfl, a, C, rfl, T, no, .inl ⟨ha, fun d hd nd => q d hd nd⟩⟩
abbrev i_OverBudget : Stmt := inClass (topS 19) 0
theorem sci_OverBudget : FnScope ["self", "value"] ["self", "value"] (defScope i_OverBudget) := ⟨rfl, rfl, rfl, by decide +kernel, rfl, by decide +kernel, by decide +kernel⟩
theorem init_OverBudget {f C : Addr} {fd : FuncData} (F : Fun K "__init__" "OverBudget.__init__" i_OverBudget f fd) (T : OexC K C) (no : PySem.W.findIn K (.ref C) "value" = some none) : FnOk P w K mg base CX0 1 f fd ["self", "value"] (sp_init C) := by
  refine F.ok sci_OverBudget (fun vs H Q E h => ?_) (fun cdv A outer s H vs Q E hr h => ⟨_, pss_one (ps_ost (pv 0) (pv 1)), ?_⟩)
  · obtain ⟨a, v, rfl, _⟩ := h
    rfl
  · obtain ⟨a, v, rfl, ha, q⟩ := h
    refine ⟨_, rfl, _, rfl, a, C, rfl, T, no, .inl ⟨ha, fun d hd nd => q d hd nd⟩⟩
abbrev i_Refused : Stmt := inClass (topS 20) 0
theorem sci_Refused : FnScope ["self", "value"] ["self", "value"] (defScope i_Refused) := ⟨rfl, rfl, rfl, by decide +kernel, rfl, by decide +kernel, by decide +kernel⟩
theorem init_Refused {f C : Addr} {fd : FuncData} (F : Fun K "__init__" "Refused.__init__" i_Refused f fd) (T : OexC K C) (no : PySem.W.findIn K (.ref C) "value" = some none) : FnOk P w K mg base CX0 1 f fd ["self", "value"] (sp_init C) := by
  refine F.ok sci_Refused (fun vs H Q E h => ?_) (fun cdv A outer s H vs Q E hr h => ⟨_, pss_one (ps_ost (pv 0) (pv 1)), ?_⟩)
  · obtain ⟨a, v, rfl, _⟩ := h
    rfl
  · obtain ⟨a, v, rfl, ha, q⟩ := h
    refine ⟨_, rfl, _, rfl, a, C, rfl, T, no, .inl ⟨ha, fun d hd nd => q d hd nd⟩⟩
abbrev i_BadText : Stmt := inClass (topS 21) 0
theorem sci_BadText : FnScope ["self", "value"] ["self", "value"] (defScope i_BadText) := ⟨rfl, rfl, rfl, by decide +kernel, rfl, by decide +kernel, by decide +kernel⟩
theorem init_BadText {f C : Addr} {fd : FuncData} (F : Fun K "__init__" "BadText.__init__" i_BadText f fd) (T : OexC K C) (no : PySem.W.findIn K (.ref C) "value" = some none) : FnOk P w K mg base CX0 1 f fd ["self", "value"] (sp_init C) := by
  refine F.ok sci_BadText (fun vs H Q E h => ?_) (fun cdv A outer s H vs Q E hr h => ⟨_, pss_one (ps_ost (pv 0) (pv 1)), ?_⟩)
  · obtain ⟨a, v, rfl, _⟩ := h
    rfl
  · obtain ⟨a, v, rfl, ha, q⟩ := h
    refine ⟨_, rfl, _, rfl, a, C, rfl, T, no, .inl ⟨ha, fun d hd nd => q d hd nd⟩⟩
theorem inith_BadText {f C : Addr} {fd : FuncData} (F : Fun K "__init__" "BadText.__init__" i_BadText f fd) (T : OexC K C) (no : PySem.W.findIn K (.ref C) "value" = some none) : L2H.FnH P w K mg base CX0 1 f fd ["self", "value"] (sp_init C) := by
  refine fnH_of F sci_BadText (fun vs H Q E h => ?_) (fun cdv A outer s H vs Q E p hot hr h => ⟨_, pss_one (ps_ost (pv 0) (pv 1)), ?_⟩)
  · obtain ⟨a, v, rfl, _⟩ := h
    rfl
  · obtain ⟨a, v, rfl, ha, q⟩ := h
    refine ⟨_, rfl, _, rfl, a, C, rfl, T, no, .inl ⟨ha, fun d hd nd => q d hd nd⟩⟩
/-! ### thresholds -/
def R (g : Int) : Nat → Int
  | 0 => 0
  | 1 => g
  | k + 2 => R g (k + 1) + g + (R g (k + 1) - 1) / ((k : Int) + 1)
def rows (g : Int) (n : Nat) : List Int := (List.range n).map fun i => R g (i + 1)
theorem rows_len (g : Int) (n : Nat) : (rows g n).length = n := by simp [rows]
theorem rows_succ (g : Int) (n : Nat) : rows g (n + 1) = rows g n ++ [R g (n + 1)] := by
  simp [rows, List.range_succ]
theorem R_succ (g : Int) (i : Nat) (h : 0 < i) : R g (i + 1) = R g i + g + (R g i - 1) / (i : Int) := by
  cases i with
  | zero => omega
  | succ k => rfl
theorem R_one (g : Int) : R g 1 = g := rfl
theorem R_zero (g : Int) : R g 0 = 0 := rfl
theorem rows_get (g : Int) (n i : Nat) (h : i < n) : (rows g n).getD i 0 = R g (i + 1) := by
  unfold rows
  rw [List.getD_eq_getElem?_getD, List.getElem?_map, List.getElem?_range h]
  rfl
theorem R_pos {g : Int} (hg : 1 ≤ g) : ∀ n : Nat, 1 ≤ R g (n + 1)
  | 0 => hg
  | n + 1 => by
    have ih := R_pos hg n
    have h2 : 0 ≤ (R g (n + 1) - 1) / ((n : Int) + 1) := Int.ediv_nonneg (by omega) (by omega)
    show 1 ≤ R g (n + 1) + g + (R g (n + 1) - 1) / ((n : Int) + 1)
    omega
/-- T = R (k + 1) - g is the least sum with T - T / (k + 1) at least R k -/
theorem R_exact {g : Int} (hg : 1 ≤ g) (k : Nat) : (R g (k + 2) - g) - (R g (k + 2) - g) / ((k : Int) + 2) = R g (k + 1) ∧ (R g (k + 2) - g - 1) - (R g (k + 2) - g - 1) / ((k : Int) + 2) = R g (k + 1) - 1 := by
  have hp := R_pos hg k
  have e : R g (k + 2) = R g (k + 1) + g + (R g (k + 1) - 1) / ((k : Int) + 1) := rfl
  have hn : (0 : Int) < (k : Int) + 1 := by omega
  have h1 := Int.emod_add_mul_ediv (R g (k + 1) - 1) ((k : Int) + 1)
  have h2 := Int.emod_lt_of_pos (R g (k + 1) - 1) hn
  have h3 := Int.emod_nonneg (R g (k + 1) - 1) (Int.ne_of_gt hn)
  generalize hq : (R g (k + 1) - 1) / ((k : Int) + 1) = q at *
  generalize hs : (R g (k + 1) - 1) % ((k : Int) + 1) = s at *
  have e1 : R g (k + 2) - g = (s + 1) + ((k : Int) + 2) * q := by
    rw [e, show (k : Int) + 2 = ((k : Int) + 1) + 1 by omega, Int.add_mul, Int.one_mul]
    omega
  have e2 : R g (k + 2) - g - 1 = s + ((k : Int) + 2) * q := by omega
  have d1 : (R g (k + 2) - g) / ((k : Int) + 2) = q := by
    rw [e1, Int.add_mul_ediv_left _ _ (by omega), Int.ediv_eq_zero_of_lt (by omega) (by omega)]
    omega
  have d2 : (R g (k + 2) - g - 1) / ((k : Int) + 2) = q := by
    rw [e2, Int.add_mul_ediv_left _ _ (by omega), Int.ediv_eq_zero_of_lt (by omega) (by omega)]
    omega
  rw [d1, d2]
  omega
/-- the steps never fall -/
theorem R_steps {g : Int} (hg : 1 ≤ g) (k : Nat) : R g (k + 1) - R g k ≤ R g (k + 2) - R g (k + 1) := by
  cases k with
  | zero =>
    have e : R g 2 = g + g + (g - 1) / ((0 : Nat) + 1 : Int) := rfl
    have e2 : (g - 1) / (((0 : Nat) : Int) + 1) = g - 1 := by simp
    rw [R_zero, R_one, e, e2]
    omega
  | succ k =>
    have hp := R_pos hg k
    have e : R g (k + 2) = R g (k + 1) + g + (R g (k + 1) - 1) / ((k : Int) + 1) := rfl
    have e' : R g (k + 3) = R g (k + 2) + g + (R g (k + 2) - 1) / (((k + 1 : Nat) : Int) + 1) := rfl
    have hn : (0 : Int) < (k : Int) + 1 := by omega
    have h : (R g (k + 1) - 1) / ((k : Int) + 1) ≤ (R g (k + 2) - 1) / (((k + 1 : Nat) : Int) + 1) := by
      rw [Int.le_ediv_iff_mul_le (by omega), e]
      have h1 := Int.emod_add_mul_ediv (R g (k + 1) - 1) ((k : Int) + 1)
      have h3 := Int.emod_nonneg (R g (k + 1) - 1) (Int.ne_of_gt hn)
      generalize (R g (k + 1) - 1) / ((k : Int) + 1) = q at *
      rw [show ((k + 1 : Nat) : Int) + 1 = ((k : Int) + 1) + 1 by omega, Int.mul_comm, Int.add_mul, Int.one_mul]
      omega
    show R g (k + 2) - R g (k + 1) ≤ R g (k + 3) - R g (k + 2)
    omega
theorem R_mono {g : Int} (hg : 1 ≤ g) : ∀ (i j : Nat), i ≤ j → R g (i + 1) - R g i ≤ R g (j + 1) - R g j
  | i, j, h => by
    induction j with
    | zero =>
      have : i = 0 := by omega
      subst this
      exact Int.le_refl _
    | succ j ih =>
      by_cases e : i = j + 1
      · subst e
        exact Int.le_refl _
      · exact Int.le_trans (ih (by omega)) (R_steps hg j)
theorem sorted_eq {a b : List Int} (p : a.Perm b) (ha : a.Pairwise (· ≤ ·)) (hb : b.Pairwise (· ≤ ·)) : a = b :=
  p.eq_of_pairwise (fun _ _ _ _ h1 h2 => Int.le_antisymm h1 h2) ha hb
/-! ### isint and between, of anything -/
def sp_is_integer (K : PySem.W.Frag) : Sp := fun vs H Q _ => ∃ v : V, vs = [v] ∧ Kn K H v ∧ Q (.bl (isI v)) H
theorem ok_is_integer {f : Addr} {fd : FuncData} {k : Nat} (F : Fun K "is_integer" "is_integer" s_is_integer f fd) (m_isinstance : mg "isinstance" = none) (m_int : mg "int" = none) (m_bool : mg "bool" = none) :
    FnG P w K mg base CX0 (k + 1) f fd ["thing"] (sp_is_integer K) := by
  refine ok0 F sc_is_integer (fun vs H Q E h => ?_) (fun cdv A outer s H vs Q E gd hr h => ?_)
  · obtain ⟨i, rfl, _⟩ := h
    rfl
  · obtain ⟨v, rfl, ⟨c, b1, b2, ty, k1, k2, e⟩, q⟩ := h
    refine ⟨_, (pss_one (ps_ret (pe_and (pe_callB (call_isiB (K := K) rfl) (by rfl) m_isinstance (by decide +kernel) (pa_cons (pv 0) (pa_cons (pe_bltn (v := .ty "int") (by rfl) m_int rfl rfl) pa_nil))) (pe_one (pe_not (pe_callB (call_isiB (K := K) rfl) (by rfl) m_isinstance (by decide +kernel) (pa_cons (pv 0) (pa_cons (pe_bltn (v := .ty "bool") (by rfl) m_bool rfl rfl) pa_nil)))))))), ?_⟩
    refine ⟨_, rfl, _, _, _, _, rfl, ty, k1, _, rfl, ?_⟩
    cases b1 with
    | false =>
      refine iteF ?_
      rw [← e] at q
      exact q
    | true =>
      refine iteT ?_
      refine ⟨_, rfl, _, _, _, _, rfl, ty, k2, _, rfl, ?_⟩
      rw [← e] at q
      exact q
def sp_is_between (K : PySem.W.Frag) : Sp := fun vs H Q _ => ∃ (v : V) (a b : Int), vs = [v, .int a, .int b] ∧ Kn K H v ∧ Q (.bl (btw v a b)) H
theorem ok_is_between {f : Addr} {fd : FuncData} {k : Nat} (F : Fun K "is_between" "is_between" s_is_between f fd)
    (C_is_integer : Cl P w K mg base CX0 1 "is_integer" 1 (sp_is_integer K)) :
    FnG P w K mg base CX0 (k + 2) f fd ["thing", "least", "most"] (sp_is_between K) := by
  refine ok0 F sc_is_between (fun vs H Q E h => ?_) (fun cdv A outer s H vs Q E gd hr h => ?_)
  · obtain ⟨v, a, b, rfl, _⟩ := h
    rfl
  · obtain ⟨v, a, b, rfl, kn, q⟩ := h
    refine ⟨_, (pss_one (ps_ret (pe_and (pe_cl C_is_integer (hr.mono (by omega)) gd pass0 (by rfl) (pa_cons (pv 0) pa_nil)) (pe_one (pe_chain op_le op_le (pv 1) (pv 0) (pv 2)))))), ?_⟩
    refine ⟨_, rfl, v, rfl, kn, _, rfl, ?_⟩
    cases v with
    | int i =>
      refine iteT ?_
      refine ⟨_, rfl, _, rfl, _, _, rfl, rfl, _, rfl, ite2 (fun e => ?_) (fun e => ?_)⟩
      · have e' := of_decide_eq_true e
        refine ⟨_, rfl, _, _, rfl, rfl, ?_⟩
        show Q (.bl (decide (i ≤ b))) H
        have : decide (i ≤ b) = decide (a ≤ i ∧ i ≤ b) := decide_eq_decide.mpr ⟨fun h => ⟨e', h⟩, fun h => h.2⟩
        rw [this]
        exact q
      · have : decide (a ≤ i ∧ i ≤ b) = false := decide_eq_false (fun h => e (decide_eq_true h.1))
        have q : Q (.bl (decide (a ≤ i ∧ i ≤ b))) H := q
        rw [this] at q
        exact q
    | _ => exact q
def qLam (x : Str) : Str := (x ++ ".<locals>.") ++ "<lambda>"
def sp_thresholds (K : PySem.W.Frag) : Sp := fun vs H Q _ => ∃ (n : Nat) (g : Int), vs = [.int (n : Int), .int g] ∧ n ≤ 1000 ∧
  ∀ p H', H p = none → Kp [] H H' → H' p = some (.tup ((rows g n).map V.int)) → Q (.ref p) H'
theorem ok_thresholds {f : Addr} {fd : FuncData} {k : Nat} (F : Fun K "thresholds" "thresholds" s_thresholds f fd) (m_range : mg "range" = none) (m_tuple : mg "tuple" = none) :
    FnG P w K mg base CX0 (k + 1) f fd ["count", "budget"] (sp_thresholds K) := by
  refine ok0 F sc_thresholds (fun vs H Q E h => ?_) (fun cdv A outer s H vs Q E gd hr h => ?_)
  · obtain ⟨n, g, rfl, _⟩ := h
    rfl
  · obtain ⟨n, g, rfl, hn, q⟩ := h
    refine ⟨_, (pss_cons (ps_set (i := 2) sc_thresholds.nd rfl (.inl rfl) (pe_li pa_nil))
      (pss_cons (ps_set (i := 3) sc_thresholds.nd rfl (.inl rfl) pe_int)
      (pss_cons (ps_forW PassesOwn.never rfl (pi_range1 (by rfl) m_range (pa_cons (pv 0) pa_nil)) (pg_name (i := 4) sc_thresholds.nd rfl (.inl rfl))
      (pss_cons (ps_set (i := 5) sc_thresholds.nd rfl (.inl rfl) (pe_ifI (pt_cmpR op_gt (pv 4) pe_int (nomark _)) (pe_op op_fdiv (pe_op op_sub (pv 3) pe_int) (pv 4)) pe_int))
      (pss_cons (ps_aug (i := 3) sc_thresholds.nd rfl (.inl rfl) (pe_op op_add (pv 1) (pv 5)) ip_add)
      (pss_one (ps_expr (pe_bm PySem.F.plainAttrs_list PySem.F.slot_list_append PySem.F.type_list_append mt_appI (pv 2) (pa_cons (pv 3) pa_nil)))))))
      (pss_one (ps_ret (pe_callTy (call_tupLK (K := K) rfl) (by rfl) m_tuple (by decide +kernel) (pa_cons (pv 2) pa_nil))))))), ?_⟩
    refine ⟨[], rfl, Nat.zero_le _, fun p H1 np k1 h1 => ?_⟩
    refine ⟨_, rfl, _, rfl, by omega, by omega, ?_⟩
    refine ⟨_, _, _, walk_range, fun i σ H2 => ∃ (r : Int) (ns : List Int) (y4 y5 : Option V), σ = [some (.int (n : Int)), some (.int g), some (.ref p), some (.int r), y4, y5] ∧ Kp [] H H2 ∧ IL H2 p ns ∧ r = R g i ∧ ns = rows g i, ⟨_, _, _, _, rfl, k1, h1, rfl, rfl⟩, fun _ _ _ _ _ => trivial, ?_, ?_⟩
    · rintro i x σ H2 _ hi ⟨r, ns, y4, y5, rfl, k2, h2, er, en⟩ ⟨rfl, rfl⟩
      have hl : ns.length < sizeLine := by rw [en, rows_len]; exact small1000 (by omega)
      refine ⟨fun v => r + (g + v) = R g (i + 1), ⟨_, rfl, _, _, rfl, rfl, _, rfl, ite2 (fun e => ?_) (fun e => ?_)⟩, fun v hv => ?_⟩
      · have e' := of_decide_eq_true e
        refine ⟨_, rfl, _, _, rfl, rfl, _, rfl, _, _, rfl, rfl, ⟨by omega, by omega⟩, _, rfl, rfl, ?_⟩
        show r + (g + (r - 1) / (0 + (i : Int))) = _
        rw [R_succ g i (by omega), er, Int.zero_add]
        omega
      · have e' : ¬ (0 : Int) < 0 + (i : Int) := fun z => e (decide_eq_true z)
        refine ⟨_, rfl, rfl, ?_⟩
        have : i = 0 := by omega
        subst this
        rw [er, R_one, R_zero]
        omega
      refine ⟨_, rfl, _, rfl, _, rfl, _, _, rfl, rfl, _, _, rfl, rfl, ?_⟩
      refine ⟨_, rfl, .inl ⟨rfl, _, sqL h2⟩, _, rfl, _, _, _, rfl, rfl, h2, hl, fun H3 m3 h3 => ?_⟩
      exact ⟨_, _, _, _, rfl, k2.md (.inl np) m3, h3, hv, by rw [rows_succ, en, ← hv]⟩
    · rintro σ H2 ⟨r, ns, y4, y5, rfl, k2, h2, er, en⟩
      refine ⟨_, rfl, _, _, rfl, sqL h2, fun t H3 nt k3 h3 => ?_⟩
      exact q t H3 (k2.free0 nt) (k2.trans k3) (en ▸ h3)
/-! ### the first size whose smallest balances fall below their threshold, by the law -/
def gapFrom (g : Int) : Nat → Int → List Int → Option Nat
  | _, _, [] => none
  | i, t, b :: r => if t + b < R g (i + 1) then some (i + 1) else gapFrom g (i + 1) (t + b) r
def srt (ns : List Int) : List Int := ns.mergeSort (fun a b => decide (a ≤ b))
theorem srt_perm (ns : List Int) : (srt ns).Perm ns := List.mergeSort_perm _ _
theorem srt_sorted (ns : List Int) : (srt ns).Pairwise (· ≤ ·) := by
  have h := List.pairwise_mergeSort (le := fun a b : Int => decide (a ≤ b)) (fun a b c h1 h2 => decide_eq_true (Int.le_trans (of_decide_eq_true h1) (of_decide_eq_true h2)))
    (fun a b => by rcases Int.le_total a b with z | z <;> simp [z]) ns
  exact h.imp fun {a b} z => of_decide_eq_true z
theorem srt_eq {ns ms : List Int} (p : ms.Perm ns) (s : ms.Pairwise (· ≤ ·)) : ms = srt ns := sorted_eq (p.trans (srt_perm ns).symm) s (srt_sorted ns)
theorem srt_len (ns : List Int) : (srt ns).length = ns.length := (srt_perm ns).length_eq
/-- the least k with S(k) < R(k), if there is one -/
def gapOf (g : Int) (ns : List Int) : Option Nat := gapFrom g 0 0 (srt ns)
theorem gap_step {g : Int} {ms : List Int} {i : Nat} {t : Int} (h : i < ms.length) :
    gapFrom g i t (ms.drop i) = if t + ms.getD i 0 < R g (i + 1) then some (i + 1) else gapFrom g (i + 1) (t + ms.getD i 0) (ms.drop (i + 1)) := by
  rw [List.drop_eq_getElem_cons h, List.getD_eq_getElem?_getD, List.getElem?_eq_getElem h]
  rfl
/-! ### sums of the k smallest -/
def SS (ns : List Int) (k : Nat) : Int := ((srt ns).take k).sum
theorem srt_congr {a b : List Int} (p : a.Perm b) : srt a = srt b := (srt_eq ((srt_perm a).trans p) (srt_sorted a))
theorem SS_congr {a b : List Int} (p : a.Perm b) (k : Nat) : SS a k = SS b k := by
  unfold SS
  rw [srt_congr p]
theorem gap_congr {g : Int} {a b : List Int} (p : a.Perm b) : gapOf g a = gapOf g b := by
  unfold gapOf
  rw [srt_congr p]
theorem take_sum_succ (ms : List Int) (k : Nat) (h : k < ms.length) : (ms.take (k + 1)).sum = (ms.take k).sum + ms.getD k 0 := by
  rw [List.take_add_one, List.getElem?_eq_getElem h, List.sum_append, List.getD_eq_getElem?_getD, List.getElem?_eq_getElem h]
  simp
theorem perm_sum {a b : List Int} (p : a.Perm b) : a.sum = b.sum := by
  induction p with
  | nil => rfl
  | cons x _ ih => rw [List.sum_cons, List.sum_cons, ih]
  | swap x y l =>
    simp only [List.sum_cons]
    omega
  | trans _ _ h1 h2 => exact h1.trans h2
/-- the k first of a sorted list sum to no more than any k of it -/
theorem sorted_min : ∀ (ms l l' : List Int), ms.Pairwise (· ≤ ·) → (l ++ l').Perm ms → (ms.take l.length).sum ≤ l.sum
  | [], l, l', _, p => by
    have h := p.length_eq
    have e : l = [] := by
      cases l with
      | nil => rfl
      | cons x r => simp at h
    subst e
    simp
  | x :: r, l, l', s, p => by
    have sr := (List.pairwise_cons.mp s).2
    have sx := (List.pairwise_cons.mp s).1
    by_cases hx : x ∈ l
    · have pl : l.Perm (x :: l.erase x) := List.perm_cons_erase hx
      have p2 : (x :: (l.erase x ++ l')).Perm (x :: r) := by
        have := (pl.append_right l').symm.trans p
        simpa using this
      have ih := sorted_min r (l.erase x) l' sr p2.cons_inv
      have hs : l.sum = x + (l.erase x).sum := by
        rw [perm_sum pl, List.sum_cons]
      have hl : l.length = (l.erase x).length + 1 := by
        rw [pl.length_eq]
        simp
      rw [hl, hs, List.take_succ_cons, List.sum_cons]
      omega
    · have hx2 : x ∈ l' := by
        have : x ∈ l ++ l' := p.mem_iff.mpr List.mem_cons_self
        rcases List.mem_append.mp this with z | z
        · exact absurd z hx
        · exact z
      have pl : l'.Perm (x :: l'.erase x) := List.perm_cons_erase hx2
      have p2 : (x :: (l ++ l'.erase x)).Perm (x :: r) := by
        have h1 : (l ++ l').Perm (l ++ x :: l'.erase x) := pl.append_left l
        have h2 : (l ++ x :: l'.erase x).Perm (x :: (l ++ l'.erase x)) := List.perm_middle
        exact (h1.trans h2).symm.trans p
      have p3 := p2.cons_inv
      have ih := sorted_min r l (l'.erase x) sr p3
      have hl := p3.length_eq
      rw [List.length_append] at hl
      cases e : l.length with
      | zero => 
        rw [e] at ih
        simpa using ih
      | succ k =>
        rw [e] at ih hl
        rw [List.take_succ_cons, List.sum_cons]
        rw [take_sum_succ r k (by omega)] at ih
        have hk : x ≤ r.getD k 0 := by
          rw [List.getD_eq_getElem?_getD, List.getElem?_eq_getElem (show k < r.length by omega)]
          exact sx _ (List.getElem_mem _)
        omega
theorem SS_min {ns l l' : List Int} (p : (l ++ l').Perm ns) : SS ns l.length ≤ l.sum :=
  sorted_min (srt ns) l l' (srt_sorted ns) (p.trans (srt_perm ns).symm)
theorem SS_is (ns : List Int) (k : Nat) (h : k ≤ ns.length) : ∃ l l' : List Int, (l ++ l').Perm ns ∧ l.length = k ∧ l.sum = SS ns k := by
  refine ⟨(srt ns).take k, (srt ns).drop k, ?_, ?_, rfl⟩
  · rw [List.take_append_drop]
    exact srt_perm ns
  · rw [List.length_take, srt_len]
    omega
/-- no gap: each sum of the k smallest reaches its threshold -/
theorem gapFrom_none {g : Int} : ∀ (ms : List Int) (i : Nat) (t : Int), gapFrom g i t ms = none ↔ ∀ k, k < ms.length → R g (i + k + 1) ≤ t + (ms.take (k + 1)).sum
  | [], i, t => by simp [gapFrom]
  | b :: r, i, t => by
    unfold gapFrom
    by_cases c : t + b < R g (i + 1)
    · rw [if_pos c]
      constructor
      · intro h
        cases h
      · intro h
        have := h 0 (by simp)
        simp at this
        omega
    · rw [if_neg c, gapFrom_none r (i + 1) (t + b)]
      constructor
      · intro h k hk
        cases k with
        | zero => simp; omega
        | succ k =>
          have := h k (by simpa using hk)
          rw [List.take_succ_cons, List.sum_cons, show i + (k + 1) + 1 = i + 1 + k + 1 by omega]
          omega
      · intro h k hk
        have := h (k + 1) (by simpa using hk)
        rw [List.take_succ_cons, List.sum_cons, show i + (k + 1) + 1 = i + 1 + k + 1 by omega] at this
        omega
theorem gap_none {g : Int} {ns : List Int} : gapOf g ns = none ↔ ∀ k, 1 ≤ k → k ≤ ns.length → R g k ≤ SS ns k := by
  unfold gapOf
  rw [gapFrom_none, srt_len]
  constructor
  · intro h k h1 h2
    have := h (k - 1) (by omega)
    rw [show 0 + (k - 1) + 1 = k by omega, show k - 1 + 1 = k by omega] at this
    unfold SS
    omega
  · intro h k hk
    have := h (k + 1) (by omega) (by omega)
    unfold SS at this
    rw [show 0 + k + 1 = k + 1 by omega]
    omega
/-- pointwise at most -/
inductive Pw : List Int → List Int → Prop
  | nil : Pw [] []
  | cons {x y : Int} {r t : List Int} : x ≤ y → Pw r t → Pw (x :: r) (y :: t)
theorem Pw.refl : ∀ l : List Int, Pw l l
  | [] => .nil
  | x :: r => .cons (Int.le_refl x) (Pw.refl r)
theorem Pw.length : ∀ {a b : List Int}, Pw a b → a.length = b.length
  | _, _, .nil => rfl
  | _, _, .cons _ h => by rw [List.length_cons, List.length_cons, h.length]
theorem Pw.split : ∀ {a : List Int} (l l' : List Int), Pw a (l ++ l') → ∃ m m', a = m ++ m' ∧ Pw m l ∧ Pw m' l'
  | a, [], l', h => ⟨[], a, rfl, .nil, h⟩
  | _, x :: l, l', .cons hx ht => by
    obtain ⟨m, m', e, h1, h2⟩ := Pw.split l l' ht
    exact ⟨_ :: m, m', by rw [e]; rfl, .cons hx h1, h2⟩
theorem Pw.sum : ∀ {a b : List Int}, Pw a b → a.sum ≤ b.sum
  | _, _, .nil => Int.le_refl _
  | _, _, .cons hx h => by
    rw [List.sum_cons, List.sum_cons]
    have := h.sum
    omega
/-! ### the sums of the k smallest, one by one -/
def psums : Int → List Int → List Int
  | _, [] => []
  | t, b :: r => (t + b) :: psums (t + b) r
theorem psums_len : ∀ (t : Int) (ms : List Int), (psums t ms).length = ms.length
  | _, [] => rfl
  | t, b :: r => by
    show (psums (t + b) r).length + 1 = r.length + 1
    rw [psums_len]
theorem psums_get : ∀ (t : Int) (ms : List Int) (i : Nat), i < ms.length → (psums t ms).getD i 0 = t + (ms.take (i + 1)).sum
  | _, [], _, h => absurd h (Nat.not_lt_zero _)
  | t, b :: r, 0, _ => by
    show t + b = t + (b + 0)
    omega
  | t, b :: r, i + 1, h => by
    show (psums (t + b) r).getD i 0 = t + (b + (r.take (i + 1)).sum)
    rw [psums_get (t + b) r i (by simpa using h)]
    omega
theorem psums_take : ∀ (t : Int) (ms : List Int) (i : Nat), i < ms.length → (psums t ms).take (i + 1) = (psums t ms).take i ++ [t + (ms.take (i + 1)).sum]
  | _, [], _, h => absurd h (Nat.not_lt_zero _)
  | t, b :: r, 0, _ => by
    show [t + b] = [t + (b + 0)]
    rw [Int.add_zero]
  | t, b :: r, i + 1, h => by
    show (t + b) :: (psums (t + b) r).take (i + 1) = (t + b) :: ((psums (t + b) r).take i ++ [t + (b + (r.take (i + 1)).sum)])
    rw [psums_take (t + b) r i (by simpa using h), Int.add_assoc]
def own (ns : List Int) : List Int := psums 0 (srt ns)
theorem own_get (ns : List Int) (k : Nat) (h1 : 1 ≤ k) (h2 : k ≤ ns.length) : (own ns).getD (k - 1) 0 = SS ns k := by
  unfold own SS
  rw [psums_get 0 (srt ns) (k - 1) (by rw [srt_len]; omega), show k - 1 + 1 = k by omega]
  omega
theorem gap_range {g : Int} {ns : List Int} {k : Nat} (h : gapOf g ns = some k) : 1 ≤ k ∧ k ≤ ns.length := by
  have : ∀ (ms : List Int) (i : Nat) (t : Int), gapFrom g i t ms = some k → i < k ∧ k ≤ i + ms.length := by
    intro ms
    induction ms with
    | nil =>
      intro i t h
      simp [gapFrom] at h
    | cons b r ih =>
      intro i t h
      unfold gapFrom at h
      by_cases c : t + b < R g (i + 1)
      · rw [if_pos c] at h
        cases h
        exact ⟨by omega, by rw [List.length_cons]; omega⟩
      · rw [if_neg c] at h
        have := ih (i + 1) (t + b) h
        rw [List.length_cons]
        omega
  have := this _ _ _ h
  rw [srt_len] at this
  omega
/-! ### what sums, gap and is_safe promise -/
def gapD (g : Int) (ns : List Int) : PyData := match gapOf g ns with
  | none => .none
  | some k => .tuple [.int (k : Int), .int (SS ns k), .int (R g k)]
def sp_sums (K : PySem.W.Frag) : Sp := fun vs H Q _ => ∃ (p : Addr) (ns : List Int), vs = [.ref p] ∧ (SqL K H p (ns.map V.int) ∨ SqT K H p (ns.map V.int)) ∧ ns.length ≤ 40 ∧
  ∀ q H', Kp [] H H' → SqT K H' q ((own ns).map V.int) → Q (.ref q) H'
def sp_gap (K : PySem.W.Frag) : Sp := fun vs H Q _ => ∃ (p : Addr) (ns : List Int) (g : Int), vs = [.ref p, .int g] ∧ SqT K H p (ns.map V.int) ∧ ns.length ≤ 40 ∧ ns.length ≤ 40 ∧ 1 ≤ g ∧
  ∀ r H', Kp [] H H' → Dp K H' r (gapD g ns) → Q r H'
theorem ok_sums {f : Addr} {fd : FuncData} {k : Nat} (F : Fun K "sums" "sums" s_sums f fd) (m_sorted : mg "sorted" = none) (m_tuple : mg "tuple" = none) :
    FnG P w K mg base CX0 (k + 1) f fd ["balances"] (sp_sums K) := by
  refine ok0 F sc_sums (fun vs H Q E h => ?_) (fun cdv A outer s H vs Q E gd hr h => ?_)
  · obtain ⟨p, ns, rfl, _⟩ := h
    rfl
  · obtain ⟨p, ns, rfl, hp, hn, q⟩ := h
    refine ⟨_, (pss_cons (ps_set (i := 1) sc_sums.nd rfl (.inl rfl) (pe_li pa_nil))
      (pss_cons (ps_set (i := 2) sc_sums.nd rfl (.inl rfl) pe_int)
      (pss_cons (ps_forW PassesOwn.never rfl (pi_list (pe_callB (cr_srtK (K := K) rfl) (by rfl) m_sorted (by decide +kernel) (pa_cons (pv 0) pa_nil))) (pg_name (i := 3) sc_sums.nd rfl (.inl rfl))
      (pss_cons (ps_aug (i := 2) sc_sums.nd rfl (.inl rfl) (pv 3) ip_add)
      (pss_one (ps_expr (pe_bm PySem.F.plainAttrs_list PySem.F.slot_list_append PySem.F.type_list_append mt_appI (pv 1) (pa_cons (pv 2) pa_nil))))))
      (pss_one (ps_ret (pe_callTy (call_tupLK (K := K) rfl) (by rfl) m_tuple (by decide +kernel) (pa_cons (pv 1) pa_nil))))))), ?_⟩
    refine ⟨[], rfl, Nat.zero_le _, fun f H1 nf k1 h1 => ?_⟩
    refine ⟨_, rfl, p, ns, rfl, hp.imp (fun z => k1.lst0 z) (fun z => k1.tup0 z), fun ms pm sm t H2 nt k2 h2 => ?_⟩
    have em := srt_eq pm sm
    have ml := pm.length_eq
    have h1 := k2.at0 h1
    have nft : f ≠ t := ne_of_none (show H1 f = _ from by assumption) nt
    refine ⟨t, rfl, ⟨_, sqL h2⟩, _, _, _, walk_li (ns := ms), fun i σ H3 => ∃ (fs : List Int) (tot : Int) (y3 : Option V), σ = [some (.ref p), some (.ref f), some (.int tot), y3] ∧ Kp [] H H3 ∧ IL H3 f fs ∧ IL H3 t ms ∧ fs = (psums 0 ms).take i ∧ tot = (ms.take i).sum,
      ⟨[], _, _, rfl, k1.trans k2, h1, h2, rfl, rfl⟩, fun i σ H3 _ ⟨_, _, _, _, _, _, a, _⟩ => sqL a, ?_, ?_⟩
    · rintro i x σ _ H3 hi ⟨fs, tot, y3, rfl, k3, hf, ht, ef, et⟩ ⟨rfl, rfl⟩
      have fl : fs.length = i := by
        rw [ef, List.length_take, psums_len]
        omega
      refine ⟨_, rfl, _, rfl, _, _, rfl, rfl, ?_⟩
      refine ⟨_, rfl, .inl ⟨rfl, _, sqL hf⟩, _, rfl, _, _, _, rfl, rfl, hf, small1000 (by omega), fun H4 m4 h4 => ?_⟩
      have e1 : tot + ms.getD i 0 = (ms.take (i + 1)).sum := by
        rw [take_sum_succ ms i hi, et]
      refine ⟨_, _, _, rfl, k3.md (.inl nf) m4, h4, (m4 t nft.symm).trans ht, ?_, e1⟩
      rw [psums_take 0 ms i hi, ef, Int.zero_add, ← e1]
    · rintro σ H3 ⟨fs, tot, y3, rfl, k3, hf, ht, ef, et⟩
      rw [List.take_of_length_le (by rw [psums_len]; exact Nat.le_refl _), em] at ef
      subst ef
      refine ⟨_, rfl, _, _, rfl, sqL hf, fun u H4 nu k4 h4 => ?_⟩
      exact q u H4 (k3.trans k4) (sqT h4)
theorem own_at (ns : List Int) (i : Nat) (h : i < ns.length) : (own ns).getD i 0 = ((srt ns).take (i + 1)).sum := by
  have := own_get ns (i + 1) (by omega) (by omega)
  rw [Nat.add_sub_cancel] at this
  exact this
theorem ok_gap {f : Addr} {fd : FuncData} {k : Nat} (F : Fun K "gap" "gap" s_gap f fd) (m_enumerate : mg "enumerate" = none) (m_len : mg "len" = none)
    (C_thresholds : Cl P w K mg base CX0 1 "thresholds" 2 (sp_thresholds K)) (C_sums : Cl P w K mg base CX0 1 "sums" 1 (sp_sums K)) :
    FnG P w K mg base CX0 (k + 2) f fd ["balances", "budget"] (sp_gap K) := by
  refine ok0 F sc_gap (fun vs H Q E h => ?_) (fun cdv A outer s H vs Q E gd hr h => ?_)
  · obtain ⟨p, ns, g, rfl, _⟩ := h
    rfl
  · obtain ⟨p, ns, g, rfl, hp, hn1, hn, hg, q⟩ := h
    refine ⟨_, (pss_cons (ps_set (i := 2) sc_gap.nd rfl (.inl rfl) (pe_cl C_thresholds (hr.mono (by omega)) gd pass0 (by rfl) (pa_cons (pe_callB (call_len_seqK (K := K) rfl) (by rfl) m_len (by decide +kernel) (pa_cons (pv 0) pa_nil)) (pa_cons (pv 1) pa_nil))))
      (pss_cons (ps_forW PassesOwn.never rfl (pi_et (by rfl) m_enumerate (pa_cons (pe_cl C_sums (hr.mono (by omega)) gd pass0 (by rfl) (pa_cons (pv 0) pa_nil)) pa_nil)) (pg_tup rfl (pgs_cons (pg_name (i := 3) sc_gap.nd rfl (.inl rfl)) (pgs_cons (pg_name (i := 4) sc_gap.nd rfl (.inl rfl)) pgs_nil)))
      (pss_one (ps_if (pt_cmpR op_lt (pv 4) (pe_ix (ix_tiK (K := K) rfl) (pv 2) (pv 3) (fun _ _ => rfl)) (nomark _))
      (pss_one (ps_ret (pe_ti (pa_cons (pe_op op_add (pv 3) pe_int) (pa_cons (pv 4) (pa_cons (pe_ix (ix_tiK (K := K) rfl) (pv 2) (pv 3) (fun _ _ => rfl)) pa_nil))))))
      pss_nil)))
      (pss_one (ps_ret pe_non)))), ?_⟩
    refine ⟨_, rfl, p, _, rfl, .inr hp, _, rfl, ns.length, g, ?_, by omega, fun r H1 nr k1 hr1 => ?_⟩
    · rw [List.length_map]
      rfl
    refine ⟨_, rfl, p, ns, rfl, .inr (k1.tup0 hp), hn, fun t H2 k2 h2 => ?_⟩
    have ol : (own ns).length = ns.length := by
      unfold own
      rw [psums_len, srt_len]
    refine ⟨t, _, rfl, h2, _, _, _, walk_et (ns := own ns), fun i σ H3 => ∃ y3 y4, σ = [some (.ref p), some (.int g), some (.ref r), y3, y4] ∧ Kp [] H H3 ∧ SqT K H3 r ((rows g ns.length).map V.int) ∧ SqT K H3 t ((own ns).map V.int) ∧ gapOf g ns = gapFrom g i ((srt ns).take i).sum ((srt ns).drop i),
      ⟨_, _, rfl, k1.trans k2, k2.tup0 (sqT hr1), h2, rfl⟩, fun i σ H3 _ ⟨_, _, _, _, _, z, _⟩ => z, ?_, ?_⟩
    · rintro i x σ H3 H4 hi ⟨y3, y4, rfl, k3, hr3, ht3, eg⟩ ⟨T, rfl, nT, kT, hT⟩
      have hi2 : i < ns.length := by omega
      have hi3 : i < (srt ns).length := by rw [srt_len]; exact hi2
      rw [gap_step hi3, ← take_sum_succ (srt ns) i hi3, ← own_at ns i hi2] at eg
      have hr4 := kT.tup0 hr3
      refine ⟨T, _, rfl, sqT hT, rfl, _, _, rfl, _, _, rfl, rfl, ?_⟩
      have er : (rows g ns.length).getD (i : Int).toNat 0 = R g (i + 1) := by
        rw [show (i : Int).toNat = i by omega, rows_get g ns.length i hi2]
      refine ⟨_, rfl, _, rfl, _, rfl, r, rows g ns.length, _, rfl, rfl, hr4, ⟨by omega, by rw [rows_len]; omega⟩, _, _, rfl, rfl, _, rfl, ite2 (fun e => ?_) (fun e => ?_)⟩
      · have e' := of_decide_eq_true e
        rw [er] at e'
        rw [if_pos e'] at eg
        refine ⟨_, rfl, _, _, rfl, rfl, _, rfl, _, rfl, _, rfl, r, rows g ns.length, _, rfl, rfl, hr4, ⟨by omega, by rw [rows_len]; omega⟩, [_, _, _], rfl, Nat.le_of_ble_eq_true rfl, fun u H5 nu k5 h5 => ?_⟩
        refine q _ H5 ((k3.trans kT).trans k5) ?_
        unfold gapD
        rw [eg]
        rw [er, own_at ns i hi2] at h5
        exact dp_ti (ns := [((i + 1 : Nat) : Int), SS ns (i + 1), R g (i + 1)]) (sqT h5)
      · have e' : ¬ (own ns).getD i 0 < R g (i + 1) := fun z => e (decide_eq_true (by rw [er]; exact z))
        rw [if_neg e', own_at ns i hi2] at eg
        exact ⟨_, _, rfl, k3.trans kT, hr4, kT.tup0 ht3, eg⟩
    · rintro σ H3 ⟨y3, y4, rfl, k3, hr3, ht3, eg⟩
      rw [List.drop_eq_nil_of_le (by rw [srt_len, ol]; exact Nat.le_refl _)] at eg
      refine q _ H3 k3 ?_
      unfold gapD
      rw [eg]
      exact .non
/-! ### the first weak set -/
def byBal (ns : List Int) (i : Int) : Int × Int := (ns.getD i.toNat 0, i)
/-- the k first senders in ascending order of (balance, index), ascending -/
def IsWeak (ns : List Int) (k : Nat) (W : List Int) : Prop := W.Pairwise (· < ·) ∧ ∃ ms : List Int, ms.Perm (upto ns.length) ∧ ms.Pairwise (KLe (byBal ns)) ∧ W.Perm (ms.take k)
def sp_poorest_first (K : PySem.W.Frag) (T : List (Addr × Str)) : Sp := fun vs H Q _ => ∃ (p q : Addr) (ns ix : List Int), vs = [.ref p, .ref q] ∧ SqT K H p (ns.map V.int) ∧ SqL K H q (ix.map V.int) ∧ ix.length ≤ 1000 ∧ (∀ i ∈ ix, 0 ≤ i ∧ i < (ns.length : Int)) ∧ Tabs T H ∧
  ∀ l H' (ms : List Int), Kt T H H' → Nt H l → H' l = some (.lst (ms.map V.int)) → ms.Perm ix → ms.Pairwise (KLe (byBal ns)) → Q (.ref l) H'
def sp_weak_set (K : PySem.W.Frag) (T : List (Addr × Str)) : Sp := fun vs H Q _ => ∃ (p : Addr) (ns : List Int) (g : Int), vs = [.ref p, .int g] ∧ SqT K H p (ns.map V.int) ∧ ns.length ≤ 40 ∧ ns.length ≤ 40 ∧ 1 ≤ g ∧ Tabs T H ∧
  (gapOf g ns = none → ∀ H', Kp [] H H' → Q .non H') ∧ ∀ k, gapOf g ns = some k → ∀ t H' (W : List Int), Kt T H H' → SqT K H' t (W.map V.int) → IsWeak ns k W → Q (.ref t) H'
theorem ok_poorest_first {f c pt : Addr} {fd : FuncData} {k : Nat} {T : List (Addr × Str)} (F : Fun K "poorest_first" "poorest_first" s_poorest_first f fd) (hcd : fd.code = .ref c) (TB : TabB base mg c pt) (hmT : (pt, qLam "poorest_first") ∈ T) (huT : ∀ r ∈ T, r.1 = pt → r.2 = qLam "poorest_first") (m_sorted : mg "sorted" = none) :
    FnG P w K mg base CX0 (k + 4) f fd ["balances", "senders"] (sp_poorest_first K T) := by
  refine okC F hcd sc_poorest_first (fun vs H Q E h => ?_) (fun A outer s H vs Q E gd hr h => ?_)
  · obtain ⟨p, q, ns, ix, rfl, _⟩ := h
    rfl
  · obtain ⟨p, q, ns, ix, rfl, hp, hq, hl, hb, hT, w⟩ := h
    refine ⟨_, (pss_one (ps_ret (pe_sortK (K := K) (T := T) (k := 0) (i := 2) rfl rfl TB rfl hmT huT (hr.mono (by omega)) (lam1_by (sc := defScope s_poorest_first) (by decide +kernel)) sc_poorest_first.nd rfl rfl (fun _ _ _ _ _ _ => rfl) (fun _ _ _ _ => (pe_ti (pa_cons (pe_ix (ix_tiK (K := K) rfl) (pv 0) (pv 2) (fun _ _ => rfl)) (pa_cons (pv 2) pa_nil)))) (by rfl) m_sorted (pa_cons (pv 1) pa_nil)))), ?_⟩
    refine ⟨_, rfl, q, ix, byBal ns, rfl, hq, hl, hT, fun H2 k2 => ⟨fun n hn H' k' => ?_, fun ms pm sm l H3 nl k3 h3 => ?_⟩⟩
    · have hn2 := hb n hn
      refine ⟨_, rfl, _, rfl, p, ns, n, rfl, rfl, k'.tup0 (k2.tup0 hp), hn2, _, rfl, [_, _], rfl, Nat.le_of_ble_eq_true rfl, fun U H4 nU k4 h4 => ?_⟩
      exact ⟨k4, U, rfl, h4⟩
    · exact w l H3 ms (k2.kp k3) (k2.nt0 nl) h3 pm sm
theorem upto_nodup (n : Nat) : (upto n).Pairwise (· < ·) := by
  unfold upto
  rw [List.pairwise_map]
  refine List.Pairwise.imp ?_ (List.pairwise_lt_range (n := n))
  intro a b h
  omega
theorem upto_mem {n : Nat} {i : Int} : i ∈ upto n ↔ 0 ≤ i ∧ i < (n : Int) := by
  unfold upto
  rw [List.mem_map]
  constructor
  · rintro ⟨a, ha, rfl⟩
    have := List.mem_range.mp ha
    omega
  · rintro ⟨h1, h2⟩
    exact ⟨i.toNat, List.mem_range.mpr (by omega), by omega⟩
theorem perm_lt {a b : List Int} (p : a.Perm b) (hb : b.Pairwise (· ≠ ·)) (ha : a.Pairwise (· ≤ ·)) : a.Pairwise (· < ·) := by
  have hn : a.Pairwise (· ≠ ·) := (p.pairwise_iff (fun h => Ne.symm h)).mpr hb
  exact (ha.and hn).imp fun {x y} h => by omega
theorem ok_weak_set {f : Addr} {fd : FuncData} {k : Nat} {T : List (Addr × Str)} (F : Fun K "weak_set" "weak_set" s_weak_set f fd) (m_list : mg "list" = none) (m_range : mg "range" = none) (m_len : mg "len" = none) (m_tuple : mg "tuple" = none) (m_sorted : mg "sorted" = none)
    (C_gap : Cl P w K mg base CX0 2 "gap" 2 (sp_gap K)) (C_poorest_first : Cl P w K mg base CX0 4 "poorest_first" 2 (sp_poorest_first K T)) :
    FnG P w K mg base CX0 (k + 5) f fd ["balances", "budget"] (sp_weak_set K T) := by
  refine ok0 F sc_weak_set (fun vs H Q E h => ?_) (fun cdv A outer s H vs Q E gd hr h => ?_)
  · obtain ⟨p, ns, g, rfl, _⟩ := h
    rfl
  · obtain ⟨p, ns, g, rfl, hp, hl1, hl, hg, hT, w0, w1⟩ := h
    refine ⟨_, (pss_cons (ps_set (i := 2) sc_weak_set.nd rfl (.inl rfl) (pe_cl C_gap (hr.mono (by omega)) gd pass0 (by rfl) (pa_cons (pv 0) (pa_cons (pv 1) pa_nil))))
      (pss_cons (ps_if (pt_cmpR op_isN (pv 2) pe_non (nomark _))
      (pss_one (ps_ret pe_non))
      pss_nil)
      (pss_cons (ps_set (i := 3) sc_weak_set.nd rfl (.inl rfl) (pe_cl C_poorest_first (hr.mono (by omega)) gd pass0 (by rfl) (pa_cons (pv 0) (pa_cons (pe_listUp rfl (by rfl) m_list (by rfl) m_range (pe_callB (call_len_seqK (K := K) rfl) (by rfl) m_len (by decide +kernel) (pa_cons (pv 0) pa_nil))) pa_nil))))
      (pss_one (ps_ret (pe_callTy (call_tupLK (K := K) rfl) (by rfl) m_tuple (by decide +kernel) (pa_cons (pe_callB (cr_srtLK (K := K) rfl) (by rfl) m_sorted (by decide +kernel) (pa_cons (pe_slice (sl_liToK (K := K) rfl) (pv 3) po_none (po_some (pe_ix (ix_tiK (K := K) rfl) (pv 2) pe_int (fun _ _ => rfl)))) pa_nil)) pa_nil))))))), ?_⟩
    refine ⟨_, rfl, _, rfl, p, ns, g, rfl, hp, hl1, hl, hg, fun r H1 k1 hd => ?_⟩
    have hp1 := k1.tup0 hp
    unfold gapD at hd
    cases eg : gapOf g ns with
    | none =>
      rw [eg] at hd
      cases hd
      refine ⟨_, rfl, rfl, _, rfl, ?_⟩
      refine (show if decide (V.non = V.non) = true then _ else _ from ifYes rfl ?_)
      exact w0 eg H1 k1
    | some kk =>
      have hk := gap_range eg
      rw [eg] at hd
      obtain ⟨t, rfl, ht⟩ : ∃ t, r = .ref t ∧ SqT K H1 t (([(kk : Int), SS ns kk, R g kk] : List Int).map V.int) := by
        cases hd with
        | tup sq al =>
          cases al with
          | cons x1 al =>
            cases x1
            cases al with
            | cons x2 al =>
              cases x2
              cases al with
              | cons x3 al =>
                cases x3
                cases al
                exact ⟨_, rfl, sq⟩
      refine ⟨_, rfl, rfl, _, rfl, ?_⟩
      refine (show if decide (V.ref t = V.non) = true then _ else _ from ifNo (fun z => nomatch z) ?_)
      refine ⟨_, rfl, _, rfl, p, _, rfl, .inr hp1, ns.length, ?_, by omega, fun u H2 nu k2 h2 => ?_⟩
      · rw [List.length_map]
      have kk2 := k1.trans k2
      refine ⟨p, u, ns, upto ns.length, rfl, kk2.tup0 hp, sqL h2, by rw [upto_len]; omega, fun i hi => upto_mem.mp hi, hT.ext fun b o e => kk2.at0 e, fun l H3 ms k3 nl h3 pm sm => ?_⟩
      have ht3 := k3.tup0 (k2.tup0 ht)
      refine ⟨_, rfl, _, rfl, t, [(kk : Int), SS ns kk, R g kk], _, rfl, rfl, ht3, ⟨by decide, show (0 : Int) < ((3 : Nat) : Int) by decide⟩, _, rfl, l, ms, _, rfl, rfl, rfl, sqL h3, show (0 : Int) ≤ (kk : Int) by omega, fun s4 H4 n4 k4 h4 => ?_⟩
      have h4 : H4 s4 = some (.lst ((ms.take ((kk : Int)).toNat).map V.int)) := h4
      rw [show ((kk : Int)).toNat = kk by omega] at h4
      refine ⟨s4, ms.take kk, rfl, sqL h4, fun W pW sW s5 H5 n5 k5 h5 => ?_⟩
      refine ⟨s5, _, rfl, sqL h5, fun s6 H6 n6 k6 h6 => ?_⟩
      have kt : Kt T H H6 := ((kk2.kt (T := T)).trans k3).kp ((k4.trans k5).trans k6)
      refine w1 kk eg s6 H6 W kt (sqT h6) ⟨perm_lt pW ?_ sW, ms, pm, sm, pW⟩
      have hnd : ms.Pairwise (· ≠ ·) := (pm.pairwise_iff (fun h => Ne.symm h)).mpr ((upto_nodup ns.length).imp fun {a b} h => by omega)
      exact hnd.sublist (List.take_sublist _ _)
/-! ### balances after a demand and a grant, by the law -/
def subL : List Int → List Int → List Int
  | x :: r, y :: t => (x - y) :: subL r t
  | _, _ => []
theorem subL_len : ∀ (a b : List Int), (subL a b).length = min a.length b.length
  | [], _ => by simp [subL]
  | _ :: _, [] => by simp [subL]
  | x :: r, y :: t => by
    show (subL r t).length + 1 = _
    rw [subL_len r t, List.length_cons, List.length_cons]
    omega
/-! ### best_grant, good_grants -/
def FirstMin (ns : List Int) (j : Nat) : Prop := j < ns.length ∧ (∀ x ∈ ns, ns.getD j 0 ≤ x) ∧ ∀ i, i < j → ns.getD i 0 ≠ ns.getD j 0
def granted (ns : List Int) (i : Nat) (g : Int) : List Int := ns.set i (ns.getD i 0 + g)
theorem first_min {ns : List Int} (hl1 : 1 ≤ ns.length) : ∃ j, FirstMin ns j := by
  have hne : srt ns ≠ [] := fun z => by
    have := srt_len ns
    rw [z] at this
    simp at this
    omega
  obtain ⟨m0, r0, e0⟩ : ∃ m r, srt ns = m :: r := by
    cases e : srt ns with
    | nil => exact absurd e hne
    | cons m r => exact ⟨m, r, rfl⟩
  have hmem : m0 ∈ ns := (srt_perm ns).mem_iff.mp (by rw [e0]; exact List.mem_cons_self)
  have hmin : ∀ x ∈ ns, m0 ≤ x := by
    intro x hx
    have hx2 := (srt_perm ns).mem_iff.mpr hx
    have hs := srt_sorted ns
    rw [e0] at hx2 hs
    rcases List.mem_cons.mp hx2 with z | z
    · omega
    · exact (List.pairwise_cons.mp hs).1 x z
  obtain ⟨j, a1, a2, a3⟩ := first_at ns m0 hmem
  exact ⟨j, a1, by rw [a2]; exact hmin, by rw [a2]; exact a3⟩
/-! ### what a grant to a smallest balance does -/
theorem perm_split {l l' m : List Int} {x : Int} (p : (l ++ l').Perm (x :: m)) : (∃ l0, l.Perm (x :: l0) ∧ (l0 ++ l').Perm m) ∨ (∃ l0, l'.Perm (x :: l0) ∧ (l ++ l0).Perm m) := by
  have hx : x ∈ l ++ l' := p.mem_iff.mpr List.mem_cons_self
  rcases List.mem_append.mp hx with h | h
  · refine .inl ⟨l.erase x, List.perm_cons_erase h, ?_⟩
    have h1 : (l ++ l').Perm (x :: (l.erase x ++ l')) := (List.perm_cons_erase h).append_right l'
    exact (h1.symm.trans p).cons_inv
  · refine .inr ⟨l'.erase x, List.perm_cons_erase h, ?_⟩
    have h1 : (l ++ l').Perm (l ++ x :: l'.erase x) := (List.perm_cons_erase h).append_left l
    exact ((h1.trans List.perm_middle).symm.trans p).cons_inv
theorem idx_perm : ∀ (ns : List Int) (i : Nat), i < ns.length → ns.Perm (ns.getD i 0 :: ns.eraseIdx i)
  | [], _, h => absurd h (Nat.not_lt_zero _)
  | x :: r, 0, _ => .refl _
  | x :: r, i + 1, h => by
    show (x :: r).Perm (r.getD i 0 :: x :: r.eraseIdx i)
    exact ((idx_perm r i (by simpa using h)).cons x).trans (.swap _ _ _)
theorem set_perm : ∀ (ns : List Int) (i : Nat) (v : Int), i < ns.length → (ns.set i v).Perm (v :: ns.eraseIdx i)
  | [], _, _, h => absurd h (Nat.not_lt_zero _)
  | x :: r, 0, _, _ => .refl _
  | x :: r, i + 1, v, h => by
    show (x :: r.set i v).Perm (v :: x :: r.eraseIdx i)
    exact ((set_perm r i v (by simpa using h)).cons x).trans (.swap _ _ _)
theorem granted_len (ns : List Int) (i : Nat) (g : Int) : (granted ns i g).length = ns.length := by
  unfold granted
  rw [List.length_set]
/-- a demand lowers each S(k) by no more than its sum -/
theorem subL_sum : ∀ (a b : List Int), a.length = b.length → (subL a b).sum = a.sum - b.sum
  | [], [], _ => rfl
  | x :: r, y :: t, h => by
    show x - y + (subL r t).sum = x + r.sum - (y + t.sum)
    rw [subL_sum r t (by simpa using h)]
    omega
theorem sum_nn : ∀ (l : List Int), (∀ x ∈ l, 0 ≤ x) → 0 ≤ l.sum
  | [], _ => Int.le_refl _
  | x :: r, h => by
    have := sum_nn r (fun y hy => h y (List.mem_cons_of_mem _ hy))
    have hx := h x List.mem_cons_self
    rw [List.sum_cons]
    omega
/-- the same elements chosen out of both -/
theorem subL_perm {a b c : List Int} (h : a.length = b.length) (p : (subL a b).Perm c) : ∃ a' b', a.Perm a' ∧ b.Perm b' ∧ a'.length = b'.length ∧ c = subL a' b' := by
  have key : ∀ {c d : List Int}, c.Perm d → ∀ a b : List Int, a.length = b.length → c = subL a b → ∃ a' b', a.Perm a' ∧ b.Perm b' ∧ a'.length = b'.length ∧ d = subL a' b' := by
    intro c d p
    induction p with
    | nil =>
      intro a b h e
      exact ⟨a, b, .refl _, .refl _, h, e⟩
    | cons x _ ih =>
      intro a b h e
      match a, b, h, e with
      | [], [], _, e => cases e
      | u :: r, v :: t, h, e =>
        have e : _ :: _ = (u - v) :: subL r t := e
        injection e with e1 e2
        obtain ⟨a', b', h1, h2, h3, h4⟩ := ih r t (by simpa using h) e2
        exact ⟨u :: a', v :: b', h1.cons _, h2.cons _, by simp [h3], by rw [h4, e1]; rfl⟩
    | swap x y l =>
      intro a b h e
      match a, b, h, e with
      | [], [], _, e => cases e
      | [u], [v], _, e =>
        have e : _ :: _ :: _ = [u - v] := e
        injection e with e1 e2
        cases e2
      | u :: u2 :: r, v :: v2 :: t, h, e =>
        have e : _ :: _ :: _ = (u - v) :: (u2 - v2) :: subL r t := e
        injection e with e1 e2
        injection e2 with e2 e3
        exact ⟨u2 :: u :: r, v2 :: v :: t, .swap _ _ _, .swap _ _ _, by simpa using h, by rw [e1, e2, e3]; rfl⟩
    | trans _ _ ih1 ih2 =>
      intro a b h e
      obtain ⟨a1, b1, h1, h2, h3, h4⟩ := ih1 a b h e
      obtain ⟨a2, b2, h5, h6, h7, h8⟩ := ih2 a1 b1 h3 h4
      exact ⟨a2, b2, h1.trans h5, h2.trans h6, h7, h8⟩
  exact key p a b h rfl
theorem subL_split : ∀ (a b l l' : List Int), a.length = b.length → l ++ l' = subL a b → ∃ a1 a2 b1 b2, a = a1 ++ a2 ∧ b = b1 ++ b2 ∧ a1.length = b1.length ∧ a2.length = b2.length ∧ l = subL a1 b1 ∧ l' = subL a2 b2
  | a, b, [], l', h, e => ⟨[], a, [], b, rfl, rfl, rfl, h, rfl, e⟩
  | [], [], x :: l, l', _, e => by cases e
  | u :: r, v :: t, x :: l, l', h, e => by
    have e : x :: (l ++ l') = (u - v) :: subL r t := e
    injection e with e1 e2
    obtain ⟨a1, a2, b1, b2, h1, h2, h3, h4, h5, h6⟩ := subL_split r t l l' (by simpa using h) e2
    exact ⟨u :: a1, a2, v :: b1, b2, by rw [h1]; rfl, by rw [h2]; rfl, by simp [h3], h4, by rw [h5, e1]; rfl, h6⟩
theorem SS_demand {ns ds : List Int} {g : Int} (hl : ns.length = ds.length) (hd : ∀ x ∈ ds, 0 ≤ x) (hs : ds.sum ≤ g) (k : Nat) (hk : k ≤ ns.length) : SS ns k - g ≤ SS (subL ns ds) k := by
  have ls : (subL ns ds).length = ns.length := by
    rw [subL_len]
    omega
  obtain ⟨l, l', p, h1, h2⟩ := SS_is (subL ns ds) k (by omega)
  obtain ⟨a', b', q1, q2, q3, q4⟩ := subL_perm hl p.symm
  obtain ⟨a1, a2, b1, b2, e1, e2, e3, e4, e5, e6⟩ := subL_split a' b' l l' q3 q4
  have hm := SS_min (ns := ns) (l := a1) (l' := a2) (by rw [← e1]; exact q1.symm)
  have h3 : l.sum = a1.sum - b1.sum := by rw [e5, subL_sum a1 b1 e3]
  have h4 : b1.sum + b2.sum = ds.sum := by rw [perm_sum q2, e2, List.sum_append]
  have h5 : 0 ≤ b2.sum := sum_nn b2 fun x hx => hd x (q2.mem_iff.mpr (by rw [e2]; exact List.mem_append.mpr (.inr hx)))
  have h6 : a1.length = k := by
    rw [← h1, e5, subL_len]
    omega
  rw [h6] at hm
  omega
theorem div_mono_sub {x y m : Int} (hm : 1 ≤ m) (h : x ≤ y) : x - x / m ≤ y - y / m := by
  have h1 := Int.emod_add_mul_ediv x m
  have h2 := Int.emod_add_mul_ediv y m
  have h3 := Int.emod_nonneg x (show m ≠ 0 by omega)
  have h4 := Int.emod_lt_of_pos x (show 0 < m by omega)
  have h5 := Int.emod_nonneg y (show m ≠ 0 by omega)
  have h6 := Int.emod_lt_of_pos y (show 0 < m by omega)
  -- y / m ≤ x / m + (y - x)
  have h7 : y / m ≤ x / m + (y - x) := by
    have : y / m ≤ (x + m * (y - x)) / m := by
      apply Int.ediv_le_ediv (by omega)
      have : (y - x) * 1 ≤ (y - x) * m := Int.mul_le_mul_of_nonneg_left hm (by omega)
      rw [Int.mul_comm m]
      omega
    rw [Int.add_mul_ediv_left _ _ (by omega)] at this
    exact this
  omega
theorem sum_ge_len {x : Int} : ∀ (l : List Int), (∀ y ∈ l, x ≤ y) → x * (l.length : Int) ≤ l.sum
  | [], _ => by simp
  | y :: r, h => by
    have ih := sum_ge_len r (fun z hz => h z (List.mem_cons_of_mem _ hz))
    have hy := h y List.mem_cons_self
    rw [List.sum_cons, List.length_cons, Int.natCast_add, Int.mul_add]
    simp only [Int.natCast_one, Int.mul_one]
    omega
/-- after any demand the grant to a smallest balance keeps safe balances safe -/
theorem grant_keeps {ns ds : List Int} {g : Int} {b : Nat} (hg : 1 ≤ g) (e : gapOf g ns = none) (hl : ns.length = ds.length) (hd : ∀ x ∈ ds, 0 ≤ x) (hs : ds.sum ≤ g) (hb : FirstMin (subL ns ds) b) : gapOf g (granted (subL ns ds) b g) = none := by
  rw [gap_none] at e ⊢
  intro k h1 h2
  rw [granted_len] at h2
  have ls : (subL ns ds).length = ns.length := by
    rw [subL_len]
    omega
  obtain ⟨hb1, hb2, _⟩ := hb
  have hS := fun k hk => SS_demand hl hd hs k hk
  generalize subL ns ds = ms at *
  have pb := idx_perm ms b hb1
  have gb : (granted ms b g).Perm ((ms.getD b 0 + g) :: ms.eraseIdx b) := set_perm ms b _ hb1
  generalize ms.getD b 0 = x at *
  generalize ms.eraseIdx b = m at *
  rw [SS_congr gb]
  obtain ⟨l, l', p, hl2, hs2⟩ := SS_is ((x + g) :: m) k (by rw [← gb.length_eq, granted_len]; exact h2)
  rw [← hs2]
  rcases perm_split p with ⟨l0, q1, q2⟩ | ⟨l0, q1, q2⟩
  · have h3 := SS_min (ns := ms) (l := x :: l0) (l' := l') ((q2.cons x).trans pb.symm)
    have e1 : l.sum = x + g + l0.sum := by rw [perm_sum q1, List.sum_cons]
    have e2 : (x :: l0).length = k := by rw [← hl2, q1.length_eq]; rfl
    rw [e2, List.sum_cons] at h3
    have h4 := hS k (by omega)
    have h5 := e k h1 (by omega)
    omega
  · have h3 := SS_min (ns := ms) (l := x :: l) (l' := l0) ((q2.cons x).trans pb.symm)
    have e2 : (x :: l).length = k + 1 := by rw [List.length_cons, hl2]
    rw [e2, List.sum_cons] at h3
    have hk : k + 1 ≤ ns.length := by
      have a1 := q2.length_eq
      have a2 := pb.length_eq
      rw [List.length_append] at a1
      rw [List.length_cons] at a2
      omega
    have h4 := hS (k + 1) hk
    have h5 := e (k + 1) (by omega) hk
    obtain ⟨k', rfl⟩ : ∃ k', k = k' + 1 := ⟨k - 1, by omega⟩
    have hR := (R_exact hg k').1
    have h5 : R g (k' + 2) ≤ SS ns (k' + 1 + 1) := h5
    have h6 := div_mono_sub (m := (k' : Int) + 2) (by omega) (show R g (k' + 2) - g ≤ x + l.sum by omega)
    have h7 : x ≤ (x + l.sum) / ((k' : Int) + 2) := by
      rw [Int.le_ediv_iff_mul_le (by omega)]
      have := sum_ge_len (x := x) l (fun y hy => hb2 y (pb.mem_iff.mpr (List.mem_cons_of_mem _ (q2.mem_iff.mp (List.mem_append.mpr (.inl hy))))))
      rw [hl2, Int.natCast_add] at this
      rw [show (k' : Int) + 2 = 1 + ((k' : Int) + 1) by omega, Int.mul_add, Int.mul_one]
      simp only [Int.natCast_one] at this
      omega
    omega
/-! ### safe balances, raised one credit or two at a time -/
theorem R_up {g : Int} (hg : 1 ≤ g) : ∀ (i j : Nat), i ≤ j → R g i ≤ R g j
  | i, j, h => by
    induction j with
    | zero =>
      have : i = 0 := by omega
      subst this
      exact Int.le_refl _
    | succ j ih =>
      by_cases e : i = j + 1
      · subst e
        exact Int.le_refl _
      · have h1 := ih (by omega)
        have h2 := R_mono hg 0 j (by omega)
        rw [R_one, R_zero] at h2
        omega
/-! ### the least balance beside others -/
theorem safe_cons {g x : Int} {ns : List Int} : gapOf g (x :: ns) = none ↔ gapOf g ns = none ∧ ∀ k, k ≤ ns.length → R g (k + 1) ≤ SS ns k + x := by
  constructor
  · intro h
    have h := gap_none.mp h
    refine ⟨gap_none.mpr fun k h1 h2 => ?_, fun k hk => ?_⟩
    · obtain ⟨l, l', p, e, s⟩ := SS_is ns k h2
      have q : (l ++ (x :: l')).Perm (x :: ns) := List.perm_middle.trans (p.cons x)
      have := SS_min q
      have := h k h1 (by rw [List.length_cons]; omega)
      rw [e] at *
      omega
    · obtain ⟨l, l', p, e, s⟩ := SS_is ns k hk
      have q : ((x :: l) ++ l').Perm (x :: ns) := p.cons x
      have h3 := SS_min q
      have h4 := h (k + 1) (by omega) (by rw [List.length_cons]; omega)
      rw [List.length_cons, e, List.sum_cons, s] at h3
      omega
  · rintro ⟨h, hk⟩
    have h := gap_none.mp h
    refine gap_none.mpr fun k h1 h2 => ?_
    obtain ⟨l, l', p, e, s⟩ := SS_is (x :: ns) k h2
    rw [← s]
    rcases perm_split p with ⟨l0, p1, p2⟩ | ⟨l0, p1, p2⟩
    · have e1 := p1.length_eq
      rw [List.length_cons] at e1
      have h3 := SS_min p2
      have h4 := hk l0.length (by rw [← p2.length_eq, List.length_append]; omega)
      rw [perm_sum p1, List.sum_cons]
      rw [show l0.length + 1 = k by omega] at h4
      omega
    · have h3 := SS_min p2
      have h4 := h k h1 (by rw [← p2.length_eq, List.length_append]; omega)
      rw [e] at h3
      omega
def IsLB (g : Int) (ns : List Int) (m : Int) : Prop := (∀ k, k ≤ ns.length → R g (k + 1) ≤ SS ns k + m) ∧ ∃ k, k ≤ ns.length ∧ R g (k + 1) = SS ns k + m
theorem IsLB.safe {g m x : Int} {ns : List Int} (h : IsLB g ns m) (e : gapOf g ns = none) : gapOf g (x :: ns) = none ↔ m ≤ x := by
  rw [safe_cons]
  constructor
  · rintro ⟨_, h2⟩
    obtain ⟨k, hk, ek⟩ := h.2
    have := h2 k hk
    omega
  · intro hx
    refine ⟨e, fun k hk => ?_⟩
    have := h.1 k hk
    omega
theorem SS_zero (ns : List Int) : SS ns 0 = 0 := rfl
theorem IsLB.ge {g m : Int} {ns : List Int} (h : IsLB g ns m) : g ≤ m := by
  have := h.1 0 (Nat.zero_le _)
  rw [SS_zero, R_one] at this
  omega
theorem IsLB.uniq {g m m' : Int} {ns : List Int} (h : IsLB g ns m) (h' : IsLB g ns m') : m = m' := by
  obtain ⟨k, hk, ek⟩ := h.2
  obtain ⟨j, hj, ej⟩ := h'.2
  have := h.1 j hj
  have := h'.1 k hk
  omega
theorem IsLB.congr {g m : Int} {ns ms : List Int} (h : IsLB g ns m) (p : ns.Perm ms) : IsLB g ms m := by
  refine ⟨fun k hk => ?_, ?_⟩
  · rw [← SS_congr p]
    exact h.1 k (by rw [p.length_eq]; exact hk)
  · obtain ⟨k, hk, ek⟩ := h.2
    exact ⟨k, by rw [← p.length_eq]; exact hk, by rw [← SS_congr p]; exact ek⟩
theorem SS_nn {ns : List Int} (h : ∀ x ∈ ns, 0 ≤ x) (k : Nat) : 0 ≤ SS ns k :=
  sum_nn _ fun x hx => h x ((srt_perm ns).mem_iff.mp (List.mem_of_mem_take hx))
theorem IsLB.le {g m : Int} {ns : List Int} (h : IsLB g ns m) (hg : 1 ≤ g) (hn : ∀ x ∈ ns, 0 ≤ x) : m ≤ R g (ns.length + 1) := by
  obtain ⟨k, hk, ek⟩ := h.2
  have := SS_nn hn k
  have := R_up hg (k + 1) (ns.length + 1) (by omega)
  omega
theorem SS_all (ns : List Int) : SS ns ns.length = ns.sum := by
  unfold SS
  rw [List.take_of_length_le (by rw [srt_len]; exact Nat.le_refl _)]
  exact perm_sum (srt_perm ns)
/-- what a set without one sender leaves: the least balance is above what the others lack -/
theorem IsLB.all {g m : Int} {ns : List Int} (h : IsLB g ns m) : R g (ns.length + 1) ≤ ns.sum + m := by
  have := h.1 ns.length (Nat.le_refl _)
  rw [SS_all] at this
  exact this
theorem IsLB.set {g m v : Int} {ns : List Int} {i : Nat} (hi : i < ns.length) (h : IsLB g (ns.eraseIdx i) m) (e : gapOf g (ns.eraseIdx i) = none) : gapOf g (ns.set i v) = none ↔ m ≤ v := by
  rw [gap_congr (set_perm ns i v hi)]
  exact h.safe e
def lbL (g : Int) (ns : List Int) : List Int := (List.range (ns.length + 1)).map fun k => R g (k + 1) - SS ns k
theorem lbL_is {g m : Int} {ns : List Int} (h1 : m ∈ lbL g ns) (h2 : ∀ y ∈ lbL g ns, y ≤ m) : IsLB g ns m := by
  refine ⟨fun k hk => ?_, ?_⟩
  · have := h2 (R g (k + 1) - SS ns k) (List.mem_map.mpr ⟨k, List.mem_range.mpr (by omega), rfl⟩)
    omega
  · obtain ⟨k, hk, rfl⟩ := List.mem_map.mp h1
    have := List.mem_range.mp hk
    exact ⟨k, by omega, by omega⟩
theorem lbL_take (g : Int) (ns : List Int) (i : Nat) (h : i ≤ ns.length) : (lbL g ns).take (i + 1) = (lbL g ns).take i ++ [R g (i + 1) - SS ns i] := by
  unfold lbL
  rw [← List.map_take, ← List.map_take, List.take_range, List.take_range, Nat.min_eq_left (by omega), Nat.min_eq_left (by omega), List.range_succ, List.map_append]
  rfl
theorem own_cons (ns : List Int) (i : Nat) (h : i ≤ ns.length) : ((0 : Int) :: own ns).getD i 0 = SS ns i := by
  cases i with
  | zero => rfl
  | succ i => exact own_at ns i h
def sp_least_beside (K : PySem.W.Frag) : Sp := fun vs H Q _ => ∃ (p : Addr) (ns : List Int) (g : Int), vs = [.ref p, .int g] ∧ (SqL K H p (ns.map V.int) ∨ SqT K H p (ns.map V.int)) ∧ ns.length ≤ 40 ∧ 1 ≤ g ∧
  ∀ m H', Kp [] H H' → IsLB g ns m → Q (.int m) H'
theorem ok_least_beside {f : Addr} {fd : FuncData} {k : Nat} (F : Fun K "least_beside" "least_beside" s_least_beside f fd) (m_max : mg "max" = none) (m_zip : mg "zip" = none) (m_len : mg "len" = none)
    (C_sums : Cl P w K mg base CX0 1 "sums" 1 (sp_sums K)) (C_thresholds : Cl P w K mg base CX0 1 "thresholds" 2 (sp_thresholds K)) :
    FnG P w K mg base CX0 (k + 2) f fd ["others", "budget"] (sp_least_beside K) := by
  refine ok0 F sc_least_beside (fun vs H Q E h => ?_) (fun cdv A outer s H vs Q E gd hr h => ?_)
  · obtain ⟨p, ns, g, rfl, _⟩ := h
    rfl
  · obtain ⟨p, ns, g, rfl, hp, hl, hg, q⟩ := h
    have ol : (own ns).length = ns.length := by
      unfold own
      rw [psums_len, srt_len]
    refine ⟨_, (pss_cons (ps_set (i := 2) sc_least_beside.nd rfl (.inl rfl) (pe_cl C_sums (hr.mono (by omega)) gd pass0 (by rfl) (pa_cons (pv 0) pa_nil)))
      (pss_cons (ps_set (i := 3) sc_least_beside.nd rfl (.inl rfl) (pe_ti (pa_cons pe_int (StX.pa_star (pv 2) pa_nil))))
      (pss_one (ps_ret (pe_callB (cr_maxK (K := K) rfl rfl) (by rfl) m_max (by decide +kernel) (pa_cons (pe_lcW (own := [("need", 4), ("have", 5)]) (g := (gTup K 2 (gCons (gName 4) (gCons (gName 5) gNil)))) rfl sc_least_beside.nd (RZ.pi_zipA (by rfl) m_zip (pa_cons (pe_cl C_thresholds (hr.mono (by omega)) gd pass0 (by rfl) (pa_cons (pe_callB (call_len_seqK (K := K) rfl) (by rfl) m_len (by decide +kernel) (pa_cons (pv 3) pa_nil)) (pa_cons (pv 1) pa_nil))) (pa_cons (pv 3) pa_nil))) (blkOk_by (own := [("need", 4), ("have", 5)]) (N := ["others", "budget", "least", "held", "need", "have"]) (sc := defScope s_least_beside) (by decide +kernel)) (fun _ _ _ _ _ => (pg_tup rfl (pgs_cons (pg_name (i := 4) sc_least_beside.nd rfl (.inl rfl)) (pgs_cons (pg_name (i := 5) sc_least_beside.nd rfl (.inl rfl)) pgs_nil)))) (fun _ _ _ _ _ => pts_nil) (fun _ _ _ _ _ => (pe_op op_sub (pv 4) (pv 5)))) pa_nil)))))), ?_⟩
    refine ⟨_, rfl, p, ns, rfl, hp, hl, fun t H1 k1 h1 => ?_⟩
    refine ⟨_, rfl, t, _, rfl, .inl h1, 0 :: own ns, by simp, by rw [List.length_cons]; exact Nat.le_trans (show (own ns).length + 1 ≤ 41 by omega) (Nat.le_of_ble_eq_true rfl), fun u H2 nu k2 h2 => ?_⟩
    have k2 := k1.trans k2
    refine ⟨_, rfl, u, _, rfl, .inr (sqT h2), _, rfl, ns.length + 1, g, ?_, by omega, fun r H3 nr k3 hr3 => ?_⟩
    · rw [List.length_map, List.length_cons, ol]
      rfl
    have h3 := k3.at0 h2
    have k3 := k2.trans k3
    refine ⟨_, rfl, r, u, _, _, rfl, .inr ⟨sqT hr3, sqT h3, _, _, _, walk_zipT (ns := rows g (ns.length + 1)) (ms := 0 :: own ns) (n := ns.length + 1) (by rw [rows_len, List.length_cons, ol]; omega), small1000 (by omega), fun D H4 nD k4 hD => ?_⟩⟩
    refine ⟨fun i acc H5 => ∃ rs : List Int, acc = rs.map V.int ∧ rs = (lbL g ns).take i ∧ Kp [] H H5 ∧ SqT K H5 r ((rows g (ns.length + 1)).map V.int) ∧ SqT K H5 u (((0 : Int) :: own ns).map V.int), ⟨[], rfl, rfl, k3.trans k4, sqT (k4.at0 hr3), sqT (k4.at0 h3)⟩, fun i acc H5 _ ⟨_, _, _, _, a, b⟩ => ⟨a, b⟩, ?_, ?_⟩
    · rintro i acc x H5 H6 hi ⟨rs, ea, er, k5, tp, td⟩ hD2 ⟨T, rfl, nT, kT, hT⟩
      have hD3 := kT.at0 hD2
      refine ⟨T, _, rfl, sqT hT, rfl, _, _, rfl, _, _, rfl, rfl, rfl, yesT ?_⟩
      refine ⟨_, rfl, _, rfl, _, _, rfl, rfl, hD3, fun H7 m7 h7 => ?_⟩
      refine ⟨rs ++ [_], by rw [List.map_append, ea]; rfl, ?_, (k5.trans kT).md (.inl (k3.free0 nD)) m7, m7.kp.tup1 hD3 (kT.tup0 tp), m7.kp.tup1 hD3 (kT.tup0 td)⟩
      rw [lbL_take g ns i (by omega), er, rows_get g _ i hi, own_cons ns i (by omega)]
    rintro acc H5 _ hD2 ⟨rs, ea, er, k5, _, _⟩
    subst ea
    have ll : (lbL g ns).length = ns.length + 1 := by simp [lbL]
    rw [List.take_of_length_le (by omega)] at er
    subst er
    exact ⟨D, _, rfl, sqL hD2, by omega, fun m h1 h2 => q m H5 k5 (lbL_is h1 h2)⟩
/-! ### told -/
/-- a class and its __init__, told -/
def Told (P : Program) (w : World) (K : PySem.W.Frag) (mg : Str → Option Value) (base : Heap) (x : Str) (C : Addr) : Prop := ∃ (fI : Addr) (fd : FuncData), ValC K mg x C fI fd ∧ FnOk P w K mg base CX0 1 fI fd ["self", "value"] (sp_init C)
/-! ### parts of anything -/
theorem all_range {ds : List PyData} {f : PyData → Bool} (n : Nat) (h : n = ds.length) : ((List.range n).map fun i => f (ds.getD i .none)).all id = ds.all f := by
  subst h
  have : (List.range ds.length).map (fun i => f (ds.getD i .none)) = ds.map f := by
    refine List.ext_getElem (by simp) fun i h1 h2 => ?_
    simp only [List.getElem_map, List.getElem_range]
    have hi : i < ds.length := by simpa using h2
    rw [List.getD_eq_getElem?_getD, List.getElem?_eq_getElem hi]
    rfl
  rw [this, List.all_map]
  rfl
/-- [f(part) for part in t]: what is made so far -/
theorem bl_snoc {f : PyData → Bool} {ds : List PyData} {i : Nat} {acc : List V} (ea : acc = ((List.range i).map fun j => f (ds.getD j .none)).map V.bl) : acc ++ [V.bl (f (ds.getD i .none))] = ((List.range (i + 1)).map fun j => f (ds.getD j .none)).map V.bl := by
  rw [List.range_succ, List.map_append, List.map_append, ea]
  rfl
theorem getD_db {N : Addr → Prop} {H : Hp} {vs : List V} {ds : List PyData} {i : Nat} {v : V} (h : DbAll K N H vs ds) (e : vs[i]? = some v) : Db K N H v (ds.getD i .none) := by
  obtain ⟨d, e2, r⟩ := h.get e
  rw [List.getD_eq_getElem?_getD, e2]
  exact r
/-! ### amounts, balances and demands, of anything -/
def sp_is_amount (K : PySem.W.Frag) : Sp := fun vs H Q _ => ∃ v : V, vs = [v] ∧ Kn K H v ∧ Q (.bl (btw v 0 1000000000000)) H
theorem ok_is_amount {f : Addr} {fd : FuncData} {k : Nat} (F : Fun K "is_amount" "is_amount" s_is_amount f fd) {tk : Tok} (mg_MOST_CREDITS : mg "MOST_CREDITS" = some (.int 1000000000000 tk))
    (C_is_between : Cl P w K mg base CX0 2 "is_between" 3 (sp_is_between K)) :
    FnG P w K mg base CX0 (k + 3) f fd ["thing"] (sp_is_amount K) := by
  refine ok0 F sc_is_amount (fun vs H Q E h => ?_) (fun cdv A outer s H vs Q E gd hr h => ?_)
  · obtain ⟨v, rfl, _⟩ := h
    rfl
  · obtain ⟨v, rfl, kn, q⟩ := h
    exact ⟨_, (pss_one (ps_ret (pe_cl C_is_between (hr.mono (by omega)) gd pass0 (by rfl) (pa_cons (pv 0) (pa_cons pe_int (pa_cons (pe_glob (v := .int 1000000000000) rfl mg_MOST_CREDITS ⟨_, rfl⟩) pa_nil)))))), ⟨_, rfl, v, 0, 1000000000000, rfl, kn, q⟩⟩
/-! ### links, pure -/
def lexL : List Nat → List Nat → Bool
  | [], _ => true
  | _ :: _, [] => false
  | a :: r, b :: t => decide (a < b) || (decide (a = b) && lexL r t)
theorem lexL_lt : ∀ a b : List Nat, lexL a b = !ltCps b a
  | [], [] => rfl
  | [], _ :: _ => rfl
  | _ :: _, [] => rfl
  | a :: r, b :: t => by
    unfold lexL ltCps
    rw [lexL_lt r t]
    rcases Nat.lt_trichotomy a b with h | h | h
    · simp [h, show ¬ b < a by omega, show ¬ b = a by omega, show ¬ (a = b) by omega]
    · subst h
      simp
    · simp [h, show ¬ a < b by omega, show ¬ a = b by omega]
theorem lexL_refl : ∀ a : List Nat, lexL a a = true
  | [] => rfl
  | a :: r => by simp [lexL, lexL_refl r]
theorem lexL_trans : ∀ a b c : List Nat, lexL a b = true → lexL b c = true → lexL a c = true
  | [], _, _, _, _ => rfl
  | _ :: _, [], _, h, _ => by cases h
  | _ :: _, _ :: _, [], _, h => by cases h
  | a :: r, b :: t, c :: u, h1, h2 => by
    simp only [lexL, Bool.or_eq_true, Bool.and_eq_true, decide_eq_true_eq] at h1 h2 ⊢
    rcases h1 with h1 | ⟨h1, h1'⟩ <;> rcases h2 with h2 | ⟨h2, h2'⟩
    · left; omega
    · left; omega
    · left; omega
    · right; exact ⟨by omega, lexL_trans r t u h1' h2'⟩
theorem lexL_total : ∀ a b : List Nat, (lexL a b || lexL b a) = true
  | [], _ => rfl
  | _ :: _, [] => rfl
  | a :: r, b :: t => by
    have := lexL_total r t
    simp only [lexL, Bool.or_eq_true, Bool.and_eq_true, decide_eq_true_eq] at this ⊢
    rcases Nat.lt_trichotomy a b with h | h | h
    · left; left; exact h
    · rcases this with z | z
      · left; right; exact ⟨h, z⟩
      · right; right; exact ⟨h.symm, z⟩
    · right; left; exact h
theorem lexL_anti : ∀ a b : List Nat, lexL a b = true → lexL b a = true → a = b
  | [], [], _, _ => rfl
  | [], _ :: _, _, h => by cases h
  | _ :: _, [], h, _ => by cases h
  | a :: r, b :: t, h1, h2 => by
    simp only [lexL, Bool.or_eq_true, Bool.and_eq_true, decide_eq_true_eq] at h1 h2
    rcases h1 with h1 | ⟨h1, h1'⟩
    · rcases h2 with h2 | ⟨h2, _⟩ <;> omega
    · rcases h2 with h2 | ⟨h2, h2'⟩
      · omega
      · rw [h1, lexL_anti r t h1' h2']
def leS (a b : Str) : Bool := lexL a.cps.toList b.cps.toList
theorem leS_trans (a b c : Str) (h1 : leS a b = true) (h2 : leS b c = true) : leS a c = true := lexL_trans _ _ _ h1 h2
theorem leS_total (a b : Str) : (leS a b || leS b a) = true := lexL_total _ _
theorem leS_anti (a b : Str) (h1 : leS a b = true) (h2 : leS b a = true) : a = b := by
  have := lexL_anti _ _ h1 h2
  cases a with
  | mk x => cases b with
    | mk y => rw [show x = y from Array.toList_inj.mp this]
theorem leS_refl (a : Str) : leS a a = true := lexL_refl _
theorem ltCps_leS (a b : Str) : ltCps a.cps.toList b.cps.toList = !leS b a := by
  unfold leS
  rw [lexL_lt, Bool.not_not]
def srtN (l : List Str) : List Str := l.mergeSort leS
theorem srtN_perm (l : List Str) : (srtN l).Perm l := List.mergeSort_perm _ _
theorem srtN_sorted (l : List Str) : (srtN l).Pairwise (fun a b => leS a b = true) := List.pairwise_mergeSort leS_trans leS_total l
theorem srtN_eq {l m : List Str} (p : m.Perm l) (s : m.Pairwise (fun a b => leS a b = true)) : m = srtN l :=
  List.Perm.eq_of_pairwise (fun a b _ _ h1 h2 => leS_anti a b h1 h2) s (srtN_sorted l) (p.trans (srtN_perm l).symm)
theorem risingS_pw : ∀ (l : List Str) (p : Str), risingS p l = true → (p :: l).Pairwise (fun a b => leS a b = true)
  | [], _, _ => List.pairwise_singleton _ _
  | x :: r, p, h => by
    unfold risingS at h
    rw [Bool.and_eq_true] at h
    have hx : leS p x = true := by
      have := h.1
      rw [ltCps_leS, Bool.not_not] at this
      exact this
    have hr := risingS_pw r x h.2
    refine List.pairwise_cons.mpr ⟨fun y hy => ?_, hr⟩
    rcases List.mem_cons.mp hy with e | hy
    · rw [e]; exact hx
    · exact leS_trans _ _ _ hx ((List.pairwise_cons.mp hr).1 y hy)
theorem sortedS_pw {l : List Str} (h : sortedS l = true) : l.Pairwise (fun a b => leS a b = true) := by
  cases l with
  | nil => exact .nil
  | cons x r => exact risingS_pw r x h
theorem srtN_of {l m : List Str} (p : m.Perm l) (s : sortedS m = true) : m = srtN l := srtN_eq p (sortedS_pw s)
theorem srtN_len (l : List Str) : (srtN l).length = l.length := (srtN_perm l).length_eq
theorem srtN_nodup {l : List Str} (h : l.Nodup) : (srtN l).Nodup := (srtN_perm l).nodup_iff.mpr h
/-- strictly ascending, where no name is there twice -/
theorem srtN_lt {l : List Str} (h : l.Nodup) : (srtN l).Pairwise (fun a b => leS b a = false) := by
  refine ((srtN_sorted l).and (srtN_nodup h)).imp fun {a b} z => ?_
  cases e : leS b a with
  | false => rfl
  | true => exact absurd (leS_anti a b z.1 e) z.2
/-! ### tables -/
abbrev Tab := List (Str × Int)
def tk (t : Tab) : List (L2.Key × V) := t.map fun p => (Sum.inr p.1, V.int p.2)
def keysT (t : Tab) : List Str := t.map (·.1)
def valsT (t : Tab) : List Int := t.map (·.2)
def tget (t : Tab) (n : Str) : Option Int := (t.find? fun p => decide (p.1 = n)).map (·.2)
def tval (t : Tab) (n : Str) : Int := (tget t n).getD 0
def tput (t : Tab) (n : Str) (b : Int) : Tab := if (t.any fun p => decide (p.1 = n)) = true then t.map (fun p => if p.1 = n then (p.1, b) else p) else t ++ [(n, b)]
def tdrop (t : Tab) (n : Str) : Tab := t.filter fun p => decide (p.1 ≠ n)
theorem tk_len (t : Tab) : (tk t).length = t.length := List.length_map _
theorem inr_dec (a b : Str) : decide ((Sum.inr a : L2.Key) = Sum.inr b) = decide (a = b) := decide_eq_decide.mpr ⟨fun h => Sum.inr.inj h, fun h => by rw [h]⟩
theorem tk_val : ∀ (t : Tab) (n : Str), valV (tk t) (Sum.inr n) = (tget t n).map V.int
  | [], _ => rfl
  | (a, b) :: r, n => by
    by_cases e : a = n
    · rw [show tk ((a, b) :: r) = (Sum.inr a, V.int b) :: tk r from rfl, valV_pos (show (Sum.inr a : L2.Key) = Sum.inr n by rw [e])]
      simp [tget, e]
    · rw [show tk ((a, b) :: r) = (Sum.inr a, V.int b) :: tk r from rfl, valV_neg (fun z => e (Sum.inr.inj z)), tk_val r n]
      simp [tget, e]
theorem tk_any (t : Tab) (n : Str) : ((tk t).any fun kv => decide (kv.1 = Sum.inr n)) = t.any fun p => decide (p.1 = n) := by
  unfold tk
  rw [List.any_map]
  exact congrArg (fun f => t.any f) (funext fun p => inr_dec p.1 n)
theorem tk_put (t : Tab) (n : Str) (b : Int) : putK (tk t) (Sum.inr n) (V.int b) = tk (tput t n b) := by
  unfold putK tput
  rw [tk_any]
  split
  · unfold tk
    rw [List.map_map, List.map_map]
    refine List.map_congr_left fun p _ => ?_
    show (if (Sum.inr p.1 : L2.Key) = Sum.inr n then _ else _) = _
    by_cases e : p.1 = n
    · rw [if_pos (by rw [e])]
      simp [e]
    · rw [if_neg (fun z => e (Sum.inr.inj z))]
      simp [e]
  · unfold tk
    rw [List.map_append]
    rfl
theorem tget_mem {t : Tab} {n : Str} {b : Int} (h : tget t n = some b) : (n, b) ∈ t := by
  unfold tget at h
  cases e : t.find? (fun p => decide (p.1 = n)) with
  | none => rw [e] at h; cases h
  | some p =>
    rw [e] at h
    have h1 := List.mem_of_find?_eq_some e
    have h2 := List.find?_some e
    have h2 : p.1 = n := of_decide_eq_true h2
    cases h
    rw [← h2]
    exact h1
theorem tget_key {t : Tab} {n : Str} : (tget t n).isSome = true ↔ n ∈ keysT t := by
  unfold tget keysT
  rw [Option.isSome_map, List.find?_isSome, List.mem_map]
  constructor
  · rintro ⟨p, hp, e⟩
    exact ⟨p, hp, of_decide_eq_true e⟩
  · rintro ⟨p, hp, e⟩
    exact ⟨p, hp, decide_eq_true e⟩
theorem tget_of {t : Tab} (nd : (keysT t).Nodup) : ∀ {n : Str} {b : Int}, (n, b) ∈ t → tget t n = some b := by
  induction t with
  | nil => intro n b h; cases h
  | cons p r ih =>
    intro n b h
    have nd' := List.nodup_cons.mp nd
    unfold tget
    rcases List.mem_cons.mp h with e | h
    · rw [← e]
      simp
    · have hne : ¬ p.1 = n := fun e => nd'.1 (List.mem_map.mpr ⟨(n, b), h, e.symm⟩)
      rw [List.find?_cons, decide_eq_false hne]
      exact ih nd'.2 h
theorem tget_none {t : Tab} {n : Str} : tget t n = none ↔ n ∉ keysT t := by
  rw [← tget_key]
  cases tget t n <;> simp
theorem any_key {t : Tab} {n : Str} : (t.any fun p => decide (p.1 = n)) = decide (n ∈ keysT t) := by
  rw [Bool.eq_iff_iff, List.any_eq_true, decide_eq_true_eq]
  unfold keysT
  rw [List.mem_map]
  exact ⟨fun ⟨p, hp, e⟩ => ⟨p, hp, of_decide_eq_true e⟩, fun ⟨p, hp, e⟩ => ⟨p, hp, decide_eq_true e⟩⟩
theorem tput_new {t : Tab} {n : Str} (b : Int) (h : n ∉ keysT t) : tput t n b = t ++ [(n, b)] := by
  unfold tput
  rw [any_key, decide_eq_false h]
  rfl
theorem tput_old {t : Tab} {n : Str} (b : Int) (h : n ∈ keysT t) : tput t n b = t.map (fun p => if p.1 = n then (p.1, b) else p) := by
  unfold tput
  rw [any_key, decide_eq_true h]
  rfl
theorem tput_keys {t : Tab} {n : Str} (b : Int) (h : n ∈ keysT t) : keysT (tput t n b) = keysT t := by
  rw [tput_old b h]
  unfold keysT
  rw [List.map_map]
  refine List.map_congr_left fun p _ => ?_
  show (if p.1 = n then (p.1, b) else p).1 = p.1
  split <;> rfl
theorem tput_get (t : Tab) (n m : Str) (b : Int) : tget (tput t n b) m = if m = n then some b else tget t m := by
  have h : (valV (putK (tk t) (Sum.inr n) (V.int b)) (Sum.inr m)) = if m = n then some (V.int b) else valV (tk t) (Sum.inr m) := by
    rw [valV_put]
    by_cases e : m = n
    · rw [if_pos (by rw [e]), if_pos e]
    · rw [if_neg (fun z => e (Sum.inr.inj z)), if_neg e]
  rw [tk_put, tk_val, tk_val] at h
  have inj : ∀ x y : Option Int, x.map V.int = y.map V.int → x = y := by
    intro x y z
    cases x <;> cases y <;> simp_all
  apply inj
  rw [h]
  by_cases e : m = n
  · rw [if_pos e, if_pos e]; rfl
  · rw [if_neg e, if_neg e]
theorem tput_len {t : Tab} {n : Str} (b : Int) (h : n ∈ keysT t) : (tput t n b).length = t.length := by
  rw [tput_old b h, List.length_map]
theorem tdrop_keys {t : Tab} {n : Str} (nd : (keysT t).Nodup) : (keysT (tdrop t n)).Nodup := by
  unfold keysT tdrop
  exact nd.sublist ((List.filter_sublist).map _)
theorem tput_nd {t : Tab} {n : Str} (b : Int) (nd : (keysT t).Nodup) : (keysT (tput t n b)).Nodup := by
  by_cases h : n ∈ keysT t
  · rw [tput_keys b h]; exact nd
  · rw [tput_new b h]
    unfold keysT
    rw [List.map_append]
    exact nd_snoc nd h
/-- the values by ascending names -/
def nsT (t : Tab) : List Str := srtN (keysT t)
def vsT (t : Tab) : List Int := (nsT t).map (tval t)
theorem vals_get {t : Tab} (nd : (keysT t).Nodup) : valsT t = (keysT t).map (tval t) := by
  unfold valsT keysT
  rw [List.map_map]
  refine List.map_congr_left fun p hp => ?_
  show p.2 = tval t p.1
  unfold tval
  rw [tget_of nd (show (p.1, p.2) ∈ t from hp)]
  rfl
theorem vsT_perm {t : Tab} (nd : (keysT t).Nodup) : (vsT t).Perm (valsT t) := by
  rw [vals_get nd]
  exact (srtN_perm _).map _
/-- the names with their balances, in ascending order of (balance, name) -/
def pLe (p q : Int × Str) : Bool := decide (p.1 < q.1) || (decide (p.1 = q.1) && leS p.2 q.2)
theorem pLe_trans (a b c : Int × Str) (h1 : pLe a b = true) (h2 : pLe b c = true) : pLe a c = true := by
  simp only [pLe, Bool.or_eq_true, Bool.and_eq_true, decide_eq_true_eq] at h1 h2 ⊢
  rcases h1 with h1 | ⟨h1, h1'⟩ <;> rcases h2 with h2 | ⟨h2, h2'⟩
  · left; omega
  · left; omega
  · left; omega
  · right; exact ⟨by omega, leS_trans _ _ _ h1' h2'⟩
theorem pLe_total (a b : Int × Str) : (pLe a b || pLe b a) = true := by
  have := leS_total a.2 b.2
  simp only [pLe, Bool.or_eq_true, Bool.and_eq_true, decide_eq_true_eq] at this ⊢
  rcases Int.lt_trichotomy a.1 b.1 with h | h | h
  · left; left; exact h
  · rcases this with z | z
    · left; right; exact ⟨h, z⟩
    · right; right; exact ⟨h.symm, z⟩
  · right; left; exact h
theorem pLe_anti (a b : Int × Str) (h1 : pLe a b = true) (h2 : pLe b a = true) : a = b := by
  simp only [pLe, Bool.or_eq_true, Bool.and_eq_true, decide_eq_true_eq] at h1 h2
  rcases h1 with h1 | ⟨h1, h1'⟩
  · rcases h2 with h2 | ⟨h2, _⟩ <;> omega
  · rcases h2 with h2 | ⟨h2, h2'⟩
    · omega
    · exact Prod.ext h1 (leS_anti _ _ h1' h2')
def ordP (t : Tab) : List (Int × Str) := (t.map fun p => (p.2, p.1)).mergeSort pLe
theorem ordP_perm (t : Tab) : (ordP t).Perm (t.map fun p => (p.2, p.1)) := List.mergeSort_perm _ _
theorem ordP_sorted (t : Tab) : (ordP t).Pairwise (fun a b => pLe a b = true) := List.pairwise_mergeSort pLe_trans pLe_total _
theorem ordP_eq {t : Tab} {m : List (Int × Str)} (p : m.Perm (t.map fun p => (p.2, p.1))) (s : m.Pairwise (fun a b => pLe a b = true)) : m = ordP t :=
  List.Perm.eq_of_pairwise (fun a b _ _ h1 h2 => pLe_anti a b h1 h2) s (ordP_sorted t) (p.trans (ordP_perm t).symm)
/-- the first weak set of named balances -/
def weakN (g : Int) (t : Tab) : Option (List Str) := (gapOf g (valsT t)).map fun k => srtN (((ordP t).take k).map (·.2))
def poorN (t : Tab) : Option Str := (ordP t).head?.map (·.2)
/-! ### named balances and their indexes -/
def nmAt (t : Tab) (i : Int) : Str := (nsT t).getD i.toNat default
theorem nsT_len (t : Tab) : (nsT t).length = t.length := by
  unfold nsT keysT
  rw [srtN_len, List.length_map]
theorem vsT_len (t : Tab) : (vsT t).length = t.length := by
  unfold vsT
  rw [List.length_map, nsT_len]
theorem vsT_at {t : Tab} {i : Nat} (h : i < t.length) : (vsT t).getD i 0 = tval t ((nsT t).getD i default) := by
  have h1 : i < (nsT t).length := by rw [nsT_len]; exact h
  unfold vsT
  rw [List.getD_eq_getElem?_getD, List.getD_eq_getElem?_getD, List.getElem?_map, List.getElem?_eq_getElem h1]
  rfl
theorem pairs_perm {t : Tab} (nd : (keysT t).Nodup) : ((nsT t).map fun n => (tval t n, n)).Perm (t.map fun p => (p.2, p.1)) := by
  have h : (t.map fun p => (p.2, p.1)) = (keysT t).map fun n => (tval t n, n) := by
    unfold keysT
    rw [List.map_map]
    refine List.map_congr_left fun p hp => ?_
    show (p.2, p.1) = (tval t p.1, p.1)
    unfold tval
    rw [tget_of nd (show (p.1, p.2) ∈ t from hp)]
    rfl
  rw [h]
  exact (srtN_perm _).map _
theorem ns_ge {t : Tab} {i j : Nat} (hij : i ≤ j) (hj : j < t.length) : leS ((nsT t).getD i default) ((nsT t).getD j default) = true := by
  have hl := nsT_len t
  have hi : i < (nsT t).length := by omega
  have hj' : j < (nsT t).length := by omega
  rw [List.getD_eq_getElem?_getD, List.getD_eq_getElem?_getD, List.getElem?_eq_getElem hi, List.getElem?_eq_getElem hj']
  show leS (nsT t)[i] (nsT t)[j] = true
  rcases Nat.lt_or_eq_of_le hij with h | h
  · exact List.pairwise_iff_getElem.mp (srtN_sorted (keysT t)) i j hi hj' h
  · subst h
    exact leS_refl _
theorem ns_mem {t : Tab} {n : Str} (h : n ∈ keysT t) : ∃ i, i < t.length ∧ (nsT t).getD i default = n := by
  have h1 : n ∈ nsT t := (srtN_perm _).mem_iff.mpr h
  obtain ⟨i, hi, e⟩ := List.getElem_of_mem h1
  refine ⟨i, by rw [← nsT_len]; exact hi, ?_⟩
  rw [List.getD_eq_getElem?_getD, List.getElem?_eq_getElem hi, e]
  rfl
theorem ns_in {t : Tab} {i : Nat} (h : i < t.length) : (nsT t).getD i default ∈ keysT t := by
  have hi : i < (nsT t).length := by rw [nsT_len]; exact h
  rw [List.getD_eq_getElem?_getD, List.getElem?_eq_getElem hi]
  exact (srtN_perm _).mem_iff.mp (List.getElem_mem hi)
theorem poor_first {t : Tab} {j : Nat} (nd : (keysT t).Nodup) (h : FirstMin (vsT t) j) : poorN t = some ((nsT t).getD j default) := by
  obtain ⟨hj, hm, hf⟩ := h
  rw [vsT_len] at hj
  have key : ((vsT t).getD j 0, (nsT t).getD j default) ∈ ordP t := by
    refine (ordP_perm t).mem_iff.mpr ((pairs_perm nd).mem_iff.mp ?_)
    refine List.mem_map.mpr ⟨_, (srtN_perm _).mem_iff.mpr (ns_in hj), ?_⟩
    rw [vsT_at hj]
  have low : ∀ q ∈ ordP t, pLe ((vsT t).getD j 0, (nsT t).getD j default) q = true := by
    intro q hq
    have := (pairs_perm nd).mem_iff.mpr ((ordP_perm t).mem_iff.mp hq)
    obtain ⟨n, hn, rfl⟩ := List.mem_map.mp this
    obtain ⟨i, hi, rfl⟩ := ns_mem ((srtN_perm _).mem_iff.mp hn)
    rw [← vsT_at hi]
    have h1 : (vsT t).getD i 0 ∈ vsT t := by
      have : i < (vsT t).length := by rw [vsT_len]; exact hi
      rw [List.getD_eq_getElem?_getD, List.getElem?_eq_getElem this]
      exact List.getElem_mem this
    have h2 := hm _ h1
    simp only [pLe, Bool.or_eq_true, Bool.and_eq_true, decide_eq_true_eq]
    rcases Int.lt_or_eq_of_le h2 with z | z
    · left; exact z
    · right
      refine ⟨z, ns_ge ?_ hi⟩
      rcases Nat.lt_or_ge i j with w | w
      · exact absurd z.symm (hf i w)
      · exact w
  unfold poorN
  cases e : ordP t with
  | nil => rw [e] at key; cases key
  | cons q r =>
    rw [e] at key low
    have hq : q = ((vsT t).getD j 0, (nsT t).getD j default) := by
      rcases List.mem_cons.mp key with z | z
      · exact z.symm
      · have s := ordP_sorted t
        rw [e] at s
        exact pLe_anti _ _ ((List.pairwise_cons.mp s).1 _ z) (low q List.mem_cons_self)
    rw [hq]
    rfl
theorem idx_pairs {t : Tab} {ms : List Int} (nd : (keysT t).Nodup) (pm : ms.Perm (upto t.length)) (sm : ms.Pairwise (KLe (byBal (vsT t)))) :
    (ms.map fun i => ((vsT t).getD i.toNat 0, nmAt t i)) = ordP t := by
  have hin : ∀ i ∈ ms, 0 ≤ i ∧ i < (t.length : Int) := fun i hi => upto_mem.mp (pm.mem_iff.mp hi)
  refine ordP_eq ?_ ?_
  · refine (pm.map _).trans (List.Perm.trans (List.Perm.of_eq ?_) (pairs_perm nd))
    unfold upto
    rw [List.map_map]
    refine List.ext_getElem? fun k => ?_
    rw [List.getElem?_map, List.getElem?_map]
    rcases Nat.lt_or_ge k t.length with h | h
    · have h1 : k < (nsT t).length := by rw [nsT_len]; exact h
      rw [List.getElem?_range h, List.getElem?_eq_getElem h1]
      show some ((vsT t).getD ((k : Int)).toNat 0, nmAt t (k : Int)) = some (tval t (nsT t)[k], (nsT t)[k])
      unfold nmAt
      rw [show ((k : Int)).toNat = k by omega, vsT_at h, List.getD_eq_getElem?_getD, List.getElem?_eq_getElem h1]
      rfl
    · rw [List.getElem?_eq_none (by rw [List.length_range]; exact h), List.getElem?_eq_none (by rw [nsT_len]; exact h)]
      rfl
  · rw [List.pairwise_map]
    refine (List.Pairwise.and_mem.mp sm).imp fun {a b} z => ?_
    obtain ⟨ha, hb, z⟩ := z
    have ha := hin a ha
    have hb := hin b hb
    simp only [pLe, Bool.or_eq_true, Bool.and_eq_true, decide_eq_true_eq]
    have z' : (vsT t).getD a.toNat 0 < (vsT t).getD b.toNat 0 ∨ (vsT t).getD a.toNat 0 = (vsT t).getD b.toNat 0 ∧ a ≤ b := by
      unfold KLe byBal at z
      simpa using z
    rcases z' with z | ⟨z, w⟩
    · left; exact z
    · right
      exact ⟨z, ns_ge (by omega) (by omega)⟩
theorem weak_nm {t : Tab} {k : Nat} {W : List Int} (nd : (keysT t).Nodup) (h : IsWeak (vsT t) k W) : W.map (nmAt t) = srtN (((ordP t).take k).map (·.2)) := by
  obtain ⟨sW, ms, pm, sm, pW⟩ := h
  rw [vsT_len] at pm
  have hin : ∀ i ∈ W, 0 ≤ i ∧ i < (t.length : Int) := fun i hi => upto_mem.mp (pm.mem_iff.mp (List.mem_of_mem_take (pW.mem_iff.mp hi)))
  refine srtN_eq ?_ ?_
  · rw [← idx_pairs nd pm sm, ← List.map_take, List.map_map]
    exact pW.map _
  · rw [List.pairwise_map]
    refine (List.Pairwise.and_mem.mp sW).imp fun {a b} z => ?_
    obtain ⟨ha, hb, z⟩ := z
    have ha := hin a ha
    have hb := hin b hb
    exact ns_ge (by omega) (by omega)
/-! ### what the calls of a link do -/
structure LkS where
  b : Int
  t : Tab
  past : List (Int × Tab)
inductive Ex where
  | name | taken | unknown | amount | budget | spends | over | refused | full | undo
inductive Out where
  | ok (r : PyData) (s : LkS)
  | bad (x : Ex) (v : PyData)
def lettersS : Str := "abcdefghijklmnopqrstuvwxyz"
def isNm (s : Str) : Bool := decide (1 ≤ s.length ∧ s.length ≤ 8) && s.cps.toList.all fun c => decide (c ∈ lettersS.cps.toList)
def nameD : PyData → Option Str
  | .str s => if isNm s = true then some s else none
  | _ => none
def intIn (lo hi : Int) : PyData → Option Int
  | .int a => if lo ≤ a ∧ a ≤ hi then some a else none
  | _ => none
def amtD (d : PyData) : Option Int := intIn 0 1000000000000 d
def budD (d : PyData) : Option Int := intIn 1 1000000 d
def knownD (t : Tab) (d : PyData) : Option Str := (nameD d).bind fun n => if n ∈ keysT t then some n else none
def keepF (s : LkS) (b : Int) (t : Tab) (r : PyData) : Out := .ok r ⟨b, t, s.past ++ [(s.b, s.t)]⟩
def changeF (s : LkS) (b : Int) (t : Tab) (r : PyData) : Out :=
  match weakN b t with
  | some W => .bad .refused (.tuple (W.map .str))
  | none => keepF s b t r
def enterF (s : LkS) (dn db : PyData) : Out :=
  match nameD dn with
  | none => .bad .name dn
  | some n => if n ∈ keysT s.t then .bad .taken dn else
    match amtD db with
    | none => .bad .amount db
    | some a => if 40 ≤ s.t.length then .bad .full .none else changeF s s.b (tput s.t n a) .none
def leaveF (s : LkS) (dn : PyData) : Out :=
  match knownD s.t dn with
  | none => .bad .unknown dn
  | some n => keepF s s.b (tdrop s.t n) (.int (tval s.t n))
def depositF (s : LkS) (dn da : PyData) : Out :=
  match knownD s.t dn with
  | none => .bad .unknown dn
  | some n => match amtD da with
    | none => .bad .amount da
    | some a => keepF s s.b (tput s.t n (tval s.t n + a)) .none
def withdrawF (s : LkS) (dn da : PyData) : Out :=
  match knownD s.t dn with
  | none => .bad .unknown dn
  | some n => match amtD da with
    | none => .bad .amount da
    | some a => changeF s s.b (tput s.t n (tval s.t n - a)) .none
def moveT (t : Tab) (g k : Str) (a : Int) : Tab := tput (tput t g (tval t g - a)) k (tval (tput t g (tval t g - a)) k + a)
def transferF (s : LkS) (dg dk da : PyData) : Out :=
  match knownD s.t dg with
  | none => .bad .unknown dg
  | some g => match knownD s.t dk with
    | none => .bad .unknown dk
    | some k => match amtD da with
      | none => .bad .amount da
      | some a => changeF s s.b (moveT s.t g k a) .none
def budgetF (s : LkS) (db : PyData) : Out :=
  match budD db with
  | none => .bad .budget db
  | some b => changeF s b s.t .none
def spendD : PyData → Option (Str × Int)
  | .tuple [.str n, .int a] => if isNm n = true ∧ 0 ≤ a then some (n, a) else none
  | _ => none
def spendsL : List PyData → Option (List (Str × Int))
  | [] => some []
  | d :: r => (spendD d).bind fun p => (spendsL r).map fun l => p :: l
def ascN : List (Str × Int) → Bool
  | p :: q :: r => !leS q.1 p.1 && ascN (q :: r)
  | _ => true
def spendsD : PyData → Option (List (Str × Int))
  | .tuple ds => (spendsL ds).bind fun l => if ascN l = true then some l else none
  | _ => none
def afterS : Tab → List (Str × Int) → Tab
  | t, [] => t
  | t, p :: r => afterS (tput t p.1 (tval t p.1 - p.2)) r
def totS (l : List (Str × Int)) : Int := (l.map (·.2)).sum
def grantT (g : Int) (t : Tab) : Tab := match poorN t with
  | none => t
  | some n => tput t n (tval t n + g)
def optS : Option Str → PyData
  | none => .none
  | some n => .str n
def tickF (s : LkS) (d : PyData) : Out :=
  match spendsD d with
  | none => .bad .spends d
  | some l => match l.find? fun p => decide (p.1 ∉ keysT s.t) with
    | some p => .bad .unknown (.str p.1)
    | none => if s.b < totS l then .bad .over (.int (totS l)) else keepF s s.b (grantT s.b (afterS s.t l)) (optS (poorN (afterS s.t l)))
def undoF (s : LkS) : Out :=
  match s.past.getLast? with
  | none => .bad .undo .none
  | some p => .ok .none ⟨p.1, p.2, s.past.dropLast⟩
/-! ### good links -/
structure GoodT (b : Int) (t : Tab) : Prop where
  b1 : 1 ≤ b
  b2 : b ≤ 1000000
  len : t.length ≤ 40
  nd : (keysT t).Nodup
  nm : ∀ n ∈ keysT t, isNm n = true
  safe : gapOf b (valsT t) = none
structure Good (s : LkS) : Prop where
  now : GoodT s.b s.t
  old : ∀ p ∈ s.past, GoodT p.1 p.2
theorem weakN_none {b : Int} {t : Tab} : weakN b t = none ↔ gapOf b (valsT t) = none := by
  unfold weakN
  rw [Option.map_eq_none_iff]
theorem GoodT.of {b b' : Int} {t t' : Tab} (h : GoodT b t) (b1 : 1 ≤ b') (b2 : b' ≤ 1000000) (len : t'.length ≤ 40) (nd : (keysT t').Nodup) (nm : ∀ n ∈ keysT t', n ∈ keysT t ∨ isNm n = true) (w : weakN b' t' = none) : GoodT b' t' :=
  ⟨b1, b2, len, nd, fun n hn => (nm n hn).elim (h.nm n) id, weakN_none.mp w⟩
theorem knownD_in {t : Tab} {d : PyData} {n : Str} (h : knownD t d = some n) : n ∈ keysT t ∧ d = .str n := by
  unfold knownD at h
  cases e : nameD d with
  | none => rw [e] at h; cases h
  | some m =>
    rw [e] at h
    replace h : (if m ∈ keysT t then some m else none) = some n := h
    by_cases hm : m ∈ keysT t
    · rw [if_pos hm] at h
      cases h
      refine ⟨hm, ?_⟩
      cases d with
      | str s =>
        replace e : (if isNm s = true then some s else none) = some n := e
        by_cases hs : isNm s = true
        · rw [if_pos hs] at e
          cases e
          rfl
        · rw [if_neg hs] at e
          cases e
      | _ => cases e
    · rw [if_neg hm] at h
      cases h
/-! #### a sender leaves, a balance grows -/
theorem valsT_perm_head {t : Tab} {n : Str} (nd : (keysT t).Nodup) (h : n ∈ keysT t) : (valsT t).Perm (tval t n :: valsT (tdrop t n)) := by
  induction t with
  | nil => cases h
  | cons p r ih =>
    have nd' := List.nodup_cons.mp nd
    by_cases e : p.1 = n
    · have e1 : tdrop (p :: r) n = r := by
        unfold tdrop
        rw [List.filter_cons, if_neg (by simp [e])]
        refine List.filter_eq_self.mpr fun q hq => decide_eq_true fun z => nd'.1 ?_
        refine List.mem_map.mpr ⟨q, hq, ?_⟩
        show q.1 = p.1
        rw [z, e]
      have e2 : tval (p :: r) n = p.2 := by
        unfold tval tget
        rw [List.find?_cons, decide_eq_true e]
        rfl
      rw [e1, e2]
      exact List.Perm.refl _
    · have hr : n ∈ keysT r := by
        rcases List.mem_cons.mp h with z | z
        · exact absurd z.symm e
        · exact z
      have e1 : tdrop (p :: r) n = p :: tdrop r n := by
        unfold tdrop
        rw [List.filter_cons, if_pos (by simp [e])]
      have e2 : tval (p :: r) n = tval r n := by
        unfold tval tget
        rw [List.find?_cons, decide_eq_false e]
      rw [e1, e2]
      exact ((ih nd'.2 hr).cons p.2).trans (List.Perm.swap _ _ _)
theorem safe_drop {b : Int} {t : Tab} {n : Str} (nd : (keysT t).Nodup) (h : n ∈ keysT t) (e : gapOf b (valsT t) = none) : gapOf b (valsT (tdrop t n)) = none := by
  rw [gap_congr (valsT_perm_head nd h)] at e
  exact (safe_cons.mp e).1
theorem tdrop_put {t : Tab} {n : Str} (v : Int) (h : n ∈ keysT t) : tdrop (tput t n v) n = tdrop t n := by
  rw [tput_old v h]
  unfold tdrop
  clear h
  induction t with
  | nil => rfl
  | cons p r ih =>
    rw [List.map_cons]
    by_cases e : p.1 = n
    · rw [if_pos e, List.filter_cons, List.filter_cons, if_neg (by simp [e]), if_neg (by simp [e])]
      exact ih
    · rw [if_neg e, List.filter_cons, List.filter_cons, if_pos (by simp [e]), if_pos (by simp [e]), ih]
theorem tval_put {t : Tab} {n m : Str} {v : Int} : tval (tput t n v) m = if m = n then v else tval t m := by
  unfold tval
  rw [tput_get]
  split <;> rfl
theorem vals_put {t : Tab} {n : Str} (v : Int) (nd : (keysT t).Nodup) (h : n ∈ keysT t) : (valsT (tput t n v)).Perm (v :: valsT (tdrop t n)) := by
  have h2 : n ∈ keysT (tput t n v) := by rw [tput_keys v h]; exact h
  have := valsT_perm_head (tput_nd v nd) h2
  rw [tdrop_put v h, tval_put, if_pos rfl] at this
  exact this
theorem safe_up {b : Int} {t : Tab} {n : Str} {v : Int} (nd : (keysT t).Nodup) (h : n ∈ keysT t) (hv : tval t n ≤ v) (e : gapOf b (valsT t) = none) : gapOf b (valsT (tput t n v)) = none := by
  rw [gap_congr (valsT_perm_head nd h)] at e
  rw [gap_congr (vals_put v nd h)]
  obtain ⟨e1, e2⟩ := safe_cons.mp e
  exact safe_cons.mpr ⟨e1, fun k hk => by have := e2 k hk; omega⟩
/-! #### ticks -/
def spentN : List (Str × Int) → Str → Int
  | [], _ => 0
  | p :: r, m => (if m = p.1 then p.2 else 0) + spentN r m
theorem afterS_keys : ∀ (l : List (Str × Int)) (t : Tab), (∀ p ∈ l, p.1 ∈ keysT t) → keysT (afterS t l) = keysT t
  | [], _, _ => rfl
  | p :: r, t, h => by
    have hp := h p List.mem_cons_self
    have e := tput_keys (tval t p.1 - p.2) hp
    show keysT (afterS (tput t p.1 (tval t p.1 - p.2)) r) = _
    rw [afterS_keys r _ (fun q hq => by rw [e]; exact h q (List.mem_cons_of_mem _ hq)), e]
theorem afterS_val : ∀ (l : List (Str × Int)) (t : Tab) (m : Str), tval (afterS t l) m = tval t m - spentN l m
  | [], t, m => by show tval t m = tval t m - 0; omega
  | p :: r, t, m => by
    show tval (afterS (tput t p.1 (tval t p.1 - p.2)) r) m = tval t m - ((if m = p.1 then p.2 else 0) + spentN r m)
    rw [afterS_val r, tval_put]
    by_cases e : m = p.1
    · rw [if_pos e, if_pos e, e]; omega
    · rw [if_neg e, if_neg e]; omega
theorem afterS_len : ∀ (l : List (Str × Int)) (t : Tab), (∀ p ∈ l, p.1 ∈ keysT t) → (afterS t l).length = t.length := fun l t h => by
  have := congrArg List.length (afterS_keys l t h)
  unfold keysT at this
  rwa [List.length_map, List.length_map] at this
theorem sum_zero : ∀ l : List Str, (l.map fun _ => (0 : Int)).sum = 0
  | [] => rfl
  | _ :: r => by rw [List.map_cons, List.sum_cons, sum_zero r]; rfl
theorem sum_add (f g : Str → Int) : ∀ l : List Str, (l.map fun x => f x + g x).sum = (l.map f).sum + (l.map g).sum
  | [] => rfl
  | a :: r => by
    rw [List.map_cons, List.map_cons, List.map_cons, List.sum_cons, List.sum_cons, List.sum_cons, sum_add f g r]
    omega
theorem sum_one (n : Str) (a : Int) : ∀ l : List Str, l.Nodup → n ∈ l → (l.map fun m => if m = n then a else 0).sum = a
  | [], _, h => by cases h
  | x :: r, nd, h => by
    have nd' := List.nodup_cons.mp nd
    rw [List.map_cons, List.sum_cons]
    by_cases e : x = n
    · rw [if_pos e]
      have : (r.map fun m => if m = n then a else 0) = r.map fun _ => (0 : Int) := List.map_congr_left fun m hm => if_neg fun z => nd'.1 (by rw [e, ← z]; exact hm)
      rw [this, sum_zero]
      omega
    · rw [if_neg e, sum_one n a r nd'.2 (by
        rcases List.mem_cons.mp h with z | z
        · exact absurd z.symm e
        · exact z)]
      omega
theorem spent_sum : ∀ (l : List (Str × Int)) (ks : List Str), ks.Nodup → (∀ p ∈ l, p.1 ∈ ks) → (ks.map (spentN l)).sum = totS l
  | [], ks, _, _ => sum_zero ks
  | p :: r, ks, nd, h => by
    show (ks.map fun m => (if m = p.1 then p.2 else 0) + spentN r m).sum = _
    rw [sum_add (fun m => if m = p.1 then p.2 else 0) (spentN r), sum_one _ _ ks nd (h p List.mem_cons_self), spent_sum r ks nd fun q hq => h q (List.mem_cons_of_mem _ hq)]
    unfold totS
    rw [List.map_cons, List.sum_cons]
theorem spent_nn : ∀ (l : List (Str × Int)) (m : Str), (∀ p ∈ l, 0 ≤ p.2) → 0 ≤ spentN l m
  | [], _, _ => Int.le_refl 0
  | p :: r, m, h => by
    have h1 := spent_nn r m fun q hq => h q (List.mem_cons_of_mem _ hq)
    have h2 := h p List.mem_cons_self
    show 0 ≤ (if m = p.1 then p.2 else 0) + spentN r m
    split <;> omega
theorem subL_map (f g : Str → Int) : ∀ l : List Str, (l.map fun x => f x - g x) = subL (l.map f) (l.map g)
  | [] => rfl
  | a :: r => by
    rw [List.map_cons, List.map_cons, List.map_cons, subL_map f g r]
    rfl
theorem nsT_keys {t t' : Tab} (h : keysT t' = keysT t) : nsT t' = nsT t := by
  unfold nsT
  rw [h]
theorem vsT_put {t : Tab} {j : Nat} (v : Int) (nd : (keysT t).Nodup) (hj : j < t.length) : vsT (tput t ((nsT t).getD j default) v) = (vsT t).set j v := by
  have hk := ns_in hj
  have e := nsT_keys (tput_keys v hk)
  have hl : j < (nsT t).length := by rw [nsT_len]; exact hj
  have hn : (nsT t).Nodup := srtN_nodup nd
  have ej : (nsT t).getD j default = (nsT t)[j] := by rw [List.getD_eq_getElem?_getD, List.getElem?_eq_getElem hl]; rfl
  unfold vsT
  rw [e]
  refine List.ext_getElem? fun i => ?_
  rw [List.getElem?_map, List.getElem?_set, List.length_map, List.getElem?_map]
  by_cases hi : i < (nsT t).length
  · rw [List.getElem?_eq_getElem hi]
    by_cases z : j = i
    · subst z
      rw [if_pos rfl, if_pos hl]
      show some (tval (tput t _ v) (nsT t)[j]) = _
      rw [tval_put, if_pos ej.symm]
    · rw [if_neg z]
      show some (tval (tput t _ v) (nsT t)[i]) = some (tval t (nsT t)[i])
      rw [tval_put, if_neg]
      rw [ej]
      intro w
      exact z ((List.getElem_inj hn).mp w).symm
  · rw [List.getElem?_eq_none (by omega)]
    by_cases z : j = i
    · omega
    · rw [if_neg z]
      rfl
theorem gap_nil (b : Int) : gapOf b [] = none := by
  unfold gapOf srt
  rw [List.mergeSort_nil]
  rfl
theorem ordP_nil : ordP [] = [] := List.mergeSort_nil
theorem grant_nil (b : Int) : grantT b [] = [] := by
  unfold grantT poorN
  rw [ordP_nil]
  rfl
theorem tick_safe {b : Int} {t : Tab} {l : List (Str × Int)} (G : GoodT b t) (hk : ∀ p ∈ l, p.1 ∈ keysT t) (hn : ∀ p ∈ l, 0 ≤ p.2) (ht : totS l ≤ b) : gapOf b (valsT (grantT b (afterS t l))) = none := by
  have ek := afterS_keys l t hk
  have nd : (keysT (afterS t l)).Nodup := by rw [ek]; exact G.nd
  by_cases h0 : t.length = 0
  · have hl : (afterS t l).length = 0 := by rw [afterS_len l t hk]; exact h0
    have e0 : afterS t l = [] := List.length_eq_zero_iff.mp hl
    rw [e0, grant_nil]
    exact gap_nil b
  · have ev : vsT (afterS t l) = subL (vsT t) ((nsT t).map (spentN l)) := by
      unfold vsT
      rw [nsT_keys ek, ← subL_map]
      exact List.map_congr_left fun m _ => afterS_val l t m
    obtain ⟨j, hj⟩ := first_min (ns := vsT (afterS t l)) (by rw [vsT_len, afterS_len l t hk]; omega)
    have hj1 := hj.1
    rw [vsT_len] at hj1
    have ep := poor_first nd hj
    unfold grantT
    rw [ep]
    show gapOf b (valsT (tput (afterS t l) ((nsT (afterS t l)).getD j default) (tval (afterS t l) ((nsT (afterS t l)).getD j default) + b))) = none
    have nd2 := tput_nd (n := (nsT (afterS t l)).getD j default) (tval (afterS t l) ((nsT (afterS t l)).getD j default) + b) nd
    rw [← gap_congr (vsT_perm nd2), vsT_put _ nd hj1, ← vsT_at hj1]
    have := grant_keeps (ns := vsT t) (ds := (nsT t).map (spentN l)) (g := b) (b := j) G.b1 (by rw [gap_congr (vsT_perm G.nd)]; exact G.safe) (by unfold vsT; rw [List.length_map, List.length_map])
      (fun x hx => by obtain ⟨m, _, rfl⟩ := List.mem_map.mp hx; exact spent_nn l m hn)
      (by rw [spent_sum l (nsT t) (srtN_nodup G.nd) fun p hp => (srtN_perm _).mem_iff.mpr (hk p hp)]; exact ht)
      (by rw [← ev]; exact hj)
    rw [← ev] at this
    exact this
/-! ### links in the heap -/
theorem tk_keys (t : Tab) : (tk t).map (·.1) = (keysT t).map Sum.inr := by
  unfold tk keysT
  rw [List.map_map, List.map_map]
  rfl
/-- what the fields of a link hold -/
def lkF (b : Int) (d q : Addr) : List (Str × V) := [("budget", .int b), ("balances", .ref d), ("past", .ref q)]
theorem ne_bb : ¬ (("budget" : Str) = "balances") := by decide +kernel
theorem ne_bp : ¬ (("budget" : Str) = "past") := by decide +kernel
theorem ne_ap : ¬ (("balances" : Str) = "past") := by decide +kernel
theorem lkF_b (b : Int) (d q : Addr) : (lkF b d q).lookup ("budget" : Str) = some (.int b) := by
  unfold lkF
  rw [List.lookup_cons, beq_self_eq_true]
theorem lkF_d (b : Int) (d q : Addr) : (lkF b d q).lookup ("balances" : Str) = some (.ref d) := by
  unfold lkF
  rw [List.lookup_cons, beq_eq_false_iff_ne.mpr (fun z => ne_bb z.symm), List.lookup_cons, beq_self_eq_true]
theorem lkF_q (b : Int) (d q : Addr) : (lkF b d q).lookup ("past" : Str) = some (.ref q) := by
  unfold lkF
  rw [List.lookup_cons, beq_eq_false_iff_ne.mpr (fun z => ne_bp z.symm), List.lookup_cons, beq_eq_false_iff_ne.mpr (fun z => ne_ap z.symm), List.lookup_cons, beq_self_eq_true]
theorem lkF_no (b : Int) (d q : Addr) {m : Str} (h1 : ¬ m = "budget") (h2 : ¬ m = "balances") (h3 : ¬ m = "past") : (lkF b d q).lookup m = none := by
  unfold lkF
  rw [List.lookup_cons, beq_eq_false_iff_ne.mpr h1, List.lookup_cons, beq_eq_false_iff_ne.mpr h2, List.lookup_cons, beq_eq_false_iff_ne.mpr h3]
  rfl
theorem lkF_putB (b b' : Int) (d q : Addr) : putF "budget" (.int b') (lkF b d q) = lkF b' d q := by
  unfold lkF
  show (if ("budget" : Str) = "budget" then _ else _) = _
  rw [if_pos rfl]
theorem lkF_putD (b : Int) (d d' q : Addr) : putF "balances" (.ref d') (lkF b d q) = lkF b d' q := by
  unfold lkF
  show (if ("budget" : Str) = "balances" then _ else _ :: (if ("balances" : Str) = "balances" then _ else _)) = _
  rw [if_neg ne_bb, if_pos rfl]
theorem lkF_new (b : Int) (d q : Addr) : putF "past" (.ref q) (putF "balances" (.ref d) (putF "budget" (.int b) [])) = lkF b d q := by
  unfold lkF
  show putF "past" (.ref q) (if ("budget" : Str) = "balances" then _ else _ :: putF "balances" (.ref d) []) = _
  rw [if_neg ne_bb]
  show (if ("budget" : Str) = "past" then _ else _ :: (if ("balances" : Str) = "past" then _ else _ :: putF "past" (.ref q) [])) = _
  rw [if_neg ne_bp, if_neg ne_ap]
  rfl
/-- what is kept of a change -/
inductive PastL (H : Hp) : List V → List (Int × Tab) → Prop
  | nil : PastL H [] []
  | cons {u d : Addr} {b : Int} {t : Tab} {vs : List V} {ps : List (Int × Tab)} : H u = some (.tup [.int b, .ref d]) → H d = some (.dK (tk t)) → PastL H vs ps → PastL H (.ref u :: vs) ((b, t) :: ps)
theorem PastL.keep {H H' : Hp} (kt : ∀ p xs, H p = some (.tup xs) → H' p = some (.tup xs)) (kd : ∀ p t, H p = some (.dK (tk t)) → H' p = some (.dK (tk t))) : ∀ {vs : List V} {ps : List (Int × Tab)}, PastL H vs ps → PastL H' vs ps
  | _, _, .nil => .nil
  | _, _, .cons a b c => .cons (kt _ _ a) (kd _ _ b) (c.keep kt kd)
theorem PastL.len {H : Hp} : ∀ {vs : List V} {ps : List (Int × Tab)}, PastL H vs ps → vs.length = ps.length
  | _, _, .nil => rfl
  | _, _, .cons _ _ c => by rw [List.length_cons, List.length_cons, c.len]
theorem PastL.snoc {H : Hp} {u d : Addr} {b : Int} {t : Tab} (hu : H u = some (.tup [.int b, .ref d])) (hd : H d = some (.dK (tk t))) : ∀ {vs : List V} {ps : List (Int × Tab)}, PastL H vs ps → PastL H (vs ++ [.ref u]) (ps ++ [(b, t)])
  | _, _, .nil => .cons hu hd .nil
  | _, _, .cons x y c => .cons x y (c.snoc hu hd)
theorem PastL.last {H : Hp} : ∀ {vs : List V} {ps : List (Int × Tab)} {p : Int × Tab}, PastL H vs ps → ps.getLast? = some p → ∃ (u d : Addr), vs[vs.length - 1]? = some (.ref u) ∧ H u = some (.tup [.int p.1, .ref d]) ∧ H d = some (.dK (tk p.2)) ∧ PastL H vs.dropLast ps.dropLast
  | _, _, _, .nil, e => by cases e
  | _, _, p, .cons (vs := []) (ps := []) a b .nil, e => by
    cases e
    exact ⟨_, _, rfl, a, b, .nil⟩
  | _, _, p, .cons (vs := v :: vs) (ps := q :: ps) a b c, e => by
    have e2 : (q :: ps).getLast? = some p := by rw [← e]; simp [List.getLast?_cons_cons]
    obtain ⟨u, d, h1, h2, h3, h4⟩ := c.last e2
    exact ⟨u, d, h1, h2, h3, .cons a b h4⟩
/-- a link stands at p, its list of changes at q -/
structure LkAt (C : Addr) (H : Hp) (p q : Addr) (s : LkS) : Prop where
  ob : ∃ dx d, H p = some (.ins C dx (lkF s.b d q)) ∧ H d = some (.dK (tk s.t))
  pa : ∃ vs, H q = some (.lst vs) ∧ PastL H vs s.past
theorem LkAt.keep {C : Addr} {H H' : Hp} {p q : Addr} {s : LkS} (h : LkAt C H p q s) (hp : ∀ o, H p = some o → (∀ ps, o ≠ .tbl ps) → H' p = some o) (hq : ∀ o, H q = some o → (∀ ps, o ≠ .tbl ps) → H' q = some o)
    (kt : ∀ p xs, H p = some (.tup xs) → H' p = some (.tup xs)) (kd : ∀ p t, H p = some (.dK (tk t)) → H' p = some (.dK (tk t))) : LkAt C H' p q s := by
  obtain ⟨⟨dx, d, h1, h2⟩, vs, h3, h4⟩ := h
  exact ⟨⟨dx, d, hp _ h1 (fun _ z => nomatch z), kd _ _ h2⟩, vs, hq _ h3 (fun _ z => nomatch z), h4.keep kt kd⟩
theorem LkAt.kt {T : List (Addr × Str)} {C : Addr} {H H' : Hp} {p q : Addr} {s : LkS} (h : LkAt C H p q s) (k : Kt T H H') : LkAt C H' p q s :=
  h.keep (fun o e n => k.ext _ _ e n) (fun o e n => k.ext _ _ e n) (fun p xs e => k.atT e) (fun p t e => k.ext _ _ e fun _ z => nomatch z)
theorem LkAt.kp {C : Addr} {H H' : Hp} {p q : Addr} {s : LkS} (h : LkAt C H p q s) (k : Kp [] H H') : LkAt C H' p q s := h.kt (T := []) k.kt
/-- the addresses of S hold no tuples, no tables -/
def NoTab (S : Addr → Prop) (H : Hp) : Prop := ∀ p, S p → (∀ xs, H p ≠ some (.tup xs)) ∧ ∀ t, H p ≠ some (.dK (tk t))
theorem LkAt.ks {T : List (Addr × Str)} {S : Addr → Prop} {C : Addr} {H H' : Hp} {p q : Addr} {s : LkS} (h : LkAt C H p q s) (k : Ks T S H H') (np : ¬ S p) (nq : ¬ S q) (n : NoTab S H) : LkAt C H' p q s :=
  h.keep (fun o e z => k.keep _ _ np e z) (fun o e z => k.keep _ _ nq e z) (fun p xs e => k.atT (fun w => (n p w).1 xs e) e) (fun p t e => k.atD (fun w => (n p w).2 t e) e)
/-- the two addresses that a link's changes write to -/
def Two (p q : Addr) : Addr → Prop := fun a => a = p ∨ a = q
theorem LkAt.two {C : Addr} {H : Hp} {p q : Addr} {s : LkS} (h : LkAt C H p q s) : ∀ a, Two p q a → (∀ xs o, H a ≠ some (.tup xs) ∧ H a ≠ some (.frz o (.tup xs)) ∧ H a ≠ some (.dT [])) ∧ ∀ kvs, H a ≠ some (.dK kvs) := by
  obtain ⟨⟨dx, d, h1, h2⟩, vs, h3, h4⟩ := h
  rintro a (rfl | rfl)
  · rw [h1]
    exact ⟨fun xs o => ⟨(fun z => nomatch z), (fun z => nomatch z), (fun z => nomatch z)⟩, fun kvs z => nomatch z⟩
  · rw [h3]
    exact ⟨fun xs o => ⟨(fun z => nomatch z), (fun z => nomatch z), (fun z => nomatch z)⟩, fun kvs z => nomatch z⟩
theorem LkAt.stay {T : List (Addr × Str)} {K : PySem.W.Frag} {N : Addr → Prop} {C : Addr} {H H' : Hp} {p q : Addr} {s : LkS} (h : LkAt C H p q s) (nq : N q) (k : Ks T (Two p q) H H') : Stay K N H H' :=
  k.stay (fun a z xs o => (h.two a z).1 xs o) fun a xs z e => by
    rcases z with rfl | rfl
    · obtain ⟨⟨dx, d, h1, h2⟩, _⟩ := h
      rw [h1] at e
      cases e
    · exact nq
theorem LkAt.ne {C : Addr} {H : Hp} {p q : Addr} {s : LkS} (h : LkAt C H p q s) : p ≠ q := by
  obtain ⟨⟨dx, d, h1, h2⟩, vs, h3, h4⟩ := h
  intro z
  rw [z, h3] at h1
  cases h1
/-! ### the addresses of the exceptions' classes -/
structure LkX where
  name : Addr
  taken : Addr
  unknown : Addr
  amount : Addr
  budget : Addr
  spends : Addr
  over : Addr
  refused : Addr
  full : Addr
  undo : Addr
def LkX.at_ (x : LkX) : Ex → Addr
  | .name => x.name | .taken => x.taken | .unknown => x.unknown | .amount => x.amount | .budget => x.budget | .spends => x.spends | .over => x.over | .refused => x.refused | .full => x.full | .undo => x.undo
/-- what is known of the class Link -/
structure LinkC (K : PySem.W.Frag) (C : Addr) : Prop where
  cls : Cls K C
  nb : NoAttr K C "budget"
  nd : NoAttr K C "balances"
  nq : NoAttr K C "past"
/-- how a call ends: with a result and a new state, or with an exception and its value -/
def OutP (K : PySem.W.Frag) (C : Addr) (T : List (Addr × Str)) (X : LkX) (N : Addr → Prop) (H : Hp) (p q : Addr) (o : Out) (Q : VK) (E : XK) : Prop :=
  match o with
  | .ok r s => ∀ v H', Ks T (Two p q) H H' → LkAt C H' p q s → Db K N H' v r → Q v H'
  | .bad .full _ => ∀ H', Kt T H H' → E (.ref X.full) none H'
  | .bad .undo _ => ∀ H', Kt T H H' → E (.ref X.undo) none H'
  | .bad x v => ∀ u d H', Kt T H H' → Db K N H' u v → H' d = none → E (.ref (X.at_ x)) (some d) (upd H' d (.xd [("value", u)]))
/-- a call of a link with n arguments, data -/
def sp_op (K : PySem.W.Frag) (C : Addr) (T : List (Addr × Str)) (X : LkX) (n : Nat) (f : LkS → List PyData → Out) : Sp := fun vs H Q E => ∃ (p q : Addr) (s : LkS) (N : Addr → Prop) (us : List V) (ds : List PyData),
  vs = .ref p :: us ∧ us.length = n ∧ LkAt C H p q s ∧ Good s ∧ s.past.length ≤ 10000 ∧ Tabs T H ∧ DbAll K N H us ds ∧ szA ds ≤ 1000000 ∧ N q ∧ OutP K C T X N H p q (f s ds) Q E
def op1 (f : LkS → PyData → Out) (s : LkS) : List PyData → Out
  | [a] => f s a
  | _ => .bad .name .none
def op2 (f : LkS → PyData → PyData → Out) (s : LkS) : List PyData → Out
  | [a, b] => f s a b
  | _ => .bad .name .none
def op3 (f : LkS → PyData → PyData → PyData → Out) (s : LkS) : List PyData → Out
  | [a, b, c] => f s a b c
  | _ => .bad .name .none
/-! ### the defs of links -/
theorem nameD_str (s : Str) : (nameD (.str s)).isSome = isNm s := by
  show (if isNm s = true then some s else none).isSome = isNm s
  cases isNm s <;> rfl
theorem isNm_len {s : Str} (h : isNm s = true) : s.length ≤ 8 := by
  unfold isNm at h
  rw [Bool.and_eq_true] at h
  exact (of_decide_eq_true h.1).2
def sp_is_budget (K : PySem.W.Frag) : Sp := fun vs H Q _ => ∃ v : V, vs = [v] ∧ Kn K H v ∧ Q (.bl (btw v 1 1000000)) H
theorem ok_is_budget {f : Addr} {fd : FuncData} {k : Nat} (F : Fun K "is_budget" "is_budget" s_is_budget f fd) {tk : Tok} (mg_MOST_BUDGET : mg "MOST_BUDGET" = some (.int 1000000 tk))
    (C_is_between : Cl P w K mg base CX0 2 "is_between" 3 (sp_is_between K)) :
    FnG P w K mg base CX0 (k + 3) f fd ["thing"] (sp_is_budget K) := by
  refine ok0 F sc_is_budget (fun vs H Q E h => ?_) (fun cdv A outer s H vs Q E gd hr h => ?_)
  · obtain ⟨v, rfl, _⟩ := h
    rfl
  · obtain ⟨v, rfl, kn, q⟩ := h
    exact ⟨_, (pss_one (ps_ret (pe_cl C_is_between (hr.mono (by omega)) gd pass0 (by rfl) (pa_cons (pv 0) (pa_cons pe_int (pa_cons (pe_glob (v := .int 1000000) rfl mg_MOST_BUDGET ⟨_, rfl⟩) pa_nil)))))), ⟨_, rfl, v, 1, 1000000, rfl, kn, q⟩⟩
def sp_is_name (K : PySem.W.Frag) : Sp := fun vs H Q _ => ∃ (v : V) (d : PyData) (N : Addr → Prop), vs = [v] ∧ Db K N H v d ∧ szD d ≤ 1000000 ∧ ∀ H', Kp [] H H' → Q (.bl (nameD d).isSome) H'
theorem ok_is_name {f : Addr} {fd : FuncData} {k : Nat} (F : Fun K "is_name" "is_name" s_is_name f fd) (m_isinstance : mg "isinstance" = none) (m_str : mg "str" = none) (m_len : mg "len" = none) (m_all : mg "all" = none)
    {tk tk2 : Tok} (mg_MOST_LETTERS : mg "MOST_LETTERS" = some (.int 8 tk)) (mg_LETTERS : mg "LETTERS" = some (.str "abcdefghijklmnopqrstuvwxyz" tk2)) :
    FnG P w K mg base CX0 (k + 1) f fd ["thing"] (sp_is_name K) := by
  refine ok0 F sc_is_name (fun vs H Q E h => ?_) (fun cdv A outer s H vs Q E gd hr h => ?_)
  · obtain ⟨v, d, N, rfl, _⟩ := h
    rfl
  · obtain ⟨v, d, N, rfl, hD, hz, q⟩ := h
    refine ⟨_, (pss_cons (ps_if (PW.pt (pw_or (pt_not (pt_val (pe_callB (call_isiB (K := K) rfl) (by rfl) m_isinstance (by decide +kernel) (pa_cons (pv 0) (pa_cons (pe_bltn (v := .ty "str") (by rfl) m_str rfl rfl) pa_nil))))) (pw_or1 (pt_not (pt_chain op_le op_le pe_int (pe_callB call_len (by rfl) m_len (by decide +kernel) (pa_cons (pv 0) pa_nil)) (pe_glob (v := .int 8) rfl mg_MOST_LETTERS ⟨_, rfl⟩))))))
      (pss_one (ps_ret pe_bl))
      pss_nil)
      (pss_one (ps_ret (pe_callB (cr_allK (K := K) rfl rfl) (by rfl) m_all (by decide +kernel) (pa_cons (pe_lcW (own := [("letter", 1)]) (g := (gName 1)) rfl sc_is_name.nd (pi_str (pv 0)) (blkOk_by (own := [("letter", 1)]) (N := ["thing", "letter"]) (sc := defScope s_is_name) (by decide +kernel)) (fun _ _ _ _ _ => (pg_name (i := 1) sc_is_name.nd rfl (.inl rfl))) (fun _ _ _ _ _ => pts_nil) (fun _ _ _ _ _ => (pe_cmpR op_in_sign (pv 1) (pe_glob (v := .str "abcdefghijklmnopqrstuvwxyz") rfl mg_LETTERS ⟨_, rfl⟩) rfl))) pa_nil))))), ?_⟩
    refine ⟨_, rfl, _, _, _, _, rfl, hD.ty, kitS d, _, rfl, ?_⟩
    cases ht : isSD d with
    | false =>
      have e : (nameD d).isSome = false := by cases d <;> first | rfl | cases ht
      rw [e] at q
      exact (show if (!false) = true then _ else _ from iteT (q H Kp.refl))
    | true =>
      refine (show if (!true) = true then _ else _ from iteF ?_)
      obtain ⟨x, rfl, rfl⟩ : ∃ x : Str, v = .str x ∧ d = .str x := by
        cases hD with
        | str x => exact ⟨x, rfl, rfl⟩
        | _ => cases ht
      rw [nameD_str] at q
      simp only [szD] at hz
      have xl : x.length ≤ sizeLine := by rw [sizeLine_eq]; omega
      refine ⟨_, rfl, _, x.length, rfl, ⟨xl, rfl⟩, ?_⟩
      refine ⟨_, _, rfl, rfl, _, rfl, ?_⟩
      have eq0 : ∀ b1 b2 : Bool, decide (1 ≤ x.length ∧ x.length ≤ 8) = b1 → (x.cps.toList.all fun c => decide (c ∈ lettersS.cps.toList)) = b2 → isNm x = (b1 && b2) := fun b1 b2 h1 h2 => by unfold isNm; rw [h1, h2]
      by_cases c1 : (1 : Int) ≤ (x.length : Int)
      · refine ifYes c1 ?_
        refine ⟨_, _, rfl, rfl, _, rfl, ?_⟩
        by_cases c2 : (x.length : Int) ≤ 8
        · rw [decide_eq_true c2]
          refine (show if (!true) = true then _ else _ from iteF ?_)
          have e1 : decide (1 ≤ x.length ∧ x.length ≤ 8) = true := decide_eq_true ⟨by omega, by omega⟩
          have xs8 : x.cps.size ≤ 8 := by have : x.length = x.cps.size := rfl; omega
          refine ⟨_, rfl, x, rfl, _, _, _, walk_str (z := x), small1000 (by omega), fun D H1 nD k1 hD1 => ?_⟩
          refine ⟨fun i acc H2 => acc = ((x.cps.toList.take i).map fun c => decide (c ∈ lettersS.cps.toList)).map V.bl ∧ Kp [] H H2, ⟨rfl, k1⟩, fun _ _ _ _ _ => trivial, ?_, ?_⟩
          · rintro i acc y _ H2 hi ⟨ea, k2⟩ hD2 ⟨rfl, c, hc, rfl⟩
            refine ⟨rfl, yesT ?_⟩
            refine ⟨_, rfl, c, lettersS, rfl, rfl, hD2, fun H3 m3 h3 => ?_⟩
            refine ⟨?_, k2.md (.inl nD) m3⟩
            have hc' : x.cps.toList[i]? = some c := by rw [Array.getElem?_toList]; exact hc
            rw [List.take_add_one, hc', ea]
            simp
          rintro acc H2 _ hD2 ⟨ea, k2⟩
          rw [List.take_of_length_le (by simp)] at ea
          subst ea
          refine ⟨D, _, rfl, sqL hD2, ?_⟩
          have e2 : ((x.cps.toList.map fun c => decide (c ∈ lettersS.cps.toList)).all id) = (x.cps.toList.all fun c => decide (c ∈ lettersS.cps.toList)) := by rw [List.all_map]; rfl
          rw [e2]
          have := q H2 k2
          rw [eq0 true _ e1 rfl, Bool.true_and] at this
          exact this
        · rw [decide_eq_false c2]
          have e1 : decide (1 ≤ x.length ∧ x.length ≤ 8) = false := decide_eq_false (fun z => c2 (by omega))
          rw [eq0 false _ e1 rfl, Bool.false_and] at q
          exact (show if (!false) = true then _ else _ from iteT (q H Kp.refl))
      · refine ifNo c1 ?_
        have e1 : decide (1 ≤ x.length ∧ x.length ≤ 8) = false := decide_eq_false (fun z => c1 (by omega))
        rw [eq0 false _ e1 rfl, Bool.false_and] at q
        exact ⟨_, rfl, (show if (!false) = true then _ else _ from iteT (q H Kp.refl))⟩
theorem amtD_btw {N : Addr → Prop} {H : Hp} {v : V} {d : PyData} (h : Db K N H v d) : btw v 0 1000000000000 = (amtD d).isSome := by
  cases h <;> try rfl
  rename_i i
  show decide (0 ≤ i ∧ i ≤ 1000000000000) = (if 0 ≤ i ∧ i ≤ 1000000000000 then some i else none).isSome
  by_cases e : 0 ≤ i ∧ i ≤ 1000000000000
  · rw [if_pos e, decide_eq_true e]; rfl
  · rw [if_neg e, decide_eq_false e]; rfl
theorem budD_btw {N : Addr → Prop} {H : Hp} {v : V} {d : PyData} (h : Db K N H v d) : btw v 1 1000000 = (budD d).isSome := by
  cases h <;> try rfl
  rename_i i
  show decide (1 ≤ i ∧ i ≤ 1000000) = (if 1 ≤ i ∧ i ≤ 1000000 then some i else none).isSome
  by_cases e : 1 ≤ i ∧ i ≤ 1000000
  · rw [if_pos e, decide_eq_true e]; rfl
  · rw [if_neg e, decide_eq_false e]; rfl
def sp_require_amount (K : PySem.W.Frag) (X : LkX) : Sp := fun vs H Q E => ∃ (v : V) (d : PyData) (N : Addr → Prop), vs = [v] ∧ Db K N H v d ∧
  ((amtD d).isSome = true → Q .non H) ∧ (amtD d = none → ∀ e, H e = none → E (.ref X.amount) (some e) (upd H e (.xd [("value", v)])))
theorem ok_require_amount {f : Addr} {fd : FuncData} {k : Nat} {X : LkX} (F : Fun K "require_amount" "require_amount" s_require_amount f fd) (t_BadAmount : Told P w K mg base "BadAmount" X.amount)
    (C_is_amount : Cl P w K mg base CX0 3 "is_amount" 1 (sp_is_amount K)) :
    FnG P w K mg base (L2.CX P w) (k + 4) f fd ["amount"] (sp_require_amount K X) := by
  obtain ⟨_, _, V_BadAmount, F_BadAmount⟩ := t_BadAmount
  refine okX F sc_require_amount (fun vs H Q E h => ?_) (fun cdv A outer s H vs Q E gd hr h => ?_)
  · obtain ⟨v, d, N, rfl, _⟩ := h
    rfl
  · obtain ⟨v, d, N, rfl, hD, q1, q2⟩ := h
    have hr2 := hr.mono (show 1 + 1 ≤ k + 3 by omega)
    refine ⟨_, (pss_one (ps_if (pt_not (pt_val (pe_cl C_is_amount (hr.mono (by omega)) gd pass0 (by rfl) (pa_cons (pv 0) pa_nil))))
      (pss_one (ps_raise rfl (takes_of rfl rfl rfl rfl) (pmk_value V_BadAmount F_BadAmount hr2 (by rfl) (pv 0))))
      pss_nil)), ?_⟩
    refine ⟨_, rfl, v, rfl, hD.kn, ?_⟩
    rw [amtD_btw hD]
    refine ⟨_, rfl, ?_⟩
    cases e : amtD d with
    | none => exact (show if (!false) = true then _ else _ from iteT ⟨_, rfl, q2 e⟩)
    | some a => exact (show if (!true) = true then _ else _ from iteF (q1 (by rw [e]; rfl)))
def sp_require_budget (K : PySem.W.Frag) (X : LkX) : Sp := fun vs H Q E => ∃ (v : V) (d : PyData) (N : Addr → Prop), vs = [v] ∧ Db K N H v d ∧
  ((budD d).isSome = true → Q .non H) ∧ (budD d = none → ∀ e, H e = none → E (.ref X.budget) (some e) (upd H e (.xd [("value", v)])))
theorem ok_require_budget {f : Addr} {fd : FuncData} {k : Nat} {X : LkX} (F : Fun K "require_budget" "require_budget" s_require_budget f fd) (t_BadBudget : Told P w K mg base "BadBudget" X.budget)
    (C_is_budget : Cl P w K mg base CX0 3 "is_budget" 1 (sp_is_budget K)) :
    FnG P w K mg base (L2.CX P w) (k + 4) f fd ["budget"] (sp_require_budget K X) := by
  obtain ⟨_, _, V_BadBudget, F_BadBudget⟩ := t_BadBudget
  refine okX F sc_require_budget (fun vs H Q E h => ?_) (fun cdv A outer s H vs Q E gd hr h => ?_)
  · obtain ⟨v, d, N, rfl, _⟩ := h
    rfl
  · obtain ⟨v, d, N, rfl, hD, q1, q2⟩ := h
    have hr2 := hr.mono (show 1 + 1 ≤ k + 3 by omega)
    refine ⟨_, (pss_one (ps_if (pt_not (pt_val (pe_cl C_is_budget (hr.mono (by omega)) gd pass0 (by rfl) (pa_cons (pv 0) pa_nil))))
      (pss_one (ps_raise rfl (takes_of rfl rfl rfl rfl) (pmk_value V_BadBudget F_BadBudget hr2 (by rfl) (pv 0))))
      pss_nil)), ?_⟩
    refine ⟨_, rfl, v, rfl, hD.kn, ?_⟩
    rw [budD_btw hD]
    refine ⟨_, rfl, ?_⟩
    cases e : budD d with
    | none => exact (show if (!false) = true then _ else _ from iteT ⟨_, rfl, q2 e⟩)
    | some a => exact (show if (!true) = true then _ else _ from iteF (q1 (by rw [e]; rfl)))
theorem strs_get {ls : List Str} {i : Nat} {v : V} (h : (ls.map V.str)[i]? = some v) : i < ls.length ∧ v = .str (ls.getD i default) := by
  rw [List.getElem?_map] at h
  cases e : ls[i]? with
  | none => rw [e] at h; cases h
  | some x =>
    rw [e] at h
    cases h
    exact ⟨(List.getElem?_eq_some_iff.mp e).1, by rw [List.getD_eq_getElem?_getD, e]; rfl⟩
theorem vsT_snoc {t : Tab} {i : Nat} (h : i < t.length) : (vsT t).take (i + 1) = (vsT t).take i ++ [tval t ((nsT t).getD i default)] := by
  have h1 : i < (vsT t).length := by rw [vsT_len]; exact h
  rw [List.take_add_one, List.getElem?_eq_getElem h1, ← vsT_at h, List.getD_eq_getElem?_getD, List.getElem?_eq_getElem h1]
  rfl
theorem tval_some {t : Tab} {n : Str} (h : n ∈ keysT t) : tget t n = some (tval t n) := by
  cases e : tget t n with
  | none => exact absurd h (tget_none.mp e)
  | some b => unfold tval; rw [e]; rfl
theorem tk_get {H : Hp} {d : Addr} {t : Tab} {n : Str} (hd : H d = some (.dK (tk t))) (h : n ∈ keysT t) : DGet H d (.str n) (some (.int (tval t n))) := by
  have := DGet.k (k := Sum.inr n) hd
  rw [tk_val, tval_some h] at this
  exact this
def sp_weak_names (K : PySem.W.Frag) (T : List (Addr × Str)) : Sp := fun vs H Q _ => ∃ (g : Int) (d : Addr) (t : Tab), vs = [.int g, .ref d] ∧ H d = some (.dK (tk t)) ∧ (keysT t).Nodup ∧ t.length ≤ 40 ∧ 1 ≤ g ∧ Tabs T H ∧
  (weakN g t = none → ∀ H', Kt T H H' → Q .non H') ∧ ∀ W, weakN g t = some W → ∀ u H', Kt T H H' → SqT K H' u (W.map V.str) → Q (.ref u) H'
theorem ok_weak_names {f : Addr} {fd : FuncData} {k : Nat} {T : List (Addr × Str)} (F : Fun K "weak_names" "weak_names" s_weak_names f fd) (m_sorted : mg "sorted" = none) (m_tuple : mg "tuple" = none)
    (C_weak_set : Cl P w K mg base CX0 5 "weak_set" 2 (sp_weak_set K T)) :
    FnG P w K mg base CX0 (k + 6) f fd ["budget", "balances"] (sp_weak_names K T) := by
  refine ok0 F sc_weak_names (fun vs H Q E h => ?_) (fun cdv A outer s H vs Q E gd hr h => ?_)
  · obtain ⟨g, d, t, rfl, _⟩ := h
    rfl
  · obtain ⟨g, d, t, rfl, hd, nd, hl, hg, hT, q0, q1⟩ := h
    refine ⟨_, (pss_cons (ps_set (i := 2) sc_weak_names.nd rfl (.inr rfl) (pe_callB (cr_srtDS rfl) (by rfl) m_sorted (by decide +kernel) (pa_cons (pv 1) pa_nil)))
      (pss_cons (ps_set (i := 3) sc_weak_names.nd rfl (.inl rfl) (pe_cl C_weak_set (hr.mono (by omega)) gd pass0 (by rfl) (pa_cons (pe_callTy (call_tupF (K := K) rfl) (by rfl) m_tuple (by decide +kernel) (pa_cons (pe_lcW (own := [("name", 4)]) (g := (gName 4)) rfl sc_weak_names.nd (pi_list (pv 2)) (blkOk_by (own := [("name", 4)]) (N := ["budget", "balances", "names", "senders", "name", "at"]) (sc := defScope s_weak_names) (by decide +kernel)) (fun _ _ _ _ _ => (pg_name (i := 4) sc_weak_names.nd rfl (.inl rfl))) (fun _ _ _ _ _ => pts_nil) (fun _ _ _ _ _ => (pe_dget (hu1 hr) (pv 1) (pv 4) (fun _ _ => rfl)))) pa_nil)) (pa_cons (pv 0) pa_nil))))
      (pss_one (ps_ret (pe_ifP (pt_cmpR op_isN (pv 3) pe_non (nomark _)) pe_non (pe_callTy (call_tupF (K := K) rfl) (by rfl) m_tuple (by decide +kernel) (pa_cons (pe_lcW (own := [("at", 5)]) (g := (gName 5)) rfl sc_weak_names.nd (pi_tup (pv 3)) (blkOk_by (own := [("at", 5)]) (N := ["budget", "balances", "names", "senders", "name", "at"]) (sc := defScope s_weak_names) (by decide +kernel)) (fun _ _ _ _ _ => (pg_name (i := 5) sc_weak_names.nd rfl (.inl rfl))) (fun _ _ _ _ _ => pts_nil) (fun _ _ _ _ _ => (pe_ix (ix_la (K := K) rfl) (pv 2) (pv 5) (fun _ _ => rfl)))) pa_nil))))))), ?_⟩
    have kl : (keysT t).length = t.length := List.length_map _
    refine ⟨_, rfl, d, tk t, keysT t, rfl, .inl hd, tk_keys t, by omega, fun ys pm so l H1 nl k1 h1 => ?_⟩
    obtain rfl := srtN_of pm so
    change H1 l = some (.lst ((nsT t).map V.str)) at h1
    have nl2 := nsT_len t
    refine ⟨_, rfl, l, rfl, ⟨_, sqL h1⟩, _, _, _, walk_list (xs := (nsT t).map V.str), small1000 (by rw [List.length_map]; omega), fun D H2 nD k2 hD => ?_⟩
    have nlD : l ≠ D := ne_of_none h1 nD
    have hd1 := k1.at0 hd
    refine ⟨fun i acc H3 => acc = ((vsT t).take i).map V.int ∧ Kp [] H H3 ∧ H3 l = some (.lst ((nsT t).map V.str)) ∧ H3 d = some (.dK (tk t)), ⟨rfl, k1.trans k2, k2.at0 h1, k2.at0 hd1⟩, fun _ _ _ _ ⟨_, _, z, _⟩ => sqL z, ?_, ?_⟩
    · rintro i acc x H3 _ hi ⟨ea, k3, hl3, hd3⟩ hD3 ⟨rfl, hx⟩
      obtain ⟨hi2, rfl⟩ := strs_get hx
      have hi3 : i < t.length := by omega
      refine ⟨rfl, yesT ?_⟩
      refine ⟨_, rfl, _, rfl, d, _, rfl, tk_get hd3 (ns_in hi3), hD3, fun H4 m4 h4 => ?_⟩
      refine ⟨?_, k3.md (.inl (k1.free0 nD)) m4, (m4 l nlD).trans hl3, m4.kp.at1 (ne_of hd3 hD3 fun z => nomatch z) hd3⟩
      rw [vsT_snoc hi3, List.map_append, ea]
      rfl
    rintro acc H3 _ hD3 ⟨ea, k3, hl3, hd3⟩
    rw [List.length_map, nl2, List.take_of_length_le (by rw [vsT_len]; exact Nat.le_refl _)] at ea
    subst ea
    refine ⟨D, _, rfl, sqL hD3, fun u H4 o nu k4 du hu => ?_⟩
    have k34 := k3.trans k4
    have hT4 : Tabs T H4 := hT.ext fun b o e => k34.at0 e
    have eg : gapOf g (vsT t) = gapOf g (valsT t) := gap_congr (vsT_perm nd)
    have vl := vsT_len t
    refine ⟨_, rfl, u, vsT t, g, rfl, sqF hu, by omega, by omega, hg, hT4, fun e5 H5 k5 => ?_, fun kk e5 t5 H5 W k5 h5 iw => ?_⟩
    · refine ⟨Q, ⟨_, rfl, rfl, _, rfl, ?_⟩, fun _ _ z => z⟩
      refine (show if decide (V.non = V.non) = true then _ else _ from ifYes rfl ?_)
      exact q0 (weakN_none.mpr (by rw [← eg]; exact e5)) H5 (k34.trans k5).kt
    · refine ⟨Q, ⟨_, rfl, rfl, _, rfl, ?_⟩, fun _ _ z => z⟩
      refine (show if decide (V.ref t5 = V.non) = true then _ else _ from ifNo (fun z => nomatch z) ?_)
      have kt5 : Kt T H H5 := k34.kt.trans k5
      have ew : weakN g t = some (W.map (nmAt t)) := by
        unfold weakN
        rw [← eg, e5, weak_nm nd iw]
        rfl
      have hin : ∀ i ∈ W, 0 ≤ i ∧ i < (t.length : Int) := fun i hi => by
        obtain ⟨_, ms, pm2, _, pW⟩ := iw
        rw [vsT_len] at pm2
        exact upto_mem.mp (pm2.mem_iff.mp (List.mem_of_mem_take (pW.mem_iff.mp hi)))
      have Wl : W.length ≤ t.length := by
        obtain ⟨_, ms, pm2, _, pW⟩ := iw
        have := pm2.length_eq
        rw [upto_len, vsT_len] at this
        have := pW.length_eq
        rw [List.length_take] at this
        omega
      have hl5 : H5 l = some (.lst ((nsT t).map V.str)) := k5.atL (k4.at0 hl3)
      refine ⟨_, rfl, t5, rfl, ⟨_, h5⟩, _, _, _, walk_ti (ns := W), small1000 (by omega), fun D2 H6 nD2 k6 hD2 => ?_⟩
      have nlD2 : l ≠ D2 := ne_of_none hl5 nD2
      refine ⟨fun i acc H7 => acc = ((W.take i).map (nmAt t)).map V.str ∧ Kt T H H7 ∧ SqT K H7 t5 (W.map V.int) ∧ H7 l = some (.lst ((nsT t).map V.str)), ⟨rfl, kt5.kp k6, k6.tup0 h5, k6.at0 hl5⟩, fun _ _ _ _ ⟨_, _, z, _⟩ => z, ?_, ?_⟩
      · rintro i acc x H7 _ hi ⟨ea, k7, ht7, hl7⟩ hD7 ⟨rfl, rfl⟩
        have hwi : W.getD i 0 ∈ W := by
          rw [List.getD_eq_getElem?_getD, List.getElem?_eq_getElem hi]
          exact List.getElem_mem hi
        obtain ⟨g1, g2⟩ := hin _ hwi
        refine ⟨rfl, yesT ?_⟩
        have hix : ((nsT t).map V.str)[(W.getD i 0).toNat]? = some (.str (nmAt t (W.getD i 0))) := by
          have : (W.getD i 0).toNat < (nsT t).length := by omega
          rw [List.getElem?_map, List.getElem?_eq_getElem this]
          unfold nmAt
          rw [List.getD_eq_getElem?_getD (l := nsT t), List.getElem?_eq_getElem this]
          rfl
        refine ⟨_, rfl, _, rfl, l, _, (W.getD i 0).toNat, _, rfl, by rw [show (((W.getD i 0).toNat : Nat) : Int) = W.getD i 0 by omega], sqL hl7, hix, hD7, fun H8 m8 h8 => ?_⟩
        refine ⟨?_, k7.own (kt5.nt0 nD2) hD7 m8.kp, m8.kp.tup1 hD7 ht7, (m8 l nlD2).trans hl7⟩
        rw [List.take_add_one, List.getElem?_eq_getElem hi, ea, List.getD_eq_getElem?_getD, List.getElem?_eq_getElem hi, List.map_append, List.map_append]
        rfl
      rintro acc H7 _ hD7 ⟨ea, k7, ht7, hl7⟩
      rw [List.take_of_length_le (Nat.le_refl _)] at ea
      subst ea
      refine ⟨D2, _, rfl, sqL hD7, fun u8 H8 o8 n8 k8 d8 h8 => ?_⟩
      exact q1 _ ew u8 H8 (k7.kp k8) (sqF h8)
/-! ### the defs of links, two -/
theorem tab_nil {t : Tab} (h : t.length = 0) : t = [] := List.length_eq_zero_iff.mp h
theorem poor_nil : poorN [] = none := by
  unfold poorN
  rw [ordP_nil]
  rfl
def optN : Option Str → V
  | none => .non
  | some n => .str n
def sp_poorest_name (K : PySem.W.Frag) (T : List (Addr × Str)) : Sp := fun vs H Q _ => ∃ (d : Addr) (t : Tab), vs = [.ref d] ∧ H d = some (.dK (tk t)) ∧ (keysT t).Nodup ∧ t.length ≤ 40 ∧ Tabs T H ∧ ∀ H', Kt T H H' → Q (optN (poorN t)) H'
theorem ok_poorest_name {f c pt : Addr} {fd : FuncData} {k : Nat} {T : List (Addr × Str)} (F : Fun K "poorest_name" "poorest_name" s_poorest_name f fd) (hcd : fd.code = .ref c) (TB : TabB base mg c pt) (hmT : (pt, qLam "poorest_name") ∈ T) (huT : ∀ r ∈ T, r.1 = pt → r.2 = qLam "poorest_name")
    (m_len : mg "len" = none) (m_min : mg "min" = none) (m_sorted : mg "sorted" = none) :
    FnG P w K mg base CX0 (k + 4) f fd ["balances"] (sp_poorest_name K T) := by
  refine okC F hcd sc_poorest_name (fun vs H Q E h => ?_) (fun A outer s H vs Q E gd hr h => ?_)
  · obtain ⟨d, t, rfl, _⟩ := h
    rfl
  · obtain ⟨d, t, rfl, hd, nd, hl, hT, q⟩ := h
    refine ⟨_, (pss_cons (ps_if (pt_cmpR op_eq (pe_callB call_lenD (by rfl) m_len (by decide +kernel) (pa_cons (pv 0) pa_nil)) pe_int (nomark _))
      (pss_one (ps_ret pe_non))
      pss_nil)
      (pss_one (ps_ret (pe_minK (K := K) (T := T) (k := 0) (i := 1) rfl TB rfl hmT huT (hr.mono (by omega)) (lam1_by (sc := defScope s_poorest_name) (by decide +kernel)) sc_poorest_name.nd rfl rfl (fun _ _ _ _ _ _ => rfl) (fun _ _ _ _ => (pe_dget (hu1 (hr.in1.deeper _)) (pv 0) (pv 1) (fun _ _ => rfl))) (by rfl) m_min (pa_cons (pe_callB (cr_srtDS rfl) (by rfl) m_sorted (by decide +kernel) (pa_cons (pv 0) pa_nil)) pa_nil))))), ?_⟩
    refine ⟨_, rfl, d, tk t, rfl, hd, rfl, _, rfl, ?_⟩
    rw [tk_len]
    by_cases h0 : t.length = 0
    · obtain rfl := tab_nil h0
      rw [poor_nil] at q
      exact ifYes rfl (q H Kt.refl)
    · refine ifNo (fun z => h0 (by have : ((t.length : Nat) : Int) = 0 := V.int.inj z; omega)) ?_
      have kl : (keysT t).length = t.length := List.length_map _
      refine ⟨_, rfl, d, tk t, keysT t, rfl, .inl hd, tk_keys t, by omega, fun ys pm so l H1 nl k1 h1 => ?_⟩
      obtain rfl := srtN_of pm so
      change H1 l = some (.lst ((nsT t).map V.str)) at h1
      have nl2 := nsT_len t
      have hd1 := k1.at0 hd
      refine ⟨l, _, rfl, sqL h1, by rw [List.length_map]; omega, (k1.kt (T := T)).tab hT, fun H2 k2 => ⟨fun j => (vsT t).getD j 0, fun j v hv H3 k3 => ?_, fun j v H3 hv hb k3 => ?_⟩⟩
      · obtain ⟨hj, rfl⟩ := strs_get hv
        have hj2 : j < t.length := by omega
        have hd3 := k3.at0 (k2.ext _ _ hd1 fun _ z => nomatch z)
        refine ⟨_, rfl, _, rfl, d, _, rfl, tk_get hd3 (ns_in hj2), Kp.refl, ?_⟩
        show V.int (tval t ((nsT t).getD j default)) = V.int ((vsT t).getD j 0)
        rw [vsT_at hj2]
      · obtain ⟨hj, rfl⟩ := strs_get hv
        have hj2 : j < t.length := by omega
        rw [List.length_map, nl2] at hb
        have vl := vsT_len t
        have fm : FirstMin (vsT t) j := by
          refine ⟨by omega, fun x hx => ?_, fun i hi => ?_⟩
          · obtain ⟨i, hi, e⟩ := List.getElem_of_mem hx
            have this : (vsT t).getD j 0 ≤ (vsT t).getD i 0 := (hb i (by omega)).1
            have e2 : (vsT t).getD i 0 = x := by rw [List.getD_eq_getElem?_getD, List.getElem?_eq_getElem hi, e]; rfl
            rw [e2] at this
            exact this
          · have this : (vsT t).getD j 0 < (vsT t).getD i 0 := (hb i (by omega)).2 hi
            intro z
            rw [z] at this
            omega
        have := q H3 ((k1.kt.trans k2).kp k3)
        rw [poor_first nd fm] at this
        exact this
theorem spend_two {N : Addr → Prop} {H : Hp} {x y : V} {dx dy : PyData} (hx : Db K N H x dx) (hy : Db K N H y dy) : (spendD (.tuple [dx, dy])).isSome = ((nameD dx).isSome && (isI y && (match dy with | .int a => decide (0 ≤ a) | _ => false))) := by
  cases hx <;> try rfl
  rename_i s
  cases hy with
  | int a =>
    rw [nameD_str]
    show (if isNm s = true ∧ 0 ≤ a then some (s, a) else none).isSome = (isNm s && (true && decide (0 ≤ a)))
    rw [Bool.true_and]
    by_cases h1 : isNm s = true
    · by_cases h2 : 0 ≤ a
      · rw [if_pos ⟨h1, h2⟩, h1, decide_eq_true h2]; rfl
      · rw [if_neg (fun z => h2 z.2), h1, decide_eq_false h2]; rfl
    · rw [if_neg (fun z => h1 z.1), show isNm s = false by simpa using h1]; rfl
  | _ => exact (Bool.and_false _).symm
theorem spend_not {ds : List PyData} (h : ds.length ≠ 2) : spendD (.tuple ds) = none := by
  match ds, h with
  | [], _ => rfl
  | [_], _ => cases ‹PyData› <;> rfl
  | [_, _], h => exact absurd rfl h
  | a :: b :: c :: r, _ => cases a <;> first | rfl | (cases b <;> rfl)
theorem two_of {N : Addr → Prop} {H : Hp} {ys : List V} {ds : List PyData} (h2 : ys.length = 2) (hA : DbAll K N H ys ds) : ∃ x y dx dy, ys = [x, y] ∧ ds = [dx, dy] ∧ Db K N H x dx ∧ Db K N H y dy := by
  cases hA with
  | nil => cases h2
  | cons hx hA =>
    cases hA with
    | nil => cases h2
    | cons hy hA =>
      cases hA with
      | nil => exact ⟨_, _, _, _, rfl, rfl, hx, hy⟩
      | cons _ _ => simp at h2
def sp_is_spend (K : PySem.W.Frag) : Sp := fun vs H Q _ => ∃ (v : V) (d : PyData) (N : Addr → Prop), vs = [v] ∧ Db K N H v d ∧ szD d ≤ 1000000 ∧ ∀ H', Kp [] H H' → Q (.bl (spendD d).isSome) H'
theorem ok_is_spend {f : Addr} {fd : FuncData} {k : Nat} (F : Fun K "is_spend" "is_spend" s_is_spend f fd) (m_isinstance : mg "isinstance" = none) (m_tuple : mg "tuple" = none) (m_len : mg "len" = none)
    (C_is_name : Cl P w K mg base CX0 1 "is_name" 1 (sp_is_name K)) (C_is_integer : Cl P w K mg base CX0 1 "is_integer" 1 (sp_is_integer K)) :
    FnG P w K mg base CX0 (k + 2) f fd ["thing"] (sp_is_spend K) := by
  refine ok0 F sc_is_spend (fun vs H Q E h => ?_) (fun cdv A outer s H vs Q E gd hr h => ?_)
  · obtain ⟨v, d, N, rfl, _⟩ := h
    rfl
  · obtain ⟨v, d, N, rfl, hD, hz, q⟩ := h
    refine ⟨_, (pss_cons (ps_if (PW.pt (pw_or (pt_not (pt_val (pe_callB (call_isiB (K := K) rfl) (by rfl) m_isinstance (by decide +kernel) (pa_cons (pv 0) (pa_cons (pe_bltn (v := .ty "tuple") (by rfl) m_tuple rfl rfl) pa_nil))))) (pw_or1 (pt_cmpR op_ne (pe_callB (call_len_seqK (K := K) rfl) (by rfl) m_len (by decide +kernel) (pa_cons (pv 0) pa_nil)) pe_int (nomark _)))))
      (pss_one (ps_ret pe_bl))
      pss_nil)
      (pss_cons (ps_asg (pv 0) (pg_tup rfl (pgs_cons (pg_name (i := 1) sc_is_spend.nd rfl (.inl rfl)) (pgs_cons (pg_name (i := 2) sc_is_spend.nd rfl (.inl rfl)) pgs_nil))))
      (pss_one (ps_ret (pe_and (pe_cl C_is_name (hr.mono (by omega)) gd pass0 (by rfl) (pa_cons (pv 1) pa_nil)) (pe_and (pe_cl C_is_integer (hr.mono (by omega)) gd pass0 (by rfl) (pa_cons (pv 2) pa_nil)) (pe_one (pe_cmpR op_ge (pv 2) pe_int (nomark _))))))))), ?_⟩
    refine ⟨_, rfl, _, _, _, _, rfl, hD.ty, kitT d, _, rfl, ?_⟩
    cases ht : isTD d with
    | false =>
      have e : (spendD d).isSome = false := by cases d <;> first | rfl | cases ht
      rw [e] at q
      exact (show if (!false) = true then _ else _ from iteT (q H Kp.refl))
    | true =>
      refine (show if (!true) = true then _ else _ from iteF ?_)
      obtain ⟨p, ys, ds, rfl, rfl, hp, hA⟩ : ∃ (p : Addr) (ys : List V) (ds : List PyData), v = .ref p ∧ d = .tuple ds ∧ SqT K H p ys ∧ DbAll K N H ys ds := by
        cases hD with
        | tup e a => exact ⟨_, _, _, rfl, rfl, e, a⟩
        | _ => cases ht
      have yl := hA.len
      refine ⟨_, rfl, p, _, rfl, .inr hp, rfl, _, rfl, ?_⟩
      by_cases h2 : ys.length = 2
      · refine (show if (!decide (V.int (ys.length : Int) = V.int 2)) = true then _ else _ from ?_)
        rw [h2, decide_eq_true (by rfl)]
        refine (show if (!true) = true then _ else _ from iteF ?_)
        obtain ⟨x, y, dx, dy, rfl, rfl, hx, hy⟩ := two_of h2 hA
        simp only [szD, szA] at hz
        refine ⟨_, rfl, p, _, rfl, hp, rfl, _, _, rfl, _, _, rfl, rfl, ?_⟩
        rw [spend_two hx hy] at q
        refine ⟨_, rfl, x, dx, N, rfl, hx, by omega, fun H1 k1 => ?_⟩
        cases e1 : (nameD dx).isSome with
        | false =>
          rw [e1, Bool.false_and] at q
          exact ⟨_, rfl, iteF (q H1 k1)⟩
        | true =>
          rw [e1, Bool.true_and] at q
          refine ⟨_, rfl, iteT ?_⟩
          have hy1 := hy.stay (k1.stay (N := N))
          refine ⟨_, rfl, y, rfl, hy1.kn, ?_⟩
          cases e2 : isI y with
          | false =>
            rw [e2, Bool.false_and] at q
            exact ⟨_, rfl, iteF (q H1 k1)⟩
          | true =>
            rw [e2, Bool.true_and] at q
            refine ⟨_, rfl, iteT ?_⟩
            cases hy1 with
            | int a => exact ⟨_, rfl, _, _, rfl, rfl, q H1 k1⟩
            | _ => cases e2
      · refine (show if (!decide (V.int (ys.length : Int) = V.int 2)) = true then _ else _ from ?_)
        rw [decide_eq_false (fun z => h2 (by have : ((ys.length : Nat) : Int) = 2 := V.int.inj z; omega))]
        refine (show if (!false) = true then _ else _ from iteT ?_)
        have e : (spendD (.tuple ds)).isSome = false := by rw [spend_not (by omega)]; rfl
        rw [e] at q
        exact q H Kp.refl
/-! ### the defs of links, three -/
theorem spendsL_all : ∀ ds : List PyData, (spendsL ds).isSome = ds.all fun d => (spendD d).isSome
  | [] => rfl
  | d :: r => by
    rw [List.all_cons, ← spendsL_all r]
    show ((spendD d).bind fun p => (spendsL r).map fun l => p :: l).isSome = _
    cases spendD d <;> cases spendsL r <;> rfl
inductive SpL (K : PySem.W.Frag) (H : Hp) : List V → List (Str × Int) → Prop
  | nil : SpL K H [] []
  | cons {a : Addr} {n : Str} {x : Int} {vs : List V} {l : List (Str × Int)} : SqT K H a [.str n, .int x] → isNm n = true → 0 ≤ x → SpL K H vs l → SpL K H (.ref a :: vs) ((n, x) :: l)
theorem SpL.kt {T : List (Addr × Str)} {H H' : Hp} (k : Kt T H H') : ∀ {vs : List V} {l : List (Str × Int)}, SpL K H vs l → SpL K H' vs l
  | _, _, .nil => .nil
  | _, _, .cons a b c d => .cons (k.tup0 a) b c (d.kt k)
theorem SpL.kp {H H' : Hp} (k : Kp [] H H') {vs : List V} {l : List (Str × Int)} (h : SpL K H vs l) : SpL K H' vs l := h.kt (T := []) k.kt
theorem SpL.len {H : Hp} : ∀ {vs : List V} {l : List (Str × Int)}, SpL K H vs l → vs.length = l.length
  | _, _, .nil => rfl
  | _, _, .cons _ _ _ d => by rw [List.length_cons, List.length_cons, d.len]
theorem SpL.get {H : Hp} : ∀ {vs : List V} {l : List (Str × Int)} {i : Nat} {v : V}, SpL K H vs l → vs[i]? = some v → ∃ a n x, v = .ref a ∧ SqT K H a [.str n, .int x] ∧ l[i]? = some (n, x)
  | _, _, _, _, .nil, e => by cases e
  | _, _, 0, _, .cons a _ _ _, e => by cases e; exact ⟨_, _, _, rfl, a, rfl⟩
  | _, _, i + 1, _, .cons _ _ _ d, e => d.get (i := i) e
theorem SpL.nm {H : Hp} : ∀ {vs : List V} {l : List (Str × Int)}, SpL K H vs l → ∀ p ∈ l, isNm p.1 = true ∧ 0 ≤ p.2
  | _, _, .nil, _, h => by cases h
  | _, _, .cons _ b c d, p, h => by
    rcases List.mem_cons.mp h with rfl | h
    · exact ⟨b, c⟩
    · exact d.nm p h
theorem spendD_tup {N : Addr → Prop} {H : Hp} {v : V} {d : PyData} {p : Str × Int} (h : Db K N H v d) (e : spendD d = some p) : ∃ a, v = .ref a ∧ SqT K H a [.str p.1, .int p.2] ∧ isNm p.1 = true ∧ 0 ≤ p.2 := by
  cases h with
  | tup sq al =>
    rename_i a ys ds
    by_cases h2 : ds.length = 2
    · obtain ⟨x, y, dx, dy, rfl, rfl, hx, hy⟩ := two_of (al.len.trans h2) al
      cases hx with
      | str n =>
        cases hy with
        | int i =>
          replace e : (if isNm n = true ∧ 0 ≤ i then some (n, i) else none) = some p := e
          by_cases c : isNm n = true ∧ 0 ≤ i
          · rw [if_pos c] at e
            cases e
            exact ⟨_, rfl, sq, c.1, c.2⟩
          · rw [if_neg c] at e
            cases e
        | _ => cases e
      | _ => cases e
    · rw [spend_not h2] at e
      cases e
  | _ => cases e
theorem spends_parts {N : Addr → Prop} {H : Hp} : ∀ {ys : List V} {ds : List PyData} {l : List (Str × Int)}, DbAll K N H ys ds → spendsL ds = some l → SpL K H ys l
  | _, _, _, .nil, e => by cases e; exact .nil
  | _, _, l, .cons (d := d) (ds := ds) h t, e => by
    replace e : ((spendD d).bind fun p => (spendsL ds).map fun l => p :: l) = some l := e
    cases e1 : spendD d with
    | none => rw [e1] at e; cases e
    | some p =>
      cases e2 : spendsL ds with
      | none => rw [e1, e2] at e; cases e
      | some r =>
        rw [e1, e2] at e
        cases e
        obtain ⟨a, rfl, sq, hn, hx⟩ := spendD_tup h e1
        exact .cons sq hn hx (spends_parts t e2)
def nmL (l : List (Str × Int)) (i : Nat) : Str := (l.getD i default).1
theorem asc_range : ∀ l : List (Str × Int), (((List.range (l.length - 1)).map fun j => !leS (nmL l (j + 1)) (nmL l j)).all id) = ascN l
  | [] => rfl
  | [_] => rfl
  | p :: q :: r => by
    have ih := asc_range (q :: r)
    rw [show (p :: q :: r).length - 1 = ((q :: r).length - 1) + 1 by simp, List.range_succ_eq_map, List.map_cons, List.all_cons, List.map_map]
    show (!leS q.1 p.1 && _) = (!leS q.1 p.1 && ascN (q :: r))
    rw [← ih]
    rfl
def sp_is_spends (K : PySem.W.Frag) : Sp := fun vs H Q _ => ∃ (v : V) (d : PyData) (N : Addr → Prop), vs = [v] ∧ Db K N H v d ∧ szD d ≤ 1000000 ∧ ∀ H', Kp [] H H' → Q (.bl (spendsD d).isSome) H'
theorem ok_is_spends {f : Addr} {fd : FuncData} {k : Nat} (F : Fun K "is_spends" "is_spends" s_is_spends f fd) (m_isinstance : mg "isinstance" = none) (m_tuple : mg "tuple" = none) (m_all : mg "all" = none) (m_zip : mg "zip" = none)
    (C_is_spend : Cl P w K mg base CX0 2 "is_spend" 1 (sp_is_spend K)) :
    FnG P w K mg base CX0 (k + 3) f fd ["thing"] (sp_is_spends K) := by
  refine ok0 F sc_is_spends (fun vs H Q E h => ?_) (fun cdv A outer s H vs Q E gd hr h => ?_)
  · obtain ⟨v, d, N, rfl, _⟩ := h
    rfl
  · obtain ⟨v, d, N, rfl, hD, hz, q⟩ := h
    refine ⟨_, (pss_cons (ps_if (PW.pt (pw_or (pt_not (pt_val (pe_callB (call_isiB (K := K) rfl) (by rfl) m_isinstance (by decide +kernel) (pa_cons (pv 0) (pa_cons (pe_bltn (v := .ty "tuple") (by rfl) m_tuple rfl rfl) pa_nil))))) (pw_or1 (pt_not (pt_val (pe_callB (cr_allK (K := K) rfl rfl) (by rfl) m_all (by decide +kernel) (pa_cons (pe_lcW (own := [("part", 6)]) (g := (gName 6)) rfl sc_is_spends.nd (pi_tup (pv 0)) (blkOk_by (own := [("part", 6)]) (N := ["thing", "names", "name", "amount", "low", "high", "part"]) (sc := defScope s_is_spends) (by decide +kernel)) (fun _ _ _ _ _ => (pg_name (i := 6) sc_is_spends.nd rfl (.inl rfl))) (fun _ _ _ _ _ => pts_nil) (fun _ _ _ _ _ => (pe_cl C_is_spend (hr.mono (by omega)) gd pass0 (by rfl) (pa_cons (pv 6) pa_nil)))) pa_nil)))))))
      (pss_one (ps_ret pe_bl))
      pss_nil)
      (pss_cons (ps_setLcW (i := 1) (own := [("name", 2), ("amount", 3)]) (g := (gTup K 2 (gCons (gName 2) (gCons (gName 3) gNil)))) rfl sc_is_spends.nd rfl rfl (sw_true rfl rfl rfl (by decide +kernel)) (pi_tup (pv 0)) (blkOk_by (own := [("name", 2), ("amount", 3)]) (N := ["thing", "names", "name", "amount", "low", "high", "part"]) (sc := defScope s_is_spends) (by decide +kernel)) (fun _ _ _ _ _ => (pg_tup rfl (pgs_cons (pg_name (i := 2) sc_is_spends.nd rfl (.inl rfl)) (pgs_cons (pg_name (i := 3) sc_is_spends.nd rfl (.inl rfl)) pgs_nil)))) (fun _ _ _ _ _ => pts_nil) (fun _ _ _ _ _ => (pv 2)))
      (pss_one (ps_ret (pe_callB (cr_allK (K := K) rfl rfl) (by rfl) m_all (by decide +kernel) (pa_cons (pe_lcW (own := [("low", 4), ("high", 5)]) (g := (gTup K 2 (gCons (gName 4) (gCons (gName 5) gNil)))) rfl sc_is_spends.nd (pi_zip (by rfl) m_zip (pa_cons (pv 1) (pa_cons (pe_slice (sl_laFrom (K := K) rfl) (pv 1) (po_some pe_int) po_none) pa_nil))) (blkOk_by (own := [("low", 4), ("high", 5)]) (N := ["thing", "names", "name", "amount", "low", "high", "part"]) (sc := defScope s_is_spends) (by decide +kernel)) (fun _ _ _ _ _ => (pg_tup rfl (pgs_cons (pg_name (i := 4) sc_is_spends.nd rfl (.inl rfl)) (pgs_cons (pg_name (i := 5) sc_is_spends.nd rfl (.inl rfl)) pgs_nil)))) (fun _ _ _ _ _ => pts_nil) (fun _ _ _ _ _ => (pe_cmpR op_lt_str (pv 4) (pv 5) (nomark _)))) pa_nil)))))), ?_⟩
    refine ⟨_, rfl, _, _, _, _, rfl, hD.ty, kitT d, _, rfl, ?_⟩
    cases ht : isTD d with
    | false =>
      have e : (spendsD d).isSome = false := by cases d <;> first | rfl | cases ht
      rw [e] at q
      exact (show if (!false) = true then _ else _ from iteT (q H Kp.refl))
    | true =>
      refine (show if (!true) = true then _ else _ from iteF ?_)
      obtain ⟨p, ys, ds, rfl, rfl, hp, hA⟩ : ∃ (p : Addr) (ys : List V) (ds : List PyData), v = .ref p ∧ d = .tuple ds ∧ SqT K H p ys ∧ DbAll K N H ys ds := by
        cases hD with
        | tup e a => exact ⟨_, _, _, rfl, rfl, e, a⟩
        | _ => cases ht
      have yl := hA.len
      simp only [szD] at hz
      have sl := szA_len ds
      have dsl : ds.length ≤ 1000000 := by omega
      refine ⟨_, rfl, p, rfl, ⟨_, hp⟩, _, _, _, walk_tup (xs := ys), Nat.lt_of_le_of_lt (by rw [yl]; exact dsl) (by rw [sizeLine_eq]; decide), fun D H1 nD k1 hD1 => ?_⟩
      refine ⟨fun i acc H2 => acc = ((List.range i).map fun j => (spendD (ds.getD j .none)).isSome).map V.bl ∧ Kp [] H H2 ∧ SqT K H2 p ys, ⟨rfl, k1, k1.tup0 hp⟩, fun _ _ _ _ ⟨_, _, z⟩ => z, ?_, ?_⟩
      · rintro i acc x _ H2 hi ⟨ea, k2, hp2⟩ hD2 ⟨rfl, hx⟩
        have dx := (getD_db hA hx).stay (k2.stay (N := N))
        refine ⟨rfl, yesT ?_⟩
        have hi2 : i < ds.length := by omega
        have hm : ds.getD i .none ∈ ds := by
          rw [List.getD_eq_getElem?_getD, List.getElem?_eq_getElem hi2]
          exact List.getElem_mem hi2
        refine ⟨_, rfl, x, _, N, rfl, dx, Nat.le_trans (szA_mem hm) (by omega), fun H3 k3 => ⟨k3.at0 hD2, fun H4 m4 h4 => ?_⟩⟩
        refine ⟨?_, (k2.trans k3).md (.inl nD) m4, m4.kp.tup1 (k3.at0 hD2) (k3.tup0 hp2)⟩
        exact bl_snoc (f := fun d => (spendD d).isSome) ea
      rintro acc H2 _ hD2 ⟨ea, k2, hp2⟩
      subst ea
      refine ⟨D, _, rfl, sqL hD2, ?_⟩
      rw [all_range (f := fun d => (spendD d).isSome) _ yl, ← spendsL_all]
      refine ⟨_, rfl, ?_⟩
      have q : ∀ H', Kp [] H H' → Q (.bl ((spendsL ds).bind fun l => if ascN l = true then some l else none).isSome) H' := q
      cases el : spendsL ds with
      | none =>
        rw [el] at q
        exact (show if (!false) = true then _ else _ from iteT (q H2 k2))
      | some l =>
        rw [el] at q
        refine (show if (!true) = true then _ else _ from iteF ?_)
        have sp := spends_parts hA el
        have ll := sp.len
        have lz : l.length < sizeLine := Nat.lt_of_le_of_lt (show l.length ≤ 1000000 by omega) (by rw [sizeLine_eq]; decide)
        refine ⟨_, rfl, p, rfl, ⟨_, hp2⟩, _, _, _, walk_tup (xs := ys), by rw [ll]; exact lz, fun M H3 nM k3 hM => ?_⟩
        refine ⟨fun i acc H4 => acc = ((List.range i).map (nmL l)).map V.str ∧ Kp [] H H4 ∧ SqT K H4 p ys, ⟨rfl, k2.trans k3, k3.tup0 hp2⟩, fun _ _ _ _ ⟨_, _, z⟩ => z, ?_, ?_⟩
        · rintro i acc x _ H4 hi ⟨ea, k4, hp4⟩ hM4 ⟨rfl, hx⟩
          obtain ⟨a, n, z, rfl, sq, hl⟩ := (sp.kp k4).get hx
          refine ⟨a, _, rfl, sq, rfl, _, _, rfl, _, _, rfl, rfl, rfl, yesT ?_⟩
          refine ⟨_, rfl, hM4, fun H5 m5 h5 => ?_⟩
          refine ⟨?_, k4.md (.inl (k2.free0 nM)) m5, m5.kp.tup1 hM4 hp4⟩
          have : nmL l i = n := by unfold nmL; rw [List.getD_eq_getElem?_getD, hl]; rfl
          rw [List.range_succ, List.map_append, List.map_append, ea, ← this]
          rfl
        rintro acc H4 _ hM4 ⟨ea, k4, hp4⟩
        rw [ll] at ea
        subst ea
        refine ⟨_, rfl, _, rfl, 1, rfl, M, _, 1, rfl, rfl, rfl, sqL hM4, by decide, fun M2 H5 nM2 k5 h5 => ?_⟩
        have hM5 := k5.at0 hM4
        refine ⟨M, M2, _, _, rfl, sqL hM5, sqL h5, _, _, _, walk_zip (n := l.length - 1) (xs := ((List.range l.length).map (nmL l)).map V.str) (ys := (((List.range l.length).map (nmL l)).map V.str).drop ((1 : Int)).toNat) (by rw [List.length_drop, List.length_map, List.length_map, List.length_range]; show l.length - 1 = min l.length (l.length - 1); omega), by omega, fun D3 H6 nD3 k6 hD3 => ?_⟩
        refine ⟨fun i acc H7 => acc = ((List.range i).map fun j => !leS (nmL l (j + 1)) (nmL l j)).map V.bl ∧ Kp [] H H7 ∧ SqL K H7 M (((List.range l.length).map (nmL l)).map V.str) ∧ SqL K H7 M2 ((((List.range l.length).map (nmL l)).map V.str).drop ((1 : Int)).toNat), ⟨rfl, (k4.trans k5).trans k6, sqL (k6.at0 hM5), sqL (k6.at0 h5)⟩, fun _ _ _ _ ⟨_, _, a, b⟩ => ⟨a, b⟩, ?_, ?_⟩
        · rintro i acc x H7 H8 hi ⟨ea, k7, a7, b7⟩ hD7 ⟨U, y, z, rfl, nU, rfl, hy, hz⟩
          have kU : Kp [] H7 (upd H7 U (.tup [y, z])) := Kp.new nU
          have hD8 := kU.at0 hD7
          have hy : (((List.range l.length).map (nmL l)).map V.str)[i]? = some y := hy
          have hz : ((((List.range l.length).map (nmL l)).map V.str).drop ((1 : Int)).toNat)[i]? = some z := hz
          have hy' : y = .str (nmL l i) := by
            rw [List.getElem?_map, List.getElem?_map, List.getElem?_range (by omega)] at hy
            cases hy
            rfl
          have hz' : z = .str (nmL l (i + 1)) := by
            rw [List.getElem?_drop, List.getElem?_map, List.getElem?_map, show ((1 : Int)).toNat + i = i + 1 by simp [Nat.add_comm], List.getElem?_range (by omega)] at hz
            cases hz
            rfl
          subst hy' hz'
          refine ⟨U, _, rfl, sqT upd_same, rfl, _, _, rfl, _, _, rfl, rfl, rfl, yesT ?_⟩
          refine ⟨_, rfl, _, rfl, _, _, rfl, rfl, hD8, fun H9 m9 h9 => ?_⟩
          refine ⟨?_, (k7.trans kU).md (.inl (((k4.trans k5)).free0 nD3)) m9, m9.kp.lst1 (fun z => ?_) (kU.lst0 a7), m9.kp.lst1 (fun z => ?_) (kU.lst0 b7)⟩
          · rw [List.range_succ, List.map_append, List.map_append, ea]
            have : decide ((nmL l i).cps.toList < (nmL l (i + 1)).cps.toList) = !leS (nmL l (i + 1)) (nmL l i) := by rw [← ltCps_eq, ltCps_leS]
            rw [this]
            rfl
          · rw [z] at hM5
            rw [hM5] at nD3
            cases nD3
          · rw [z] at h5
            rw [h5] at nD3
            cases nD3
        rintro acc H7 _ hD7 ⟨ea, k7, a7, b7⟩
        subst ea
        refine ⟨D3, _, rfl, sqL hD7, ?_⟩
        rw [asc_range]
        have := q H7 k7
        cases ha : ascN l with
        | false =>
          replace this : Q (.bl (if ascN l = true then some l else none).isSome) H7 := this
          rw [ha] at this
          exact this
        | true =>
          replace this : Q (.bl (if ascN l = true then some l else none).isSome) H7 := this
          rw [ha] at this
          exact this
/-! ### the defs of links, four -/
theorem no_attr {b : Int} {d q : Addr} {m : Str} (h1 : ¬ m = "budget" := by decide +kernel) (h2 : ¬ m = "balances" := by decide +kernel) (h3 : ¬ m = "past" := by decide +kernel) : (lkF b d q).lookup m = none := lkF_no b d q h1 h2 h3
def sp_Link_keep (C : Addr) (T : List (Addr × Str)) : Sp := fun vs H Q _ => ∃ (p q : Addr) (s : LkS) (g : Int) (d : Addr) (t : Tab), vs = [.ref p, .int g, .ref d] ∧ LkAt C H p q s ∧ H d = some (.dK (tk t)) ∧ s.past.length ≤ 10000 ∧
  ∀ H', Ks T (Two p q) H H' → LkAt C H' p q ⟨g, t, s.past ++ [(s.b, s.t)]⟩ → Q .non H'
theorem ok_Link_keep {f C : Addr} {fd : FuncData} {k : Nat} {T : List (Addr × Str)} (F : Fun K "keep" "Link.keep" s_Link_keep f fd) (LC : LinkC K C) :
    FnG P w K mg base CX0 (k + 1) f fd ["self", "budget", "balances"] (sp_Link_keep C T) := by
  refine ok0 F sc_Link_keep (fun vs H Q E h => ?_) (fun cdv A outer s H vs Q E gd hr h => ?_)
  · obtain ⟨p, q, s, g, d, t, rfl, _⟩ := h
    rfl
  · obtain ⟨p, q, s, g, d, t, rfl, L, hd, pl, w⟩ := h
    have npq := L.ne
    obtain ⟨⟨dx, d0, h1, h2⟩, ps, h3, h4⟩ := id L
    have psl := h4.len
    refine ⟨_, (pss_cons (ps_expr (pe_bm PySem.F.plainAttrs_list PySem.F.slot_list_append PySem.F.type_list_append mt_app (pe_fld (pv 0) rfl) (pa_cons (pe_ta (pa_cons (pe_fld (pv 0) rfl) (pa_cons (pe_fld (pv 0) rfl) pa_nil))) pa_nil)))
      (pss_cons (ps_fld (pv 0) (pv 1) rfl)
      (pss_one (ps_fld (pv 0) (pv 2) rfl)))), ?_⟩
    refine ⟨_, rfl, p, C, dx, _, _, rfl, h1, LC.cls, LC.nq, lkF_q _ _ _, .inl ⟨rfl, _, sqL h3⟩, ?_⟩
    refine ⟨_, rfl, p, C, dx, _, _, rfl, h1, LC.cls, LC.nb, lkF_b _ _ _, _, rfl, p, C, dx, _, _, rfl, h1, LC.cls, LC.nd, lkF_d _ _ _, Nat.le_of_ble_eq_true rfl, fun u H1 nu k1 hu => ?_⟩
    have h31 := k1.at0 h3
    refine ⟨q, ps, _, rfl, rfl, h31, by rw [sizeLine_eq]; omega, fun H2 m2 hq2 => ?_⟩
    have h12 := (m2 p npq).trans (k1.at0 h1)
    refine ⟨_, rfl, _, rfl, p, C, dx, _, rfl, h12, LC.cls, LC.nb, by show 3 < 1000; decide, ?_⟩
    refine ⟨_, rfl, _, rfl, p, C, dx, _, rfl, upd_same, LC.cls, LC.nd, by rw [lkF_putB]; show 3 < 1000; decide, ?_⟩
    rw [lkF_putB, lkF_putD]
    have kk : Ks T (Two p q) H H2 := (Ks.of k1.kt).md h31 m2.kp (.inl (.inr rfl))
    refine w _ ((kk.putI h12 (.inl (.inl rfl))).putI upd_same (.inl (.inl rfl))) ?_
    have tup : ∀ a xs, H1 a = some (.tup xs) → (upd (upd H2 p (.ins C dx (lkF g d0 q))) p (.ins C dx (lkF g d q))) a = some (.tup xs) := fun a xs e => by
      have n1 : a ≠ p := ne_of e (k1.at0 h1) fun z => nomatch z
      have n2 : a ≠ q := ne_of e h31 fun z => nomatch z
      rw [upd_ne n1, upd_ne n1, m2 a n2]
      exact e
    have dic : ∀ a kvs, H1 a = some (.dK kvs) → (upd (upd H2 p (.ins C dx (lkF g d0 q))) p (.ins C dx (lkF g d q))) a = some (.dK kvs) := fun a xs e => by
      have n1 : a ≠ p := ne_of e (k1.at0 h1) fun z => nomatch z
      have n2 : a ≠ q := ne_of e h31 fun z => nomatch z
      rw [upd_ne n1, upd_ne n1, m2 a n2]
      exact e
    refine ⟨⟨dx, d, upd_same, dic _ _ (k1.at0 hd)⟩, ps ++ [.ref u], ?_, ?_⟩
    · rw [upd_ne npq.symm, upd_ne npq.symm]
      exact hq2
    · exact ((h4.keep (fun p xs e => k1.at0 e) (fun p t e => k1.at0 e)).snoc hu (k1.at0 h2)).keep tup (fun a t => dic a _)
def sp_Link_change (K : PySem.W.Frag) (C : Addr) (T : List (Addr × Str)) (X : LkX) : Sp := fun vs H Q E => ∃ (p q : Addr) (s : LkS) (g : Int) (d : Addr) (t : Tab), vs = [.ref p, .int g, .ref d] ∧ LkAt C H p q s ∧ H d = some (.dK (tk t)) ∧ (keysT t).Nodup ∧ t.length ≤ 40 ∧ 1 ≤ g ∧ Tabs T H ∧ s.past.length ≤ 10000 ∧
  (∀ W, weakN g t = some W → ∀ u e H', Kt T H H' → SqT K H' u (W.map V.str) → H' e = none → E (.ref X.refused) (some e) (upd H' e (.xd [("value", .ref u)]))) ∧
  (weakN g t = none → ∀ H', Ks T (Two p q) H H' → LkAt C H' p q ⟨g, t, s.past ++ [(s.b, s.t)]⟩ → Q .non H')
theorem ok_Link_change {f C : Addr} {fd : FuncData} {k : Nat} {T : List (Addr × Str)} {X : LkX} (F : Fun K "change" "Link.change" s_Link_change f fd) (LC : LinkC K C) (t_Refused : Told P w K mg base "Refused" X.refused)
    (C_weak_names : Cl P w K mg base CX0 6 "weak_names" 2 (sp_weak_names K T)) (M_keep : ClM P w K mg base CX0 1 C "keep" (sp_Link_keep C T)) :
    FnG P w K mg base (L2.CX P w) (k + 7) f fd ["self", "budget", "balances"] (sp_Link_change K C T X) := by
  obtain ⟨_, _, V_Refused, F_Refused⟩ := t_Refused
  refine okX F sc_Link_change (fun vs H Q E h => ?_) (fun cdv A outer s H vs Q E gd hr h => ?_)
  · obtain ⟨p, q, s, g, d, t, rfl, _⟩ := h
    rfl
  · obtain ⟨p, q, s, g, d, t, rfl, L, hd, nd, hl, hg, hT, pl, w1, w2⟩ := h
    have hr2 := hr.mono (show 1 + 1 ≤ k + 6 by omega)
    refine ⟨_, (pss_cons (ps_set (i := 3) sc_Link_change.nd rfl (.inl rfl) (pe_cl C_weak_names (hr.mono (by omega)) gd pass0 (by rfl) (pa_cons (pv 1) (pa_cons (pv 2) pa_nil))))
      (pss_cons (ps_if (pt_cmpR op_notN (pv 3) pe_non (nomark _))
      (pss_one (ps_raise rfl (takes_of rfl rfl rfl rfl) (pmk_value V_Refused F_Refused hr2 (by rfl) (pv 3))))
      pss_nil)
      (pss_one (ps_expr (pe_clM (E := fun _ _ _ _ => False) LC.cls M_keep (hr.mono (by omega)) gd passG (pv 0) (pa_cons (pv 1) (pa_cons (pv 2) pa_nil))))))), ?_⟩
    refine ⟨_, rfl, _, rfl, g, d, t, rfl, hd, nd, hl, hg, hT, fun e H1 k1 => ?_, fun W e u H1 k1 hu => ?_⟩
    · refine ⟨_, rfl, rfl, _, rfl, ?_⟩
      refine (show if (!decide (V.non = V.non)) = true then _ else _ from iteNS rfl ?_)
      have L1 := L.kt k1
      obtain ⟨⟨dx, d0, h1, h2⟩, _⟩ := id L1
      refine ⟨_, rfl, p, dx, _, rfl, h1, no_attr, _, rfl, _, rfl, p, q, s, g, d, t, rfl, L1, k1.ext _ _ hd (fun _ z => nomatch z), pl, fun H2 k2 L2 => ?_⟩
      exact w2 e H2 ((Ks.of k1).trans k2) L2
    · refine ⟨_, rfl, rfl, _, rfl, ?_⟩
      refine (show if (!decide (V.ref u = V.non)) = true then _ else _ from ?_)
      rw [decide_eq_false (fun z => nomatch z)]
      refine (show if (!false) = true then _ else _ from iteT ?_)
      exact ⟨_, rfl, fun e2 he => w1 W e u e2 H1 k1 hu he⟩
def sp_Link_require_known (K : PySem.W.Frag) (C : Addr) (X : LkX) : Sp := fun vs H Q E => ∃ (p q : Addr) (s : LkS) (v : V) (d : PyData) (N : Addr → Prop), vs = [.ref p, v] ∧ LkAt C H p q s ∧ Db K N H v d ∧ szD d ≤ 1000000 ∧
  (∀ n, knownD s.t d = some n → ∀ H', Kp [] H H' → Q .non H') ∧ (knownD s.t d = none → ∀ e H', Kp [] H H' → H' e = none → E (.ref X.unknown) (some e) (upd H' e (.xd [("value", v)])))
theorem nameD_some {N : Addr → Prop} {H : Hp} {v : V} {d : PyData} (h : Db K N H v d) (e : (nameD d).isSome = true) : ∃ n, v = .str n ∧ d = .str n ∧ isNm n = true ∧ nameD d = some n := by
  cases h with
  | str n =>
    rw [nameD_str] at e
    exact ⟨n, rfl, rfl, e, if_pos e⟩
  | _ => cases e
theorem ok_Link_require_known {f C : Addr} {fd : FuncData} {k : Nat} {X : LkX} (F : Fun K "require_known" "Link.require_known" s_Link_require_known f fd) (LC : LinkC K C) (t_UnknownName : Told P w K mg base "UnknownName" X.unknown)
    (C_is_name : Cl P w K mg base CX0 1 "is_name" 1 (sp_is_name K)) :
    FnG P w K mg base (L2.CX P w) (k + 3) f fd ["self", "name"] (sp_Link_require_known K C X) := by
  obtain ⟨_, _, V_UnknownName, F_UnknownName⟩ := t_UnknownName
  refine okX F sc_Link_require_known (fun vs H Q E h => ?_) (fun cdv A outer s H vs Q E gd hr h => ?_)
  · obtain ⟨p, q, s, v, d, N, rfl, _⟩ := h
    rfl
  · obtain ⟨p, q, s, v, d, N, rfl, L, hD, hz, w1, w2⟩ := h
    have hr2 := hr.mono (show 1 + 1 ≤ k + 2 by omega)
    refine ⟨_, (pss_one (ps_if (PW.pt (pw_or (pt_not (pt_val (pe_cl C_is_name (hr.mono (by omega)) gd pass0 (by rfl) (pa_cons (pv 1) pa_nil)))) (pw_or1 (pt_cmp (pc_dnotin (hu1 hr) (pv 1) (pe_fld (pv 0) rfl))))))
      (pss_one (ps_raise rfl (takes_of rfl rfl rfl rfl) (pmk_value V_UnknownName F_UnknownName hr2 (by rfl) (pv 1))))
      pss_nil)), ?_⟩
    refine ⟨_, rfl, v, d, N, rfl, hD, hz, fun H1 k1 => ?_⟩
    refine ⟨_, rfl, ?_⟩
    cases e : (nameD d).isSome with
    | false =>
      have ek : knownD s.t d = none := by
        unfold knownD
        rw [Option.isSome_eq_false_iff.mp e |> Option.isNone_iff_eq_none.mp]
        rfl
      refine (show if (!false) = true then _ else _ from iteT ?_)
      exact ⟨_, rfl, fun e2 he => w2 ek e2 H1 k1 he⟩
    | true =>
      refine (show if (!true) = true then _ else _ from iteF ?_)
      obtain ⟨n, rfl, rfl, hn, en⟩ := nameD_some hD e
      obtain ⟨⟨dx, d0, h1, h2⟩, _⟩ := id (L.kp k1)
      refine ⟨_, rfl, _, rfl, p, C, dx, _, _, rfl, h1, LC.cls, LC.nd, lkF_d _ _ _, d0, _, rfl, DGet.k (k := Sum.inr n) h2, _, rfl, ?_⟩
      rw [tk_val]
      by_cases hk : n ∈ keysT s.t
      · have ek : knownD s.t (.str n) = some n := by
          unfold knownD
          rw [en]
          exact if_pos hk
        rw [tval_some hk]
        exact (show if (!true) = true then _ else _ from iteF (w1 n ek H1 k1))
      · have ek : knownD s.t (.str n) = none := by
          unfold knownD
          rw [en]
          exact if_neg hk
        rw [tget_none.mpr hk]
        refine (show if (!false) = true then _ else _ from iteT ?_)
        exact ⟨_, rfl, fun e2 he => w2 ek e2 H1 k1 he⟩
def sp_Link___init__ (K : PySem.W.Frag) (C : Addr) (X : LkX) : Sp := fun vs H Q E => ∃ (p dx : Addr) (v : V) (d : PyData) (N : Addr → Prop), vs = [.ref p, v] ∧ H p = some (.ins C dx []) ∧ Db K N H v d ∧
  (budD d = none → ∀ e, H e = none → E (.ref X.budget) (some e) (upd H e (.xd [("value", v)]))) ∧
  ∀ g, budD d = some g → ∀ q H', H q = none → (∀ b o, H b = some o → b ≠ p → H' b = some o) → LkAt C H' p q ⟨g, [], []⟩ → Q .non H'
theorem budD_some {N : Addr → Prop} {H : Hp} {v : V} {d : PyData} {g : Int} (h : Db K N H v d) (e : budD d = some g) : v = .int g ∧ d = .int g ∧ 1 ≤ g ∧ g ≤ 1000000 := by
  cases h with
  | int i =>
    replace e : (if 1 ≤ i ∧ i ≤ 1000000 then some i else none) = some g := e
    by_cases c : 1 ≤ i ∧ i ≤ 1000000
    · rw [if_pos c] at e
      cases e
      exact ⟨rfl, rfl, c⟩
    · rw [if_neg c] at e
      cases e
  | _ => cases e
theorem amtD_some {N : Addr → Prop} {H : Hp} {v : V} {d : PyData} {g : Int} (h : Db K N H v d) (e : amtD d = some g) : v = .int g ∧ d = .int g ∧ 0 ≤ g ∧ g ≤ 1000000000000 := by
  cases h with
  | int i =>
    replace e : (if 0 ≤ i ∧ i ≤ 1000000000000 then some i else none) = some g := e
    by_cases c : 0 ≤ i ∧ i ≤ 1000000000000
    · rw [if_pos c] at e
      cases e
      exact ⟨rfl, rfl, c⟩
    · rw [if_neg c] at e
      cases e
  | _ => cases e
theorem ok_Link___init__ {f C : Addr} {fd : FuncData} {k : Nat} {X : LkX} (F : Fun K "__init__" "Link.__init__" s_Link___init__ f fd) (LC : LinkC K C)
    (C_require_budget : Cl P w K mg base (L2.CX P w) 4 "require_budget" 1 (sp_require_budget K X)) :
    FnG P w K mg base (L2.CX P w) (k + 5) f fd ["self", "budget"] (sp_Link___init__ K C X) := by
  refine okX F sc_Link___init__ (fun vs H Q E h => ?_) (fun cdv A outer s H vs Q E gd hr h => ?_)
  · obtain ⟨p, dx, v, d, N, rfl, _⟩ := h
    rfl
  · obtain ⟨p, dx, v, d, N, rfl, hp, hD, w1, w2⟩ := h
    refine ⟨_, (pss_cons (ps_expr (pe_clS (E := fun _ => E) C_require_budget (hr.mono (by omega)) gd (fun σ => passAt (W := fun cls d _ H => E cls d H) (takes_of rfl rfl rfl rfl) σ) (by rfl) (pa_cons (pv 1) pa_nil)))
      (pss_cons (ps_fld (pv 0) (pv 1) rfl)
      (pss_cons (ps_fld (pv 0) pe_dnewK rfl)
      (pss_one (ps_fld (pv 0) (pe_li pa_nil) rfl))))), ?_⟩
    refine ⟨_, rfl, v, d, N, rfl, hD, fun e => ?_, w1⟩
    obtain ⟨g, eg⟩ := Option.isSome_iff_exists.mp e
    obtain ⟨rfl, rfl, _⟩ := budD_some hD eg
    refine ⟨_, rfl, _, rfl, p, C, dx, _, rfl, hp, LC.cls, LC.nb, by show 0 < 1000; decide, fun d0 hd0 => ?_⟩
    have npd : p ≠ d0 := ne_of_none (o := .ins C dx (putF "budget" (.int g) [])) upd_same hd0
    have hd0' : H d0 = none := (upd_ne npd.symm).symm.trans hd0
    refine ⟨_, rfl, p, C, dx, _, rfl, (upd_ne npd).trans upd_same, LC.cls, LC.nd, by show 1 < 1000; decide, [], rfl, Nat.zero_le _, fun q H3 nq k3 hq => ?_⟩
    have npq : q ≠ p := fun z => by
      rw [z, upd_same] at nq
      cases nq
    have nq1 : upd (upd H p (.ins C dx (putF "budget" (.int g) []))) d0 (.dK []) q = none := (upd_ne npq).symm.trans nq
    have nqd : q ≠ d0 := fun z => by
      rw [z, upd_same] at nq1
      cases nq1
    have hq0 : H q = none := (upd_ne npq).symm.trans ((upd_ne nqd).symm.trans nq1)
    have hp3 := k3.at0 (show _ = some (.ins C dx (putF "balances" (.ref d0) (putF "budget" (.int g) []))) from upd_same)
    refine ⟨_, rfl, p, C, dx, _, rfl, hp3, LC.cls, LC.nq, by show 2 < 1000; decide, ?_⟩
    rw [lkF_new]
    refine w2 g eg q _ hq0 (fun b o e n => ?_) ?_
    · rw [upd_ne n]
      refine k3.at0 ?_
      rw [upd_ne n, upd_ne (ne_of_none e hd0'), upd_ne n]
      exact e
    · refine ⟨⟨dx, d0, upd_same, ?_⟩, [], ?_, .nil⟩
      · rw [upd_ne npd.symm]
        refine k3.at0 ?_
        rw [upd_ne npd.symm, upd_same]
        rfl
      · rw [upd_ne npq]
        exact hq
def sp_Link___len__ (C : Addr) : Sp := fun vs H Q _ => ∃ (p q : Addr) (s : LkS), vs = [.ref p] ∧ LkAt C H p q s ∧ Q (.int (s.t.length : Int)) H
theorem ok_Link___len__ {f C : Addr} {fd : FuncData} {k : Nat} (F : Fun K "__len__" "Link.__len__" s_Link___len__ f fd) (LC : LinkC K C) (m_len : mg "len" = none) :
    FnG P w K mg base CX0 (k + 1) f fd ["self"] (sp_Link___len__ C) := by
  refine ok0 F sc_Link___len__ (fun vs H Q E h => ?_) (fun cdv A outer s H vs Q E gd hr h => ?_)
  · obtain ⟨p, q, s, rfl, _⟩ := h
    rfl
  · obtain ⟨p, q, s, rfl, L, w⟩ := h
    obtain ⟨⟨dx, d0, h1, h2⟩, _⟩ := id L
    refine ⟨_, (pss_one (ps_ret (pe_callB call_lenD (by rfl) m_len (by decide +kernel) (pa_cons (pe_fld (pv 0) rfl) pa_nil)))), ?_⟩
    refine ⟨_, rfl, p, C, dx, _, _, rfl, h1, LC.cls, LC.nd, lkF_d _ _ _, d0, _, rfl, h2, ?_⟩
    rw [tk_len]
    exact w
/-! ### the defs of links, five -/
theorem OutP.ok {N : Addr → Prop} {C : Addr} {T : List (Addr × Str)} {X : LkX} {H : Hp} {p q : Addr} {r : PyData} {s : LkS} {Q : VK} {E : XK} (h : OutP K C T X N H p q (.ok r s) Q E) :
    ∀ v H', Ks T (Two p q) H H' → LkAt C H' p q s → Db K N H' v r → Q v H' := h
theorem sp_op_len {C : Addr} {T : List (Addr × Str)} {X : LkX} {n : Nat} {f : LkS → List PyData → Out} {vs : List V} {H : Hp} {Q : VK} {E : XK} (h : sp_op K C T X n f vs H Q E) : vs.length = n + 1 := by
  obtain ⟨p, q, s, N, us, ds, rfl, hn, _⟩ := h
  rw [List.length_cons, hn]
theorem one_of {N : Addr → Prop} {H : Hp} {ys : List V} {ds : List PyData} (h2 : ys.length = 1) (hA : DbAll K N H ys ds) : ∃ x dx, ys = [x] ∧ ds = [dx] ∧ Db K N H x dx := by
  cases hA with
  | nil => cases h2
  | cons hx hA =>
    cases hA with
    | nil => exact ⟨_, _, rfl, rfl, hx⟩
    | cons _ _ => simp at h2
theorem three_of {N : Addr → Prop} {H : Hp} {ys : List V} {ds : List PyData} (h2 : ys.length = 3) (hA : DbAll K N H ys ds) : ∃ x y z dx dy dz, ys = [x, y, z] ∧ ds = [dx, dy, dz] ∧ Db K N H x dx ∧ Db K N H y dy ∧ Db K N H z dz := by
  cases hA with
  | nil => cases h2
  | cons hx hA =>
    obtain ⟨y, z, dy, dz, rfl, rfl, hy, hz⟩ := two_of (by simpa using h2) hA
    exact ⟨_, _, _, _, _, _, rfl, rfl, hx, hy, hz⟩
theorem db_strs {N : Addr → Prop} {H : Hp} {u : Addr} {W : List Str} (h : SqT K H u (W.map V.str)) : Db K N H (.ref u) (.tuple (W.map .str)) := by
  refine .tup h ?_
  clear h
  induction W with
  | nil => exact .nil
  | cons a r ih => exact .cons (.str a) ih
theorem tput_len_le (t : Tab) (n : Str) (b : Int) : (tput t n b).length ≤ t.length + 1 := by
  by_cases h : n ∈ keysT t
  · rw [tput_len b h]; omega
  · rw [tput_new b h, List.length_append]; exact Nat.le_refl _
theorem ok_Link_enter {f C : Addr} {fd : FuncData} {k : Nat} {T : List (Addr × Str)} {X : LkX} (F : Fun K "enter" "Link.enter" s_Link_enter f fd) (LC : LinkC K C) (m_len : mg "len" = none) {tk0 : Tok} (mg_MOST_SENDERS : mg "MOST_SENDERS" = some (.int 40 tk0))
    (t_BadName : Told P w K mg base "BadName" X.name) (t_TakenName : Told P w K mg base "TakenName" X.taken) (x_FullLink : ExA K mg "FullLink" X.full)
    (C_is_name : Cl P w K mg base CX0 1 "is_name" 1 (sp_is_name K)) (C_require_amount : Cl P w K mg base (L2.CX P w) 4 "require_amount" 1 (sp_require_amount K X)) (M_change : ClM P w K mg base (L2.CX P w) 7 C "change" (sp_Link_change K C T X)) :
    FnG P w K mg base (L2.CX P w) (k + 8) f fd ["self", "name", "balance"] (sp_op K C T X 2 (op2 enterF)) := by
  obtain ⟨_, _, V_BadName, F_BadName⟩ := t_BadName
  obtain ⟨_, _, V_TakenName, F_TakenName⟩ := t_TakenName
  refine okX F sc_Link_enter (fun vs H Q E h => sp_op_len h) (fun cdv A outer s0 H vs Q E gd hr h => ?_)
  obtain ⟨p, q, s, N, us, ds, rfl, hn, L, G, pl, hT, hA, hz, nq, out⟩ := h
  obtain ⟨x, y, dx, dy, rfl, rfl, hx, hy⟩ := two_of hn hA
  have hr2 := hr.mono (show 1 + 1 ≤ k + 7 by omega)
  simp only [szA] at hz
  replace out : OutP K C T X N H p q (enterF s dx dy) Q E := out
  refine ⟨_, (pss_cons (ps_if (pt_not (pt_val (pe_cl C_is_name (hr.mono (by omega)) gd pass0 (by rfl) (pa_cons (pv 1) pa_nil))))
      (pss_one (ps_raise rfl (takes_of rfl rfl rfl rfl) (pmk_value V_BadName F_BadName hr2 (by rfl) (pv 1))))
      pss_nil)
      (pss_cons (ps_if (pt_cmp (pc_din (hu1 hr) (pv 1) (pe_fld (pv 0) rfl)))
      (pss_one (ps_raise rfl (takes_of rfl rfl rfl rfl) (pmk_value V_TakenName F_TakenName hr2 (by rfl) (pv 1))))
      pss_nil)
      (pss_cons (ps_expr (pe_clS (E := fun _ => E) C_require_amount (hr.mono (by omega)) gd (fun σ => passAt (W := fun cls d _ H => E cls d H) (takes_of rfl rfl rfl rfl) σ) (by rfl) (pa_cons (pv 2) pa_nil)))
      (pss_cons (ps_if (pt_cmpR op_ge (pe_callB call_lenD (by rfl) m_len (by decide +kernel) (pa_cons (pe_fld (pv 0) rfl) pa_nil)) (pe_glob (v := .int 40) rfl mg_MOST_SENDERS ⟨_, rfl⟩) (nomark _))
      (pss_one (ps_raise rfl (takes_of rfl rfl rfl rfl) (pmk_own0 PySem.F.excBase_ValueError x_FullLink.x x_FullLink.g x_FullLink.k (raises_own x_FullLink.b x_FullLink.t) (by rfl))))
      pss_nil)
      (pss_one (ps_expr (pe_clM (E := fun _ => E) LC.cls M_change (hr.mono (by omega)) gd (fun σ => passAt (W := fun cls d _ H => E cls d H) (takes_of rfl rfl rfl rfl) σ) (pv 0) (pa_cons (pe_fld (pv 0) rfl) (pa_cons (pe_dstar (pe_fld (pv 0) rfl) (pv 1) (pv 2)) pa_nil))))))))), ?_⟩
  refine ⟨_, rfl, x, dx, N, rfl, hx, by omega, fun H1 k1 => ?_⟩
  refine ⟨_, rfl, ?_⟩
  cases e1 : (nameD dx).isSome with
  | false =>
    refine (show if (!false) = true then _ else _ from iteT ?_)
    unfold enterF at out
    rw [Option.isNone_iff_eq_none.mp (Option.isSome_eq_false_iff.mp e1)] at out
    exact ⟨_, rfl, fun e he => out x e H1 k1.kt (hx.stay k1.stay) he⟩
  | true =>
    refine (show if (!true) = true then _ else _ from iteF ?_)
    obtain ⟨n, rfl, rfl, nn, en⟩ := nameD_some hx e1
    unfold enterF at out
    rw [en] at out
    have L1 := L.kp k1
    obtain ⟨⟨dv, d0, h1, h2⟩, _⟩ := id L1
    refine ⟨_, rfl, _, rfl, p, C, dv, _, _, rfl, h1, LC.cls, LC.nd, lkF_d _ _ _, d0, _, rfl, DGet.k (k := Sum.inr n) h2, _, rfl, ?_⟩
    rw [tk_val]
    by_cases hk : n ∈ keysT s.t
    · rw [tval_some hk]
      refine (show if true = true then _ else _ from iteT ?_)
      replace out : OutP K C T X N H p q (if n ∈ keysT s.t then .bad .taken (.str n) else _) Q E := out
      rw [if_pos hk] at out
      exact ⟨_, rfl, fun e he => out (.str n) e H1 k1.kt (.str n) he⟩
    · rw [tget_none.mpr hk]
      refine (show if false = true then _ else _ from iteF ?_)
      replace out : OutP K C T X N H p q (if n ∈ keysT s.t then .bad .taken (.str n) else (match amtD dy with | none => .bad .amount dy | some a => if 40 ≤ s.t.length then .bad .full .none else changeF s s.b (tput s.t n a) .none)) Q E := out
      rw [if_neg hk] at out
      have hy1 := hy.stay (k1.stay (N := N))
      refine ⟨_, rfl, y, dy, N, rfl, hy1, fun ea => ?_, fun ea e he => ?_⟩
      · obtain ⟨a, ea⟩ := Option.isSome_iff_exists.mp ea
        obtain ⟨rfl, rfl, _⟩ := amtD_some hy1 ea
        rw [ea] at out
        refine ⟨_, rfl, p, C, dv, _, _, rfl, h1, LC.cls, LC.nd, lkF_d _ _ _, d0, _, rfl, h2, _, _, rfl, rfl, _, rfl, ?_⟩
        rw [tk_len]
        replace out : OutP K C T X N H p q (if 40 ≤ s.t.length then .bad .full .none else changeF s s.b (tput s.t n a) .none) Q E := out
        by_cases h40 : 40 ≤ s.t.length
        · rw [if_pos h40] at out
          refine (show if decide ((s.t.length : Int) ≥ 40) = true then _ else _ from ifYes (by omega) ?_)
          exact out H1 k1.kt
        · rw [if_neg h40] at out
          refine (show if decide ((s.t.length : Int) ≥ 40) = true then _ else _ from ifNo (by omega) ?_)
          refine ⟨_, rfl, p, dv, _, rfl, h1, no_attr, ?_⟩
          refine ⟨_, rfl, p, C, dv, _, _, rfl, h1, LC.cls, LC.nb, lkF_b _ _ _, fun u nu => ?_⟩
          have npu : p ≠ u := ne_of_none h1 nu
          have ndu : d0 ≠ u := ne_of_none h2 nu
          have h1u := (upd_ne (o := .dK []) npu).trans h1
          have h2u := (upd_ne (o := .dK []) ndu).trans h2
          refine ⟨_, rfl, p, C, dv, _, _, rfl, h1u, LC.cls, LC.nd, lkF_d _ _ _, d0, tk s.t, rfl, ndu, .inl h2u, upd_same, by rw [tk_len, sizeLine_eq]; omega, fun u2 nu2 => ?_⟩
          have nu2u : u2 ≠ u := fun z => by
            rw [z, upd_same] at nu2
            cases nu2
          have nu2' : H1 u2 = none := (upd_ne nu2u).symm.trans nu2
          refine ⟨_, rfl, _, rfl, Sum.inr n, rfl, (upd_ne nu2u.symm).trans upd_same, upd_same, nu2u, ?_⟩
          rw [tk_put]
          generalize hH2 : upd (upd (upd (upd (upd H1 u (.dK [])) u (.dK (tk s.t))) u2 (.dK [])) u2 (.dK [(Sum.inr n, .int a)])) u (.dK (tk (tput s.t n a))) = H2
          have k2 : Kp [] H1 H2 := fun b o _ e => by
            rw [← hH2]
            have b1 := ne_of_none e nu
            have b2 := ne_of_none e nu2'
            rw [upd_ne b1, upd_ne b2, upd_ne b2, upd_ne b1, upd_ne b1]
            exact e
          have hu2 : H2 u = some (.dK (tk (tput s.t n a))) := by rw [← hH2]; exact upd_same
          refine ⟨p, q, s, s.b, u, tput s.t n a, rfl, L1.kp k2, hu2, tput_nd a G.now.nd, by have := tput_len_le s.t n a; omega, G.now.b1, (k1.trans k2).kt.tab hT, pl, fun W ew z e H3 k3 hz3 he => ?_, fun ew H3 k3 L3 => ?_⟩
          · unfold changeF at out
            rw [ew] at out
            exact out (.ref z) e H3 ((k1.trans k2).kt.trans k3) (db_strs hz3) he
          · unfold changeF at out
            rw [ew] at out
            exact out.ok .non H3 ((Ks.of (k1.trans k2).kt).trans k3) L3 .non
      · rw [ea] at out
        exact out y e H1 k1.kt hy1 he
/-! ### the defs of links, six -/
theorem unlockL {H H' : Hp} {d : Addr} {od : Obj} {u : HO} (h : H d = some u) (k : Kp [] (upd H d (.frz od u)) H') : Kp [] H (upd H' d u) := fun b o n e => by
  by_cases c : b = d
  · subst c
    rw [upd_same, ← e, h]
  · rw [upd_ne c]
    exact k b o n (by rw [upd_ne c]; exact e)
def sp_Link_names (K : PySem.W.Frag) (C : Addr) : Sp := fun vs H Q _ => ∃ (p q : Addr) (s : LkS), vs = [.ref p] ∧ LkAt C H p q s ∧ s.t.length ≤ 40 ∧ ∀ u H', Kp [] H H' → SqT K H' u ((nsT s.t).map V.str) → Q (.ref u) H'
theorem ok_Link_names {f C : Addr} {fd : FuncData} {k : Nat} (F : Fun K "names" "Link.names" s_Link_names f fd) (LC : LinkC K C) (m_tuple : mg "tuple" = none) (m_sorted : mg "sorted" = none) :
    FnG P w K mg base CX0 (k + 1) f fd ["self"] (sp_Link_names K C) := by
  refine ok0 F sc_Link_names (fun vs H Q E h => ?_) (fun cdv A outer s H vs Q E gd hr h => ?_)
  · obtain ⟨p, q, s, rfl, _⟩ := h
    rfl
  · obtain ⟨p, q, s, rfl, L, hl, w⟩ := h
    obtain ⟨⟨dx, d0, h1, h2⟩, _⟩ := id L
    refine ⟨_, (pss_one (ps_ret (pe_callTy (call_tupF (K := K) rfl) (by rfl) m_tuple (by decide +kernel) (pa_cons (pe_callB (cr_srtDS rfl) (by rfl) m_sorted (by decide +kernel) (pa_cons (pe_fld (pv 0) rfl) pa_nil)) pa_nil)))), ?_⟩
    have kl : (keysT s.t).length = s.t.length := List.length_map _
    refine ⟨_, rfl, p, C, dx, _, _, rfl, h1, LC.cls, LC.nd, lkF_d _ _ _, d0, tk s.t, keysT s.t, rfl, .inl h2, tk_keys s.t, by omega, fun ys pm so l H1 nl k1 h1 => ?_⟩
    obtain rfl := srtN_of pm so
    exact ⟨l, _, rfl, sqL h1, fun u H2 o nu k2 du hu => w u H2 (k1.trans k2) (sqF hu)⟩
def sp_Link_balance_of (K : PySem.W.Frag) (C : Addr) (X : LkX) : Sp := fun vs H Q E => ∃ (p q : Addr) (s : LkS) (v : V) (d : PyData) (N : Addr → Prop), vs = [.ref p, v] ∧ LkAt C H p q s ∧ Db K N H v d ∧ szD d ≤ 1000000 ∧
  (∀ n, knownD s.t d = some n → ∀ H', Kp [] H H' → Q (.int (tval s.t n)) H') ∧ (knownD s.t d = none → ∀ e H', Kp [] H H' → H' e = none → E (.ref X.unknown) (some e) (upd H' e (.xd [("value", v)])))
theorem known_str {N : Addr → Prop} {H : Hp} {v : V} {d : PyData} {t : Tab} {n : Str} (h : Db K N H v d) (e : knownD t d = some n) : v = .str n ∧ n ∈ keysT t := by
  obtain ⟨hn, rfl⟩ := knownD_in e
  cases h
  exact ⟨rfl, hn⟩
theorem ok_Link_balance_of {f C : Addr} {fd : FuncData} {k : Nat} {X : LkX} (F : Fun K "balance_of" "Link.balance_of" s_Link_balance_of f fd) (LC : LinkC K C) (M_require_known : ClM P w K mg base (L2.CX P w) 3 C "require_known" (sp_Link_require_known K C X)) :
    FnG P w K mg base (L2.CX P w) (k + 4) f fd ["self", "name"] (sp_Link_balance_of K C X) := by
  refine okX F sc_Link_balance_of (fun vs H Q E h => ?_) (fun cdv A outer s H vs Q E gd hr h => ?_)
  · obtain ⟨p, q, s, v, d, N, rfl, _⟩ := h
    rfl
  · obtain ⟨p, q, s, v, d, N, rfl, L, hD, hz, w1, w2⟩ := h
    obtain ⟨⟨dx, d0, h1, h2⟩, _⟩ := id L
    refine ⟨_, (pss_cons (ps_expr (pe_clM (E := fun _ => E) LC.cls M_require_known (hr.mono (by omega)) gd (fun σ => passAt (W := fun cls d _ H => E cls d H) (takes_of rfl rfl rfl rfl) σ) (pv 0) (pa_cons (pv 1) pa_nil)))
      (pss_one (ps_ret (pe_dget (hu1 hr) (pe_fld (pv 0) rfl) (pv 1) (fun _ _ => rfl))))), ?_⟩
    refine ⟨_, rfl, p, dx, _, rfl, h1, no_attr, _, rfl, p, q, s, v, d, N, rfl, L, hD, hz, fun n en H1 k1 => ?_, w2⟩
    obtain ⟨rfl, hn⟩ := known_str hD en
    exact ⟨_, rfl, p, C, dx, _, _, rfl, k1.at0 h1, LC.cls, LC.nd, lkF_d _ _ _, _, rfl, d0, _, rfl, tk_get (k1.at0 h2) hn, w1 n en H1 k1⟩
def sp_Link_current_budget (C : Addr) : Sp := fun vs H Q _ => ∃ (p q : Addr) (s : LkS), vs = [.ref p] ∧ LkAt C H p q s ∧ Q (.int s.b) H
theorem ok_Link_current_budget {f C : Addr} {fd : FuncData} {k : Nat} (F : Fun K "current_budget" "Link.current_budget" s_Link_current_budget f fd) (LC : LinkC K C) :
    FnG P w K mg base CX0 (k + 1) f fd ["self"] (sp_Link_current_budget C) := by
  refine ok0 F sc_Link_current_budget (fun vs H Q E h => ?_) (fun cdv A outer s H vs Q E gd hr h => ?_)
  · obtain ⟨p, q, s, rfl, _⟩ := h
    rfl
  · obtain ⟨p, q, s, rfl, L, w⟩ := h
    obtain ⟨⟨dx, d0, h1, h2⟩, _⟩ := id L
    exact ⟨_, (pss_one (ps_ret (pe_fld (pv 0) rfl))), ⟨_, rfl, p, C, dx, _, _, rfl, h1, LC.cls, LC.nb, lkF_b _ _ _, w⟩⟩
def sp_Link_changes (C : Addr) : Sp := fun vs H Q _ => ∃ (p q : Addr) (s : LkS), vs = [.ref p] ∧ LkAt C H p q s ∧ Q (.int (s.past.length : Int)) H
theorem ok_Link_changes {f C : Addr} {fd : FuncData} {k : Nat} (F : Fun K "changes" "Link.changes" s_Link_changes f fd) (LC : LinkC K C) (m_len : mg "len" = none) :
    FnG P w K mg base CX0 (k + 1) f fd ["self"] (sp_Link_changes C) := by
  refine ok0 F sc_Link_changes (fun vs H Q E h => ?_) (fun cdv A outer s H vs Q E gd hr h => ?_)
  · obtain ⟨p, q, s, rfl, _⟩ := h
    rfl
  · obtain ⟨p, q, s, rfl, L, w⟩ := h
    obtain ⟨⟨dx, d0, h1, h2⟩, ps, h3, h4⟩ := id L
    refine ⟨_, (pss_one (ps_ret (pe_callB (call_len_seqK (K := K) rfl) (by rfl) m_len (by decide +kernel) (pa_cons (pe_fld (pv 0) rfl) pa_nil)))), ?_⟩
    refine ⟨_, rfl, p, C, dx, _, _, rfl, h1, LC.cls, LC.nq, lkF_q _ _ _, q, _, rfl, .inl (sqL h3), ?_⟩
    rw [h4.len]
    exact w
def sp_Link_total (C : Addr) : Sp := fun vs H Q _ => ∃ (p q : Addr) (s : LkS), vs = [.ref p] ∧ LkAt C H p q s ∧ (keysT s.t).Nodup ∧ s.t.length ≤ 40 ∧ ∀ H', Kp [] H H' → Q (.int (valsT s.t).sum) H'
theorem tk_at {t : Tab} {i : Nat} {k : Key} {v : V} (e : (tk t)[i]? = some (k, v)) : ∃ n b, t[i]? = some (n, b) ∧ k = Sum.inr n ∧ v = .int b := by
  unfold tk at e
  rw [List.getElem?_map] at e
  cases e1 : t[i]? with
  | none => rw [e1] at e; cases e
  | some p =>
    rw [e1] at e
    cases e
    exact ⟨p.1, p.2, rfl, rfl, rfl⟩
theorem tk_in {t : Tab} {i : Nat} {n : Str} {b : Int} (nd : (keysT t).Nodup) (e : t[i]? = some (n, b)) : n ∈ keysT t ∧ tval t n = b := by
  have hm : (n, b) ∈ t := List.mem_of_getElem? e
  refine ⟨List.mem_map.mpr ⟨_, hm, rfl⟩, ?_⟩
  unfold tval
  rw [tget_of nd hm]
  rfl
theorem tk_getF {H : Hp} {d : Addr} {t : Tab} {n : Str} {od : Obj} (hd : H d = some (.frz od (.dK (tk t)))) (h : n ∈ keysT t) : DGet H d (.str n) (some (.int (tval t n))) := by
  refine .inl ⟨tk t, Sum.inr n, .inr ⟨od, hd⟩, rfl, ?_⟩
  rw [tk_val, tval_some h]
  rfl
theorem ok_Link_total {f C : Addr} {fd : FuncData} {k : Nat} (F : Fun K "total" "Link.total" s_Link_total f fd) (LC : LinkC K C) (m_sum : mg "sum" = none) :
    FnG P w K mg base CX0 (k + 1) f fd ["self"] (sp_Link_total C) := by
  refine ok0 F sc_Link_total (fun vs H Q E h => ?_) (fun cdv A outer s H vs Q E gd hr h => ?_)
  · obtain ⟨p, q, s, rfl, _⟩ := h
    rfl
  · obtain ⟨p, q, s, rfl, L, nd, hl, w⟩ := h
    obtain ⟨⟨dx, d0, h1, h2⟩, _⟩ := id L
    refine ⟨_, (pss_one (ps_ret (pe_callB (cr_sumK (K := K) rfl rfl) (by rfl) m_sum (by decide +kernel) (pa_cons (pe_lock (pe_lcW (own := [("name", 1)]) (g := (gName 1)) rfl sc_Link_total.nd (pi_keys (pe_fldK (K := K) rfl (pv 0) rfl)) (blkOk_by (own := [("name", 1)]) (N := ["self", "name"]) (sc := defScope s_Link_total) (by decide +kernel)) (fun _ _ _ _ _ => (pg_name (i := 1) sc_Link_total.nd rfl (.inl rfl))) (fun _ _ _ _ _ => pts_nil) (fun _ _ _ _ _ => (pe_dget (hu1 hr) (pe_fldK (K := K) rfl (pv 0) rfl) (pv 1) (fun _ _ => rfl))))) pa_nil)))), ?_⟩
    refine ⟨d0, _, h2, trivial, fun od => ?_⟩
    have npd : p ≠ d0 := ne_of h1 h2 fun z => nomatch z
    have h1L : (upd H d0 (.frz od (.dK (tk s.t)))) p = some _ := (upd_ne npd).trans h1
    refine ⟨_, rfl, p, C, dx, _, _, rfl, h1L, LC.cls, LC.nd, lkF_d _ _ _, d0, od, rfl, .inl ⟨tk s.t, upd_same, _, _, _, walk_keys, small1000 (by rw [tk_len]; omega), fun D H2 nD k2 hD => ?_⟩⟩
    refine ⟨fun i acc H3 => acc = ((valsT s.t).take i).map V.int ∧ Kp [] (upd H d0 (.frz od (.dK (tk s.t)))) H3, ⟨rfl, k2⟩, fun i acc H3 _ ⟨_, z⟩ => z.at0 upd_same, ?_, ?_⟩
    · rintro i acc x H3 _ hi ⟨ea, k3⟩ hD3 ⟨rfl, kk, v, e, rfl⟩
      obtain ⟨n, b, e2, rfl, rfl⟩ := tk_at e
      obtain ⟨hn, hv⟩ := tk_in nd e2
      refine ⟨rfl, yesT ?_⟩
      refine ⟨_, rfl, p, C, dx, _, _, rfl, k3.at0 h1L, LC.cls, LC.nd, lkF_d _ _ _, _, rfl, d0, _, rfl, tk_getF (k3.at0 upd_same) hn, hD3, fun H4 m4 h4 => ?_⟩
      refine ⟨?_, k3.md (.inl nD) m4⟩
      rw [List.take_add_one, List.map_append, ea, hv]
      unfold valsT
      rw [List.getElem?_map, e2]
      rfl
    rintro acc H3 _ hD3 ⟨ea, k3⟩
    rw [tk_len, List.take_of_length_le (by unfold valsT; rw [List.length_map]; exact Nat.le_refl _)] at ea
    subst ea
    have nDd : D ≠ d0 := fun z => by
      rw [z, upd_same] at nD
      cases nD
    refine ⟨k3.at0 upd_same, D, _, rfl, sqL ((upd_ne nDd).trans hD3), ?_⟩
    exact w _ (unlockL h2 k3)
theorem ok_Link_set_budget {f C : Addr} {fd : FuncData} {k : Nat} {T : List (Addr × Str)} {X : LkX} (F : Fun K "set_budget" "Link.set_budget" s_Link_set_budget f fd) (LC : LinkC K C)
    (C_require_budget : Cl P w K mg base (L2.CX P w) 4 "require_budget" 1 (sp_require_budget K X)) (M_change : ClM P w K mg base (L2.CX P w) 7 C "change" (sp_Link_change K C T X)) :
    FnG P w K mg base (L2.CX P w) (k + 8) f fd ["self", "budget"] (sp_op K C T X 1 (op1 budgetF)) := by
  refine okX F sc_Link_set_budget (fun vs H Q E h => sp_op_len h) (fun cdv A outer s0 H vs Q E gd hr h => ?_)
  obtain ⟨p, q, s, N, us, ds, rfl, hn, L, G, pl, hT, hA, hz, nq, out⟩ := h
  obtain ⟨x, dx, rfl, rfl, hx⟩ := one_of hn hA
  replace out : OutP K C T X N H p q (budgetF s dx) Q E := out
  obtain ⟨⟨dv, d0, h1, h2⟩, _⟩ := id L
  refine ⟨_, (pss_cons (ps_expr (pe_clS (E := fun _ => E) C_require_budget (hr.mono (by omega)) gd (fun σ => passAt (W := fun cls d _ H => E cls d H) (takes_of rfl rfl rfl rfl) σ) (by rfl) (pa_cons (pv 1) pa_nil)))
      (pss_one (ps_expr (pe_clM (E := fun _ => E) LC.cls M_change (hr.mono (by omega)) gd (fun σ => passAt (W := fun cls d _ H => E cls d H) (takes_of rfl rfl rfl rfl) σ) (pv 0) (pa_cons (pv 1) (pa_cons (pe_fld (pv 0) rfl) pa_nil)))))), ?_⟩
  unfold budgetF at out
  refine ⟨_, rfl, x, dx, N, rfl, hx, fun ea => ?_, fun ea e he => ?_⟩
  · obtain ⟨g, ea⟩ := Option.isSome_iff_exists.mp ea
    obtain ⟨rfl, rfl, g1, g2⟩ := budD_some hx ea
    rw [ea] at out
    replace out : OutP K C T X N H p q (changeF s g s.t .none) Q E := out
    refine ⟨_, rfl, p, dv, _, rfl, h1, no_attr, _, rfl, _, rfl, p, C, dv, _, _, rfl, h1, LC.cls, LC.nd, lkF_d _ _ _, ?_⟩
    refine ⟨p, q, s, g, d0, s.t, rfl, L, h2, G.now.nd, G.now.len, g1, hT, pl, fun W ew z e H3 k3 hz3 he => ?_, fun ew H3 k3 L3 => ?_⟩
    · unfold changeF at out
      rw [ew] at out
      exact out (.ref z) e H3 k3 (db_strs hz3) he
    · unfold changeF at out
      rw [ew] at out
      exact out.ok .non H3 k3 L3 .non
  · rw [ea] at out
    exact out x e H .refl hx he
theorem ok_Link_undo {f C : Addr} {fd : FuncData} {k : Nat} {T : List (Addr × Str)} {X : LkX} (F : Fun K "undo" "Link.undo" s_Link_undo f fd) (LC : LinkC K C) (m_len : mg "len" = none) (x_NothingToUndo : ExA K mg "NothingToUndo" X.undo) :
    FnG P w K mg base (L2.CX P w) (k + 1) f fd ["self"] (sp_op K C T X 0 fun s _ => undoF s) := by
  refine okX F sc_Link_undo (fun vs H Q E h => sp_op_len h) (fun cdv A outer s0 H vs Q E gd hr h => ?_)
  obtain ⟨p, q, s, N, us, ds, rfl, hn, L, G, pl, hT, hA, hz, nq, out⟩ := h
  obtain rfl : us = [] := List.length_eq_zero_iff.mp hn
  have npq := L.ne
  obtain ⟨⟨dv, d0, h1, h2⟩, ps, h3, h4⟩ := id L
  have psl := h4.len
  refine ⟨_, (pss_cons (ps_if (pt_cmpR op_eq (pe_callB (call_len_seqK (K := K) rfl) (by rfl) m_len (by decide +kernel) (pa_cons (pe_fld (pv 0) rfl) pa_nil)) pe_int (nomark _))
      (pss_one (ps_raise rfl (takes_of rfl rfl rfl rfl) (pmk_own0 PySem.F.excBase_ValueError x_NothingToUndo.x x_NothingToUndo.g x_NothingToUndo.k (raises_own x_NothingToUndo.b x_NothingToUndo.t) (by rfl))))
      pss_nil)
      (pss_one (ps_asg (pe_bm0 PySem.F.plainAttrs_list PySem.F.slot_list_pop PySem.F.type_list_pop mt_pop (pe_fld (pv 0) rfl)) (pg_tup rfl (pgs_cons (pg_fld (pv 0)) (pgs_cons (pg_fld (pv 0)) pgs_nil)))))), ?_⟩
  replace out : OutP K C T X N H p q (undoF s) Q E := out
  unfold undoF at out
  refine ⟨_, rfl, p, C, dv, _, _, rfl, h1, LC.cls, LC.nq, lkF_q _ _ _, q, _, rfl, .inl (sqL h3), rfl, _, rfl, ?_⟩
  cases el : s.past.getLast? with
  | none =>
    rw [el] at out
    have e0 : s.past = [] := List.getLast?_eq_none_iff.mp el
    rw [e0] at psl
    refine (show if decide (V.int (ps.length : Int) = V.int 0) = true then _ else _ from ifYes (by rw [psl]; rfl) ?_)
    exact out H .refl
  | some z =>
    rw [el] at out
    replace out : OutP K C T X N H p q (.ok .none ⟨z.1, z.2, s.past.dropLast⟩) Q E := out
    have nz : s.past ≠ [] := fun w => by rw [w] at el; cases el
    have pz : ps.length ≠ 0 := fun w => nz (List.length_eq_zero_iff.mp (psl.symm.trans w))
    refine (show if decide (V.int (ps.length : Int) = V.int 0) = true then _ else _ from ifNo (fun w => pz (by have : ((ps.length : Nat) : Int) = 0 := V.int.inj w; omega)) ?_)
    obtain ⟨u, d1, e1, hu, hd1, h5⟩ := h4.last el
    have h1q : (upd H q (.lst ps.dropLast)) p = some _ := (upd_ne npq).trans h1
    have nuq : u ≠ q := ne_of hu h3 fun w => nomatch w
    have nup : u ≠ p := ne_of hu h1 fun w => nomatch w
    refine ⟨_, rfl, p, C, dv, _, _, rfl, h1, LC.cls, LC.nq, lkF_q _ _ _, .inl ⟨rfl, _, sqL h3⟩, q, ps, _, rfl, rfl, h3, e1, ?_⟩
    refine ⟨u, _, rfl, sqT ((upd_ne nuq).trans hu), rfl, _, _, rfl, _, rfl, p, C, dv, _, rfl, h1q, LC.cls, LC.nb, by show 3 < 1000; decide, ?_⟩
    refine ⟨_, _, rfl, _, rfl, p, C, dv, _, rfl, upd_same, LC.cls, LC.nd, by rw [lkF_putB]; show 3 < 1000; decide, rfl, ?_⟩
    rw [lkF_putB, lkF_putD]
    refine out.ok .non _ ((((Ks.refl (T := T)).putL h3 (.inl (.inr rfl))).putI h1q (.inl (.inl rfl))).putI upd_same (.inl (.inl rfl))) ?_ .non
    have far : ∀ a o, H a = some o → a ≠ p → a ≠ q → (upd (upd (upd H q (.lst ps.dropLast)) p (.ins C dv (lkF z.1 d0 q))) p (.ins C dv (lkF z.1 d1 q))) a = some o := fun a o e n1 n2 => by
      rw [upd_ne n1, upd_ne n1, upd_ne n2]
      exact e
    have tup : ∀ a xs, H a = some (.tup xs) → _ := fun a xs e => far a _ e (ne_of e h1 fun w => nomatch w) (ne_of e h3 fun w => nomatch w)
    have dic : ∀ a kvs, H a = some (.dK kvs) → _ := fun a xs e => far a _ e (ne_of e h1 fun w => nomatch w) (ne_of e h3 fun w => nomatch w)
    refine ⟨⟨dv, d1, upd_same, dic _ _ hd1⟩, ps.dropLast, ?_, h5.keep tup fun a t => dic a _⟩
    rw [upd_ne npq.symm, upd_ne npq.symm, upd_same]
/-! ### the defs of links, seven -/
theorem drop_take {t : Tab} {n : Str} {i : Nat} {m : Str} {b : Int} (e : t[i]? = some (m, b)) : tdrop (t.take (i + 1)) n = if m ≠ n then tdrop (t.take i) n ++ [(m, b)] else tdrop (t.take i) n := by
  unfold tdrop
  rw [List.take_add_one, e, List.filter_append]
  by_cases h : m ≠ n
  · rw [if_pos h]
    show _ ++ [(m, b)].filter _ = _
    rw [List.filter_cons, if_pos (decide_eq_true h)]
    rfl
  · rw [if_neg h]
    show _ ++ [(m, b)].filter _ = _
    rw [List.filter_cons, if_neg (by simpa using h), List.filter_nil, List.append_nil]
theorem new_take {t : Tab} {n : Str} {i : Nat} {m : Str} {b : Int} (nd : (keysT t).Nodup) (e : t[i]? = some (m, b)) : m ∉ keysT (tdrop (t.take i) n) := by
  intro h
  unfold keysT tdrop at h
  obtain ⟨p, hp, e2⟩ := List.mem_map.mp h
  have hp := (List.mem_filter.mp hp).1
  obtain ⟨j, hj, e3⟩ := List.getElem_of_mem hp
  have hj2 : j < i := by have := hj; rw [List.length_take] at this; omega
  have hi : i < t.length := (List.getElem?_eq_some_iff.mp e).1
  rw [List.getElem_take] at e3
  have k1 : (keysT t)[j]'(by unfold keysT; rw [List.length_map]; omega) = m := by
    unfold keysT
    rw [List.getElem_map, e3]
    exact e2
  have k2 : (keysT t)[i]'(by unfold keysT; rw [List.length_map]; omega) = m := by
    unfold keysT
    rw [List.getElem_map, (List.getElem?_eq_some_iff.mp e).2]
  have := (List.getElem_inj nd).mp (k1.trans k2.symm)
  omega
theorem tk_drop_put {t : Tab} {n : Str} {i : Nat} {m : Str} {b : Int} (nd : (keysT t).Nodup) (e : t[i]? = some (m, b)) (h : m ≠ n) : putK (tk (tdrop (t.take i) n)) (Sum.inr m) (.int b) = tk (tdrop (t.take (i + 1)) n) := by
  rw [tk_put, tput_new b (new_take nd e), drop_take e, if_pos h]
theorem tdrop_len {t : Tab} (n : Str) : (tdrop t n).length ≤ t.length := List.length_filter_le _ _
theorem ok_Link_leave {f C : Addr} {fd : FuncData} {k : Nat} {T : List (Addr × Str)} {X : LkX} (F : Fun K "leave" "Link.leave" s_Link_leave f fd) (LC : LinkC K C)
    (M_require_known : ClM P w K mg base (L2.CX P w) 3 C "require_known" (sp_Link_require_known K C X)) (M_keep : ClM P w K mg base CX0 1 C "keep" (sp_Link_keep C T)) :
    FnG P w K mg base (L2.CX P w) (k + 4) f fd ["self", "name"] (sp_op K C T X 1 (op1 leaveF)) := by
  refine okX F sc_Link_leave (fun vs H Q E h => sp_op_len h) (fun cdv A outer s0 H vs Q E gd hr h => ?_)
  obtain ⟨p, q, s, N, us, ds, rfl, hn, L, G, pl, hT, hA, hz, nq, out⟩ := h
  obtain ⟨x, dx, rfl, rfl, hx⟩ := one_of hn hA
  simp only [szA] at hz
  replace out : OutP K C T X N H p q (leaveF s dx) Q E := out
  obtain ⟨⟨dv, d0, h1, h2⟩, _⟩ := id L
  refine ⟨_, (pss_cons (ps_expr (pe_clM (E := fun _ => E) LC.cls M_require_known (hr.mono (by omega)) gd (fun σ => passAt (W := fun cls d _ H => E cls d H) (takes_of rfl rfl rfl rfl) σ) (pv 0) (pa_cons (pv 1) pa_nil)))
      (pss_cons (ps_set (i := 2) sc_Link_leave.nd rfl (.inl rfl) (pe_dget (hu1 hr) (pe_fld (pv 0) rfl) (pv 1) (fun _ _ => rfl)))
      (pss_cons (ps_expr (pe_clM (E := fun _ _ _ _ => False) LC.cls M_keep (hr.mono (by omega)) gd passG (pv 0) (pa_cons (pe_fld (pv 0) rfl) (pa_cons (pe_lock (pe_dcK (own := [("other", 3)]) (g := (gName 3)) rfl sc_Link_leave.nd (pi_keys (pe_fldK (K := K) rfl (pv 0) rfl)) (blkOk_by (own := [("other", 3)]) (N := ["self", "name", "left", "other"]) (sc := defScope s_Link_leave) (by decide +kernel)) ⟨(fun _ _ _ _ _ => (pg_name (i := 3) sc_Link_leave.nd rfl (.inl rfl))), (fun _ _ _ _ _ => (pts_one (pt_cmpR op_ne (pv 3) (pv 1) (nomark _)))), (fun _ _ _ _ _ => (pv 3)), (fun _ _ _ _ _ => (pe_dget (hu1 hr) (pe_fldK (K := K) rfl (pv 0) rfl) (pv 3) (fun _ _ => rfl)))⟩)) pa_nil))))
      (pss_one (ps_ret (pv 2)))))), ?_⟩
  unfold leaveF at out
  refine ⟨_, rfl, p, dv, _, rfl, h1, no_attr, _, rfl, p, q, s, x, dx, N, rfl, L, hx, by omega, fun n en H1 k1 => ?_, fun en e H1 k1 he => ?_⟩
  · obtain ⟨rfl, hk⟩ := known_str hx en
    rw [en] at out
    replace out : OutP K C T X N H p q (keepF s s.b (tdrop s.t n) (.int (tval s.t n))) Q E := out
    have h11 := k1.at0 h1
    have h21 := k1.at0 h2
    have npd : p ≠ d0 := ne_of h1 h2 fun z => nomatch z
    refine ⟨_, rfl, p, C, dv, _, _, rfl, h11, LC.cls, LC.nd, lkF_d _ _ _, _, rfl, d0, _, rfl, tk_get h21 hk, ?_⟩
    refine ⟨_, rfl, p, dv, _, rfl, h11, no_attr, _, rfl, p, C, dv, _, _, rfl, h11, LC.cls, LC.nb, lkF_b _ _ _, d0, _, h21, trivial, fun od => ?_⟩
    have h1L : (upd H1 d0 (.frz od (.dK (tk s.t)))) p = some _ := (upd_ne npd).trans h11
    refine ⟨_, rfl, p, C, dv, _, _, rfl, h1L, LC.cls, LC.nd, lkF_d _ _ _, d0, od, rfl, .inl ⟨tk s.t, upd_same, _, _, _, walk_keys, Nat.le_of_lt (small1000 (by rw [tk_len]; have := G.now.len; omega)), fun D H2 nD k2 hD => ?_⟩⟩
    refine ⟨fun i es H3 => es = tk (tdrop (s.t.take i) n) ∧ Kp [] (upd H1 d0 (.frz od (.dK (tk s.t)))) H3, ⟨rfl, k2⟩, fun i es H3 _ ⟨_, z⟩ => z.at0 upd_same, ?_, ?_⟩
    · rintro i es y H3 _ hi ⟨ea, k3⟩ hD3 ⟨rfl, kk, v, e, rfl⟩
      obtain ⟨m, b, e2, rfl, rfl⟩ := tk_at e
      obtain ⟨hm, hv⟩ := tk_in G.now.nd e2
      refine ⟨rfl, _, rfl, _, rfl, rfl, ?_⟩
      by_cases hmn : m = n
      · subst hmn
        refine ⟨_, rfl, ?_⟩
        refine (show if (!decide (V.str m = V.str m)) = true then _ else _ from ?_)
        rw [decide_eq_true rfl]
        refine (show if (!true) = true then _ else _ from iteF ?_)
        exact ⟨hD3, by rw [drop_take e2, if_neg (fun z => z rfl)]; exact ea, k3⟩
      · refine ⟨_, rfl, ?_⟩
        refine (show if (!decide (V.str m = V.str n)) = true then _ else _ from ?_)
        rw [decide_eq_false (fun z => hmn (V.str.inj z))]
        refine (show if (!false) = true then _ else _ from iteT ?_)
        refine ⟨_, rfl, _, rfl, p, C, dv, _, _, rfl, k3.at0 h1L, LC.cls, LC.nd, lkF_d _ _ _, _, rfl, d0, _, rfl, tk_getF (k3.at0 upd_same) hm, Sum.inr m, rfl, hD3, fun H4 m4 h4 => ?_⟩
        refine ⟨?_, k3.md (.inl nD) m4⟩
        rw [ea, hv, tk_drop_put G.now.nd e2 hmn]
    rintro es H3 _ hD3 ⟨ea, k3⟩
    rw [tk_len, List.take_of_length_le (Nat.le_refl _)] at ea
    subst ea
    have nDd : D ≠ d0 := fun z => by
      rw [z, upd_same] at nD
      cases nD
    refine ⟨k3.at0 upd_same, ?_⟩
    have k4 := k1.trans (unlockL h21 k3)
    refine ⟨p, q, s, s.b, D, tdrop s.t n, rfl, L.kp k4, (upd_ne nDd).trans hD3, pl, fun H5 k5 L5 => ?_⟩
    exact ⟨_, rfl, out.ok _ H5 ((Ks.of k4.kt).trans k5) L5 (.int _)⟩
  · rw [en] at out
    exact out x e H1 k1.kt (hx.stay k1.stay) he
theorem ok_Link_deposit {f C : Addr} {fd : FuncData} {k : Nat} {T : List (Addr × Str)} {X : LkX} (F : Fun K "deposit" "Link.deposit" s_Link_deposit f fd) (LC : LinkC K C)
    (C_require_amount : Cl P w K mg base (L2.CX P w) 4 "require_amount" 1 (sp_require_amount K X)) (M_require_known : ClM P w K mg base (L2.CX P w) 3 C "require_known" (sp_Link_require_known K C X)) (M_keep : ClM P w K mg base CX0 1 C "keep" (sp_Link_keep C T)) :
    FnG P w K mg base (L2.CX P w) (k + 5) f fd ["self", "name", "amount"] (sp_op K C T X 2 (op2 depositF)) := by
  refine okX F sc_Link_deposit (fun vs H Q E h => sp_op_len h) (fun cdv A outer s0 H vs Q E gd hr h => ?_)
  obtain ⟨p, q, s, N, us, ds, rfl, hn, L, G, pl, hT, hA, hz, nq, out⟩ := h
  obtain ⟨x, y, dx, dy, rfl, rfl, hx, hy⟩ := two_of hn hA
  simp only [szA] at hz
  replace out : OutP K C T X N H p q (depositF s dx dy) Q E := out
  obtain ⟨⟨dv, d0, h1, h2⟩, _⟩ := id L
  refine ⟨_, (pss_cons (ps_expr (pe_clM (E := fun _ => E) LC.cls M_require_known (hr.mono (by omega)) gd (fun σ => passAt (W := fun cls d _ H => E cls d H) (takes_of rfl rfl rfl rfl) σ) (pv 0) (pa_cons (pv 1) pa_nil)))
      (pss_cons (ps_expr (pe_clS (E := fun _ => E) C_require_amount (hr.mono (by omega)) gd (fun σ => passAt (W := fun cls d _ H => E cls d H) (takes_of rfl rfl rfl rfl) σ) (by rfl) (pa_cons (pv 2) pa_nil)))
      (pss_one (ps_expr (pe_clM (E := fun _ _ _ _ => False) LC.cls M_keep (hr.mono (by omega)) gd passG (pv 0) (pa_cons (pe_fld (pv 0) rfl) (pa_cons (pe_dstar (pe_fld (pv 0) rfl) (pv 1) (pe_op op_add (pe_dget (hu1 hr) (pe_fld (pv 0) rfl) (pv 1) (fun _ _ => rfl)) (pv 2))) pa_nil))))))), ?_⟩
  unfold depositF at out
  refine ⟨_, rfl, p, dv, _, rfl, h1, no_attr, _, rfl, p, q, s, x, dx, N, rfl, L, hx, by omega, fun n en H1 k1 => ?_, fun en e H1 k1 he => ?_⟩
  · obtain ⟨rfl, hk⟩ := known_str hx en
    rw [en] at out
    replace out : OutP K C T X N H p q (match amtD dy with | none => .bad .amount dy | some a => keepF s s.b (tput s.t n (tval s.t n + a)) .none) Q E := out
    have hy1 := hy.stay (k1.stay (N := N))
    refine ⟨_, rfl, y, dy, N, rfl, hy1, fun ea => ?_, fun ea e he => ?_⟩
    · obtain ⟨a, ea⟩ := Option.isSome_iff_exists.mp ea
      obtain ⟨rfl, rfl, _⟩ := amtD_some hy1 ea
      rw [ea] at out
      have h11 := k1.at0 h1
      have h21 := k1.at0 h2
      refine ⟨_, rfl, p, dv, _, rfl, h11, no_attr, _, rfl, p, C, dv, _, _, rfl, h11, LC.cls, LC.nb, lkF_b _ _ _, fun u nu => ?_⟩
      have npu : p ≠ u := ne_of_none h11 nu
      have ndu : d0 ≠ u := ne_of_none h21 nu
      have h1u := (upd_ne (o := .dK []) npu).trans h11
      have h2u := (upd_ne (o := .dK []) ndu).trans h21
      refine ⟨_, rfl, p, C, dv, _, _, rfl, h1u, LC.cls, LC.nd, lkF_d _ _ _, d0, tk s.t, rfl, ndu, .inl h2u, upd_same, by rw [tk_len, sizeLine_eq]; have := G.now.len; omega, fun u2 nu2 => ?_⟩
      have nu2u : u2 ≠ u := fun z => by
        rw [z, upd_same] at nu2
        cases nu2
      have nu2' : H1 u2 = none := (upd_ne nu2u).symm.trans nu2
      generalize hH1 : upd (upd (upd H1 u (.dK [])) u (.dK (tk s.t))) u2 (.dK []) = Hm
      have km : Kp [] H1 Hm := fun b o _ e => by
        rw [← hH1]
        have b1 := ne_of_none e nu
        have b2 := ne_of_none e nu2'
        rw [upd_ne b2, upd_ne b1, upd_ne b1]
        exact e
      have hum : Hm u = some (.dK (tk s.t)) := by rw [← hH1, upd_ne nu2u.symm, upd_same]
      have hum2 : Hm u2 = some (.dK []) := by rw [← hH1, upd_same]
      refine ⟨_, rfl, _, rfl, p, C, dv, _, _, rfl, km.at0 h11, LC.cls, LC.nd, lkF_d _ _ _, _, rfl, d0, _, rfl, tk_get (km.at0 h21) hk, _, rfl, _, _, rfl, rfl, Sum.inr n, rfl, hum, hum2, nu2u, ?_⟩
      rw [tk_put]
      generalize hH2 : upd (upd Hm u2 (.dK [(Sum.inr n, .int (tval s.t n + a))])) u (.dK (tk (tput s.t n (tval s.t n + a)))) = H2
      have k2 : Kp [] H1 H2 := fun b o z e => by
        rw [← hH2, upd_ne (ne_of_none e nu), upd_ne (ne_of_none e nu2')]
        exact km b o z e
      have hu2 : H2 u = some (.dK (tk (tput s.t n (tval s.t n + a)))) := by rw [← hH2]; exact upd_same
      have k4 := k1.trans k2
      refine ⟨p, q, s, s.b, u, _, rfl, L.kp k4, hu2, pl, fun H5 k5 L5 => ?_⟩
      exact out.ok .non H5 ((Ks.of k4.kt).trans k5) L5 .non
    · rw [ea] at out
      exact out y e H1 k1.kt hy1 he
  · rw [en] at out
    exact out x e H1 k1.kt (hx.stay k1.stay) he
/-! ### the defs of links, eight -/
theorem ok_Link_withdraw {f C : Addr} {fd : FuncData} {k : Nat} {T : List (Addr × Str)} {X : LkX} (F : Fun K "withdraw" "Link.withdraw" s_Link_withdraw f fd) (LC : LinkC K C)
    (C_require_amount : Cl P w K mg base (L2.CX P w) 4 "require_amount" 1 (sp_require_amount K X)) (M_require_known : ClM P w K mg base (L2.CX P w) 3 C "require_known" (sp_Link_require_known K C X)) (M_change : ClM P w K mg base (L2.CX P w) 7 C "change" (sp_Link_change K C T X)) :
    FnG P w K mg base (L2.CX P w) (k + 8) f fd ["self", "name", "amount"] (sp_op K C T X 2 (op2 withdrawF)) := by
  refine okX F sc_Link_withdraw (fun vs H Q E h => sp_op_len h) (fun cdv A outer s0 H vs Q E gd hr h => ?_)
  obtain ⟨p, q, s, N, us, ds, rfl, hn, L, G, pl, hT, hA, hz, nq, out⟩ := h
  obtain ⟨x, y, dx, dy, rfl, rfl, hx, hy⟩ := two_of hn hA
  simp only [szA] at hz
  replace out : OutP K C T X N H p q (withdrawF s dx dy) Q E := out
  obtain ⟨⟨dv, d0, h1, h2⟩, _⟩ := id L
  refine ⟨_, (pss_cons (ps_expr (pe_clM (E := fun _ => E) LC.cls M_require_known (hr.mono (by omega)) gd (fun σ => passAt (W := fun cls d _ H => E cls d H) (takes_of rfl rfl rfl rfl) σ) (pv 0) (pa_cons (pv 1) pa_nil)))
      (pss_cons (ps_expr (pe_clS (E := fun _ => E) C_require_amount (hr.mono (by omega)) gd (fun σ => passAt (W := fun cls d _ H => E cls d H) (takes_of rfl rfl rfl rfl) σ) (by rfl) (pa_cons (pv 2) pa_nil)))
      (pss_one (ps_expr (pe_clM (E := fun _ => E) LC.cls M_change (hr.mono (by omega)) gd (fun σ => passAt (W := fun cls d _ H => E cls d H) (takes_of rfl rfl rfl rfl) σ) (pv 0) (pa_cons (pe_fld (pv 0) rfl) (pa_cons (pe_dstar (pe_fld (pv 0) rfl) (pv 1) (pe_op op_sub (pe_dget (hu1 hr) (pe_fld (pv 0) rfl) (pv 1) (fun _ _ => rfl)) (pv 2))) pa_nil))))))), ?_⟩
  unfold withdrawF at out
  refine ⟨_, rfl, p, dv, _, rfl, h1, no_attr, _, rfl, p, q, s, x, dx, N, rfl, L, hx, by omega, fun n en H1 k1 => ?_, fun en e H1 k1 he => ?_⟩
  · obtain ⟨rfl, hk⟩ := known_str hx en
    rw [en] at out
    replace out : OutP K C T X N H p q (match amtD dy with | none => .bad .amount dy | some a => changeF s s.b (tput s.t n (tval s.t n - a)) .none) Q E := out
    have hy1 := hy.stay (k1.stay (N := N))
    refine ⟨_, rfl, y, dy, N, rfl, hy1, fun ea => ?_, fun ea e he => ?_⟩
    · obtain ⟨a, ea⟩ := Option.isSome_iff_exists.mp ea
      obtain ⟨rfl, rfl, _⟩ := amtD_some hy1 ea
      rw [ea] at out
      replace out : OutP K C T X N H p q (changeF s s.b (tput s.t n (tval s.t n - a)) .none) Q E := out
      have h11 := k1.at0 h1
      have h21 := k1.at0 h2
      refine ⟨_, rfl, p, dv, _, rfl, h11, no_attr, _, rfl, p, C, dv, _, _, rfl, h11, LC.cls, LC.nb, lkF_b _ _ _, fun u nu => ?_⟩
      have npu : p ≠ u := ne_of_none h11 nu
      have ndu : d0 ≠ u := ne_of_none h21 nu
      have h1u := (upd_ne (o := .dK []) npu).trans h11
      have h2u := (upd_ne (o := .dK []) ndu).trans h21
      refine ⟨_, rfl, p, C, dv, _, _, rfl, h1u, LC.cls, LC.nd, lkF_d _ _ _, d0, tk s.t, rfl, ndu, .inl h2u, upd_same, by rw [tk_len, sizeLine_eq]; have := G.now.len; omega, fun u2 nu2 => ?_⟩
      have nu2u : u2 ≠ u := fun z => by
        rw [z, upd_same] at nu2
        cases nu2
      have nu2' : H1 u2 = none := (upd_ne nu2u).symm.trans nu2
      generalize hH1 : upd (upd (upd H1 u (.dK [])) u (.dK (tk s.t))) u2 (.dK []) = Hm
      have km : Kp [] H1 Hm := fun b o _ e => by
        rw [← hH1]
        have b1 := ne_of_none e nu
        have b2 := ne_of_none e nu2'
        rw [upd_ne b2, upd_ne b1, upd_ne b1]
        exact e
      have hum : Hm u = some (.dK (tk s.t)) := by rw [← hH1, upd_ne nu2u.symm, upd_same]
      have hum2 : Hm u2 = some (.dK []) := by rw [← hH1, upd_same]
      refine ⟨_, rfl, _, rfl, p, C, dv, _, _, rfl, km.at0 h11, LC.cls, LC.nd, lkF_d _ _ _, _, rfl, d0, _, rfl, tk_get (km.at0 h21) hk, _, rfl, _, _, rfl, rfl, Sum.inr n, rfl, hum, hum2, nu2u, ?_⟩
      rw [tk_put]
      generalize hH2 : upd (upd Hm u2 (.dK [(Sum.inr n, .int (tval s.t n - a))])) u (.dK (tk (tput s.t n (tval s.t n - a)))) = H2
      have k2 : Kp [] H1 H2 := fun b o z e => by
        rw [← hH2, upd_ne (ne_of_none e nu), upd_ne (ne_of_none e nu2')]
        exact km b o z e
      have hu2 : H2 u = some (.dK (tk (tput s.t n (tval s.t n - a)))) := by rw [← hH2]; exact upd_same
      have k4 := k1.trans k2
      refine ⟨p, q, s, s.b, u, _, rfl, L.kp k4, hu2, tput_nd _ G.now.nd, by rw [tput_len _ hk]; exact G.now.len, G.now.b1, k4.kt.tab hT, pl, fun W ew z e H5 k5 hz5 he => ?_, fun ew H5 k5 L5 => ?_⟩
      · unfold changeF at out
        rw [ew] at out
        exact out (.ref z) e H5 (k4.kt.trans k5) (db_strs hz5) he
      · unfold changeF at out
        rw [ew] at out
        exact out.ok .non H5 ((Ks.of k4.kt).trans k5) L5 .non
    · rw [ea] at out
      exact out y e H1 k1.kt hy1 he
  · rw [en] at out
    exact out x e H1 k1.kt (hx.stay k1.stay) he
theorem ok_Link_transfer {f C : Addr} {fd : FuncData} {k : Nat} {T : List (Addr × Str)} {X : LkX} (F : Fun K "transfer" "Link.transfer" s_Link_transfer f fd) (LC : LinkC K C) (m_dict : mg "dict" = none)
    (C_require_amount : Cl P w K mg base (L2.CX P w) 4 "require_amount" 1 (sp_require_amount K X)) (M_require_known : ClM P w K mg base (L2.CX P w) 3 C "require_known" (sp_Link_require_known K C X)) (M_change : ClM P w K mg base (L2.CX P w) 7 C "change" (sp_Link_change K C T X)) :
    FnG P w K mg base (L2.CX P w) (k + 8) f fd ["self", "giver", "taker", "amount"] (sp_op K C T X 3 (op3 transferF)) := by
  refine okX F sc_Link_transfer (fun vs H Q E h => sp_op_len h) (fun cdv A outer s0 H vs Q E gd hr h => ?_)
  obtain ⟨p, q, s, N, us, ds, rfl, hn, L, G, pl, hT, hA, hz, nq, out⟩ := h
  obtain ⟨x, y, z, dx, dy, dz, rfl, rfl, hx, hy, hz0⟩ := three_of hn hA
  simp only [szA] at hz
  replace out : OutP K C T X N H p q (transferF s dx dy dz) Q E := out
  obtain ⟨⟨dv, d0, h1, h2⟩, _⟩ := id L
  refine ⟨_, (pss_cons (ps_expr (pe_clM (E := fun _ => E) LC.cls M_require_known (hr.mono (by omega)) gd (fun σ => passAt (W := fun cls d _ H => E cls d H) (takes_of rfl rfl rfl rfl) σ) (pv 0) (pa_cons (pv 1) pa_nil)))
      (pss_cons (ps_expr (pe_clM (E := fun _ => E) LC.cls M_require_known (hr.mono (by omega)) gd (fun σ => passAt (W := fun cls d _ H => E cls d H) (takes_of rfl rfl rfl rfl) σ) (pv 0) (pa_cons (pv 2) pa_nil)))
      (pss_cons (ps_expr (pe_clS (E := fun _ => E) C_require_amount (hr.mono (by omega)) gd (fun σ => passAt (W := fun cls d _ H => E cls d H) (takes_of rfl rfl rfl rfl) σ) (by rfl) (pa_cons (pv 3) pa_nil)))
      (pss_cons (ps_set (i := 4) sc_Link_transfer.nd rfl (.inl rfl) (pe_callTy (cr_dictD (K := K) rfl) (by rfl) m_dict (by decide +kernel) (pa_cons (pe_fld (pv 0) rfl) pa_nil)))
      (pss_cons (ps_daug (hu1 hr) (pv 4) (pv 1) (pv 3) in_sub (fun _ _ _ => rfl))
      (pss_cons (ps_daug (hu1 hr) (pv 4) (pv 2) (pv 3) in_add (fun _ _ _ => rfl))
      (pss_one (ps_expr (pe_clM (E := fun _ => E) LC.cls M_change (hr.mono (by omega)) gd (fun σ => passAt (W := fun cls d _ H => E cls d H) (takes_of rfl rfl rfl rfl) σ) (pv 0) (pa_cons (pe_fld (pv 0) rfl) (pa_cons (pv 4) pa_nil))))))))))), ?_⟩
  unfold transferF at out
  refine ⟨_, rfl, p, dv, _, rfl, h1, no_attr, _, rfl, p, q, s, x, dx, N, rfl, L, hx, by omega, fun n en H1 k1 => ?_, fun en e H1 k1 he => ?_⟩
  · obtain ⟨rfl, hk⟩ := known_str hx en
    rw [en] at out
    replace out : OutP K C T X N H p q (match knownD s.t dy with | none => .bad .unknown dy | some k => match amtD dz with | none => .bad .amount dz | some a => changeF s s.b (moveT s.t n k a) .none) Q E := out
    have h11 := k1.at0 h1
    have hy1 := hy.stay (k1.stay (N := N))
    refine ⟨_, rfl, p, dv, _, rfl, h11, no_attr, _, rfl, p, q, s, y, dy, N, rfl, L.kp k1, hy1, by omega, fun m em H2 k2 => ?_, fun em e H2 k2 he => ?_⟩
    · obtain ⟨rfl, hm⟩ := known_str hy em
      rw [em] at out
      replace out : OutP K C T X N H p q (match amtD dz with | none => .bad .amount dz | some a => changeF s s.b (moveT s.t n m a) .none) Q E := out
      have k12 := k1.trans k2
      have hz2 := hz0.stay (k12.stay (N := N))
      refine ⟨_, rfl, z, dz, N, rfl, hz2, fun ea => ?_, fun ea e he => ?_⟩
      · obtain ⟨a, ea⟩ := Option.isSome_iff_exists.mp ea
        obtain ⟨rfl, rfl, _⟩ := amtD_some hz2 ea
        rw [ea] at out
        replace out : OutP K C T X N H p q (changeF s s.b (moveT s.t n m a) .none) Q E := out
        have h12 := k12.at0 h1
        have h22 := k12.at0 h2
        refine ⟨_, rfl, p, C, dv, _, _, rfl, h12, LC.cls, LC.nd, lkF_d _ _ _, d0, _, rfl, .inl h22, fun u H3 nu k3 hu => ?_⟩
        have tl := G.now.len
        have sl : ∀ t : Tab, t.length ≤ 40 → (tk t).length < sizeLine := fun t h => by rw [tk_len, sizeLine_eq]; omega
        have l1 : (tput s.t n (tval s.t n - a)).length ≤ 40 := by rw [tput_len _ hk]; exact tl
        have hm1 : m ∈ keysT (tput s.t n (tval s.t n - a)) := by rw [tput_keys _ hk]; exact hm
        refine ⟨_, rfl, _, rfl, u, _, rfl, tk_get hu hk, _, rfl, _, _, rfl, rfl, _, DPut.k (k := Sum.inr n) hu (sl _ tl), ?_⟩
        rw [tk_put]
        refine ⟨_, rfl, _, rfl, u, _, rfl, tk_get upd_same hm1, _, rfl, _, _, rfl, rfl, _, DPut.k (k := Sum.inr m) upd_same (sl _ l1), ?_⟩
        rw [tk_put]
        generalize hH4 : upd (upd H3 u (.dK (tk (tput s.t n (tval s.t n - a))))) u (.dK (tk (tput (tput s.t n (tval s.t n - a)) m (tval (tput s.t n (tval s.t n - a)) m + a)))) = H4
        have k4 : Kp [] H H4 := fun b o w e => by
          have := (k12.trans k3) b o w e
          have nb : b ≠ u := ne_of_none (k12.at0 e) nu
          rw [← hH4, upd_ne nb, upd_ne nb]
          exact this
        have hu4 : H4 u = some (.dK (tk (moveT s.t n m a))) := by rw [← hH4]; exact upd_same
        have h14 := k4.at0 h1
        refine ⟨_, rfl, p, dv, _, rfl, h14, no_attr, _, rfl, p, C, dv, _, _, rfl, h14, LC.cls, LC.nb, lkF_b _ _ _, _, rfl, ?_⟩
        refine ⟨p, q, s, s.b, u, _, rfl, L.kp k4, hu4, tput_nd _ (tput_nd _ G.now.nd), by unfold moveT; rw [tput_len _ hm1]; exact l1, G.now.b1, k4.kt.tab hT, pl, fun W ew z e H5 k5 hz5 he => ?_, fun ew H5 k5 L5 => ?_⟩
        · unfold changeF at out
          rw [ew] at out
          exact out (.ref z) e H5 (k4.kt.trans k5) (db_strs hz5) he
        · unfold changeF at out
          rw [ew] at out
          exact out.ok .non H5 ((Ks.of k4.kt).trans k5) L5 .non
      · rw [ea] at out
        exact out z e H2 k12.kt hz2 he
    · rw [em] at out
      exact out y e H2 (k1.trans k2).kt (hy.stay (k1.trans k2).stay) he
  · rw [en] at out
    exact out x e H1 k1.kt (hx.stay k1.stay) he
def sp_Link_spare_of (K : PySem.W.Frag) (C : Addr) (X : LkX) : Sp := fun vs H Q E => ∃ (p q : Addr) (s : LkS) (v : V) (d : PyData) (N : Addr → Prop), vs = [.ref p, v] ∧ LkAt C H p q s ∧ Good s ∧ Db K N H v d ∧ szD d ≤ 1000000 ∧
  (∀ n, knownD s.t d = some n → ∀ m H', Kp [] H H' → IsLB s.b (valsT (tdrop s.t n)) m → Q (.int (tval s.t n - m)) H') ∧ (knownD s.t d = none → ∀ e H', Kp [] H H' → H' e = none → E (.ref X.unknown) (some e) (upd H' e (.xd [("value", v)])))
theorem ok_Link_spare_of {f C : Addr} {fd : FuncData} {k : Nat} {X : LkX} (F : Fun K "spare_of" "Link.spare_of" s_Link_spare_of f fd) (LC : LinkC K C)
    (C_least_beside : Cl P w K mg base CX0 2 "least_beside" 2 (sp_least_beside K)) (M_require_known : ClM P w K mg base (L2.CX P w) 3 C "require_known" (sp_Link_require_known K C X)) :
    FnG P w K mg base (L2.CX P w) (k + 4) f fd ["self", "name"] (sp_Link_spare_of K C X) := by
  refine okX F sc_Link_spare_of (fun vs H Q E h => ?_) (fun cdv A outer s0 H vs Q E gd hr h => ?_)
  · obtain ⟨p, q, s, v, d, N, rfl, _⟩ := h
    rfl
  obtain ⟨p, q, s, v, d, N, rfl, L, G, hD, hz, w1, w2⟩ := h
  obtain ⟨⟨dv, d0, h1, h2⟩, _⟩ := id L
  refine ⟨_, (pss_cons (ps_expr (pe_clM (E := fun _ => E) LC.cls M_require_known (hr.mono (by omega)) gd (fun σ => passAt (W := fun cls d _ H => E cls d H) (takes_of rfl rfl rfl rfl) σ) (pv 0) (pa_cons (pv 1) pa_nil)))
      (pss_cons (ps_lock (ps_setLcW (i := 2) (own := [("other", 3)]) (g := (gName 3)) rfl sc_Link_spare_of.nd rfl rfl (sw_true rfl rfl rfl (by decide +kernel)) (pi_keys (pe_fldK (K := K) rfl (pv 0) rfl)) (blkOk_by (own := [("other", 3)]) (N := ["self", "name", "others", "other"]) (sc := defScope s_Link_spare_of) (by decide +kernel)) (fun _ _ _ _ _ => (pg_name (i := 3) sc_Link_spare_of.nd rfl (.inl rfl))) (fun _ _ _ _ _ => (pts_one (pt_cmpR op_ne (pv 3) (pv 1) (nomark _)))) (fun _ _ _ _ _ => (pe_dget (hu1 hr) (pe_fldK (K := K) rfl (pv 0) rfl) (pv 3) (fun _ _ => rfl)))))
      (pss_one (ps_ret (pe_op op_sub (pe_dget (hu1 hr) (pe_fld (pv 0) rfl) (pv 1) (fun _ _ => rfl)) (pe_cl C_least_beside (hr.mono (by omega)) gd pass0 (by rfl) (pa_cons (pv 2) (pa_cons (pe_fld (pv 0) rfl) pa_nil)))))))), ?_⟩
  refine ⟨_, rfl, p, dv, _, rfl, h1, no_attr, _, rfl, p, q, s, v, d, N, rfl, L, hD, hz, fun n en H1 k1 => ?_, w2⟩
  obtain ⟨rfl, hk⟩ := known_str hD en
  have h11 := k1.at0 h1
  have h21 := k1.at0 h2
  have npd : p ≠ d0 := ne_of h1 h2 fun z => nomatch z
  refine ⟨d0, _, h21, trivial, fun od => ?_⟩
  have h1L : (upd H1 d0 (.frz od (.dK (tk s.t)))) p = some _ := (upd_ne npd).trans h11
  refine ⟨_, rfl, p, C, dv, _, _, rfl, h1L, LC.cls, LC.nd, lkF_d _ _ _, d0, od, rfl, .inl ⟨tk s.t, upd_same, _, _, _, walk_keys, small1000 (by rw [tk_len]; have := G.now.len; omega), fun D H2 nD k2 hD2 => ?_⟩⟩
  refine ⟨fun i acc H3 => acc = (valsT (tdrop (s.t.take i) n)).map V.int ∧ Kp [] (upd H1 d0 (.frz od (.dK (tk s.t)))) H3, ⟨rfl, k2⟩, fun i acc H3 _ ⟨_, z⟩ => z.at0 upd_same, ?_, ?_⟩
  · rintro i acc y H3 _ hi ⟨ea, k3⟩ hD3 ⟨rfl, kk, v, e, rfl⟩
    obtain ⟨m, b, e2, rfl, rfl⟩ := tk_at e
    obtain ⟨hm, hv⟩ := tk_in G.now.nd e2
    refine ⟨rfl, _, rfl, _, rfl, rfl, ?_⟩
    by_cases hmn : m = n
    · subst hmn
      refine ⟨_, rfl, ?_⟩
      refine (show if (!decide (V.str m = V.str m)) = true then _ else _ from ?_)
      rw [decide_eq_true rfl]
      refine (show if (!true) = true then _ else _ from iteF ?_)
      exact ⟨hD3, by rw [drop_take e2, if_neg (fun z => z rfl)]; exact ea, k3⟩
    · refine ⟨_, rfl, ?_⟩
      refine (show if (!decide (V.str m = V.str n)) = true then _ else _ from ?_)
      rw [decide_eq_false (fun z => hmn (V.str.inj z))]
      refine (show if (!false) = true then _ else _ from iteT ?_)
      refine ⟨_, rfl, p, C, dv, _, _, rfl, k3.at0 h1L, LC.cls, LC.nd, lkF_d _ _ _, _, rfl, d0, _, rfl, tk_getF (k3.at0 upd_same) hm, hD3, fun H4 m4 h4 => ?_⟩
      refine ⟨?_, k3.md (.inl nD) m4⟩
      rw [drop_take e2, if_pos hmn, ea, hv]
      unfold valsT
      rw [List.map_append, List.map_append]
      rfl
  rintro acc H3 _ hD3 ⟨ea, k3⟩
  rw [tk_len, List.take_of_length_le (Nat.le_refl _)] at ea
  subst ea
  have nDd : D ≠ d0 := fun z => by
    rw [z, upd_same] at nD
    cases nD
  refine ⟨k3.at0 upd_same, ?_⟩
  have k4 := k1.trans (unlockL h21 k3)
  have h14 := k4.at0 h1
  have h24 := k4.at0 h2
  have vl : (valsT (tdrop s.t n)).length ≤ 40 := by
    unfold valsT
    rw [List.length_map]
    exact Nat.le_trans (tdrop_len n) G.now.len
  refine ⟨_, rfl, p, C, dv, _, _, rfl, h14, LC.cls, LC.nd, lkF_d _ _ _, _, rfl, d0, _, rfl, tk_get h24 hk, ?_⟩
  refine ⟨_, rfl, _, rfl, p, C, dv, _, _, rfl, h14, LC.cls, LC.nb, lkF_b _ _ _, D, valsT (tdrop s.t n), s.b, rfl, .inl (sqL ((upd_ne nDd).trans hD3)), vl, G.now.b1, fun m H5 k5 lb => ?_⟩
  exact ⟨_, _, rfl, rfl, w1 n en m H5 (k4.trans k5) lb⟩
/-! ### the defs of links, nine -/
theorem afterS_snoc : ∀ (l : List (Str × Int)) (t : Tab) (p : Str × Int), afterS t (l ++ [p]) = tput (afterS t l) p.1 (tval (afterS t l) p.1 - p.2)
  | [], _, _ => rfl
  | q :: r, t, p => afterS_snoc r (tput t q.1 (tval t q.1 - q.2)) p
theorem find_first {α : Type} {f : α → Bool} : ∀ {l : List α} {i : Nat} {x : α}, l[i]? = some x → f x = true → (∀ (j : Nat) (y : α), j < i → l[j]? = some y → f y = false) → l.find? f = some x
  | [], _, _, e, _, _ => by cases e
  | a :: r, 0, x, e, h, _ => by
    cases e
    rw [List.find?_cons, h]
  | a :: r, i + 1, x, e, h, n => by
    rw [List.find?_cons, n 0 a (by omega) rfl]
    exact find_first (i := i) e h fun j y hj hy => n (j + 1) y (by omega) hy
theorem find_none {α : Type} {f : α → Bool} {l : List α} (n : ∀ (j : Nat) (y : α), l[j]? = some y → f y = false) : l.find? f = none := by
  rw [List.find?_eq_none]
  intro x hx
  obtain ⟨j, hj⟩ := List.getElem?_of_mem hx
  rw [n j x hj]
  exact Bool.false_ne_true
theorem knownD_nm {t : Tab} {n : Str} (h : isNm n = true) : knownD t (.str n) = if n ∈ keysT t then some n else none := by
  unfold knownD
  rw [show nameD (.str n) = some n from if_pos h]
  rfl
theorem grantT_none {g : Int} {t : Tab} (h : poorN t = none) : grantT g t = t := by
  unfold grantT
  rw [h]
theorem grantT_some {g : Int} {t : Tab} {n : Str} (h : poorN t = some n) : grantT g t = tput t n (tval t n + g) := by
  unfold grantT
  rw [h]
theorem poorN_in {t : Tab} {n : Str} (h : poorN t = some n) : n ∈ keysT t := by
  unfold poorN at h
  cases e : ordP t with
  | nil => rw [e] at h; cases h
  | cons q r =>
    rw [e] at h
    cases h
    have : q ∈ ordP t := by rw [e]; exact List.mem_cons_self
    obtain ⟨p, hp, rfl⟩ := List.mem_map.mp ((ordP_perm t).mem_iff.mp this)
    exact List.mem_map.mpr ⟨p, hp, rfl⟩
theorem ok_Link_tick {f C : Addr} {fd : FuncData} {k : Nat} {T : List (Addr × Str)} {X : LkX} (F : Fun K "tick" "Link.tick" s_Link_tick f fd) (LC : LinkC K C) (m_sum : mg "sum" = none) (m_dict : mg "dict" = none)
    (t_BadSpends : Told P w K mg base "BadSpends" X.spends) (t_OverBudget : Told P w K mg base "OverBudget" X.over)
    (C_is_spends : Cl P w K mg base CX0 3 "is_spends" 1 (sp_is_spends K)) (C_poorest_name : Cl P w K mg base CX0 4 "poorest_name" 1 (sp_poorest_name K T)) (M_require_known : ClM P w K mg base (L2.CX P w) 3 C "require_known" (sp_Link_require_known K C X)) (M_keep : ClM P w K mg base CX0 1 C "keep" (sp_Link_keep C T)) :
    FnG P w K mg base (L2.CX P w) (k + 5) f fd ["self", "spends"] (sp_op K C T X 1 (op1 tickF)) := by
  obtain ⟨_, _, V_BadSpends, F_BadSpends⟩ := t_BadSpends
  obtain ⟨_, _, V_OverBudget, F_OverBudget⟩ := t_OverBudget
  refine okX F sc_Link_tick (fun vs H Q E h => sp_op_len h) (fun cdv A outer s0 H vs Q E gd hr h => ?_)
  obtain ⟨p, q, s, N, us, ds, rfl, hn, L, G, pl, hT, hA, hz, nq, out⟩ := h
  obtain ⟨x, dx, rfl, rfl, hx⟩ := one_of hn hA
  have hr2 := hr.mono (show 1 + 1 ≤ k + 4 by omega)
  simp only [szA] at hz
  replace out : OutP K C T X N H p q (tickF s dx) Q E := out
  obtain ⟨⟨dv, d0, h1, h2⟩, _⟩ := id L
  refine ⟨_, (pss_cons (ps_if (pt_not (pt_val (pe_cl C_is_spends (hr.mono (by omega)) gd pass0 (by rfl) (pa_cons (pv 1) pa_nil))))
      (pss_one (ps_raise rfl (takes_of rfl rfl rfl rfl) (pmk_value V_BadSpends F_BadSpends hr2 (by rfl) (pv 1))))
      pss_nil)
      (pss_cons (ps_forW (passes_of rfl) rfl (pi_tup (pv 1)) (pg_tup rfl (pgs_cons (pg_name (i := 2) sc_Link_tick.nd rfl (.inl rfl)) (pgs_cons (pg_name (i := 3) sc_Link_tick.nd rfl (.inl rfl)) pgs_nil)))
      (pss_one (ps_expr (pe_clM (E := fun _ => E) LC.cls M_require_known (hr.mono (by omega)) gd (fun σ => passAt (W := fun cls d _ H => E cls d H) (takes_of rfl rfl rfl rfl) σ) (pv 0) (pa_cons (pv 2) pa_nil)))))
      (pss_cons (ps_set (i := 4) sc_Link_tick.nd rfl (.inl rfl) (pe_callB (cr_sumK (K := K) rfl rfl) (by rfl) m_sum (by decide +kernel) (pa_cons (pe_lcW (own := [("name", 2), ("amount", 3)]) (g := (gTup K 2 (gCons (gName 2) (gCons (gName 3) gNil)))) rfl sc_Link_tick.nd (pi_tup (pv 1)) (blkOk_by (own := [("name", 2), ("amount", 3)]) (N := ["self", "spends", "name", "amount", "spent", "after", "granted"]) (sc := defScope s_Link_tick) (by decide +kernel)) (fun _ _ _ _ _ => (pg_tup rfl (pgs_cons (pg_name (i := 2) sc_Link_tick.nd rfl (.inl rfl)) (pgs_cons (pg_name (i := 3) sc_Link_tick.nd rfl (.inl rfl)) pgs_nil)))) (fun _ _ _ _ _ => pts_nil) (fun _ _ _ _ _ => (pv 3))) pa_nil)))
      (pss_cons (ps_if (pt_cmpR op_gt (pv 4) (pe_fld (pv 0) rfl) (nomark _))
      (pss_one (ps_raise rfl (takes_of rfl rfl rfl rfl) (pmk_value V_OverBudget F_OverBudget hr2 (by rfl) (pv 4))))
      pss_nil)
      (pss_cons (ps_set (i := 5) sc_Link_tick.nd rfl (.inl rfl) (pe_callTy (cr_dictD (K := K) rfl) (by rfl) m_dict (by decide +kernel) (pa_cons (pe_fld (pv 0) rfl) pa_nil)))
      (pss_cons (ps_forW (passes_of rfl) rfl (pi_tup (pv 1)) (pg_tup rfl (pgs_cons (pg_name (i := 2) sc_Link_tick.nd rfl (.inl rfl)) (pgs_cons (pg_name (i := 3) sc_Link_tick.nd rfl (.inl rfl)) pgs_nil)))
      (pss_one (ps_daug (hu1 hr) (pv 5) (pv 2) (pv 3) in_sub (fun _ _ _ => rfl))))
      (pss_cons (ps_set (i := 6) sc_Link_tick.nd rfl (.inl rfl) (pe_cl C_poorest_name (hr.mono (by omega)) gd pass0 (by rfl) (pa_cons (pv 5) pa_nil)))
      (pss_cons (ps_if (pt_cmpR op_notN (pv 6) pe_non (nomark _))
      (pss_one (ps_daug (hu1 hr) (pv 5) (pv 6) (pe_fld (pv 0) rfl) in_add (fun _ _ _ => rfl)))
      pss_nil)
      (pss_cons (ps_expr (pe_clM (E := fun _ _ _ _ => False) LC.cls M_keep (hr.mono (by omega)) gd passG (pv 0) (pa_cons (pe_fld (pv 0) rfl) (pa_cons (pv 5) pa_nil))))
      (pss_one (ps_ret (pv 6)))))))))))), ?_⟩
  unfold tickF at out
  refine ⟨_, rfl, x, dx, N, rfl, hx, by omega, fun H1 k1 => ?_⟩
  refine ⟨_, rfl, ?_⟩
  cases el : spendsD dx with
  | none =>
    rw [el] at out
    exact (show if (!false) = true then _ else _ from iteT ⟨_, rfl, fun e he => out x e H1 k1.kt (hx.stay k1.stay) he⟩)
  | some l =>
  refine (show if (!true) = true then _ else _ from iteF ?_)
  rw [el] at out
  replace out : OutP K C T X N H p q (match l.find? fun p => decide (p.1 ∉ keysT s.t) with
    | some p => .bad .unknown (.str p.1)
    | none => if s.b < totS l then .bad .over (.int (totS l)) else keepF s s.b (grantT s.b (afterS s.t l)) (optS (poorN (afterS s.t l)))) Q E := out
  obtain ⟨a, ys, rfl, ha, sp, yz⟩ : ∃ (a : Addr) (ys : List V), x = .ref a ∧ SqT K H a ys ∧ SpL K H ys l ∧ ys.length ≤ 1000000 := by
    cases hx with
    | tup sq al =>
      rename_i a ys ds
      replace el : ((spendsL ds).bind fun l => if ascN l = true then some l else none) = some l := el
      cases e2 : spendsL ds with
      | none => rw [e2] at el; cases el
      | some r =>
        rw [e2] at el
        replace el : (if ascN r = true then some r else none) = some l := el
        by_cases c : ascN r = true
        · rw [if_pos c] at el
          cases el
          have z1 := al.len
          have z2 := szA_len ds
          simp only [szD] at hz
          exact ⟨_, _, rfl, sq, spends_parts al e2, by omega⟩
        · rw [if_neg c] at el
          cases el
    | _ => cases el
  have ll := sp.len
  -- the names are known
  refine ⟨_, rfl, a, rfl, ⟨_, k1.tup0 ha⟩, _, _, _, walk_tup (xs := ys), fun i σ H2 => ∃ v2 v3 : Option V, σ = [some (.ref p), some (.ref a), v2, v3, none, none, none] ∧ Kp [] H H2 ∧ ∀ j y, j < i → l[j]? = some y → y.1 ∈ keysT s.t, ⟨none, none, rfl, k1, fun j y hj => by omega⟩, fun i σ H2 _ ⟨_, _, _, k2, _⟩ => k2.tup0 ha, ?_, ?_⟩
  · rintro i y σ H2 _ hi ⟨v2, v3, rfl, k2, kn⟩ ⟨rfl, hy⟩
    obtain ⟨b, n, z, rfl, sq, hl⟩ := (sp.kp k2).get hy
    refine ⟨b, _, rfl, sq, rfl, _, _, rfl, _, _, rfl, rfl, ?_⟩
    have nn := (sp.nm (n, z) (List.mem_of_getElem? hl)).1
    refine ⟨_, rfl, p, dv, _, rfl, k2.at0 h1, no_attr, _, rfl, p, q, s, .str n, .str n, N, rfl, L.kp k2, .str n, by simp only [szD]; have : n.length ≤ 8 := isNm_len nn; omega, fun m em H3 k3 => ?_, fun em e H3 k3 he => ?_⟩
    · have hm : n ∈ keysT s.t := by
        rw [knownD_nm nn] at em
        by_cases c : n ∈ keysT s.t
        · exact c
        · rw [if_neg c] at em
          cases em
      refine ⟨_, _, rfl, k2.trans k3, fun j y hj hl2 => ?_⟩
      rcases Nat.lt_succ_iff_lt_or_eq.mp hj with w | w
      · exact kn j y w hl2
      · rw [w, hl] at hl2
        cases hl2
        exact hm
    · have hm : n ∉ keysT s.t := fun c => by
        rw [knownD_nm nn, if_pos c] at em
        cases em
      have ef : l.find? (fun p => decide (p.1 ∉ keysT s.t)) = some (n, z) := find_first hl (decide_eq_true hm) fun j y hj hl2 => decide_eq_false fun w => w (kn j y hj hl2)
      rw [ef] at out
      exact out (.str n) e H3 ((k2.trans k3).kt) (.str n) he
  rintro σ H2 ⟨v2, v3, rfl, k2, kn⟩
  have ef : l.find? (fun p => decide (p.1 ∉ keysT s.t)) = none := find_none fun j y hy => decide_eq_false fun w => w (kn j y (by rw [ll]; exact (List.getElem?_eq_some_iff.mp hy).1) hy)
  have hk : ∀ y ∈ l, y.1 ∈ keysT s.t := fun y hy => by
    obtain ⟨j, hj⟩ := List.getElem?_of_mem hy
    exact kn j y (by rw [ll]; exact (List.getElem?_eq_some_iff.mp hj).1) hj
  rw [ef] at out
  replace out : OutP K C T X N H p q (if s.b < totS l then .bad .over (.int (totS l)) else keepF s s.b (grantT s.b (afterS s.t l)) (optS (poorN (afterS s.t l)))) Q E := out
  have lz : ys.length < sizeLine := by rw [sizeLine_eq]; omega
  -- what is spent
  refine ⟨_, rfl, a, rfl, ⟨_, k2.tup0 ha⟩, _, _, _, walk_tup (xs := ys), lz, fun D H3 nD k3 hD => ?_⟩
  refine ⟨fun i acc H4 => acc = ((l.take i).map (·.2)).map V.int ∧ Kp [] H H4, ⟨rfl, k2.trans k3⟩, fun i acc H4 _ ⟨_, z⟩ => z.tup0 ha, ?_, ?_⟩
  · rintro i acc y H4 _ hi ⟨ea, k4⟩ hD4 ⟨rfl, hy⟩
    obtain ⟨b, n, z, rfl, sq, hl⟩ := (sp.kp k4).get hy
    refine ⟨b, _, rfl, sq, rfl, _, _, rfl, _, _, rfl, rfl, rfl, yesT ?_⟩
    refine ⟨_, rfl, hD4, fun H5 m5 h5 => ⟨?_, k4.md (.inl (k2.free0 nD)) m5⟩⟩
    rw [List.take_add_one, hl, List.map_append, List.map_append, ea]
    rfl
  rintro acc H4 _ hD4 ⟨ea, k4⟩
  rw [ll, List.take_of_length_le (Nat.le_refl _)] at ea
  subst ea
  refine ⟨D, _, rfl, sqL hD4, ?_⟩
  have h14 := k4.at0 h1
  refine ⟨_, rfl, _, rfl, p, C, dv, _, _, rfl, h14, LC.cls, LC.nb, lkF_b _ _ _, _, _, rfl, rfl, _, rfl, ?_⟩
  by_cases hov : s.b < totS l
  · rw [if_pos hov] at out
    refine (show if decide (totS l > s.b) = true then _ else _ from ifYes hov ?_)
    exact ⟨_, rfl, fun e he => out (.int (totS l)) e H4 k4.kt (.int _) he⟩
  refine (show if decide (totS l > s.b) = true then _ else _ from ifNo hov ?_)
  rw [if_neg hov] at out
  -- the balances behind the spends
  refine ⟨_, rfl, p, C, dv, _, _, rfl, h14, LC.cls, LC.nd, lkF_d _ _ _, d0, _, rfl, .inl (k4.at0 h2), fun u H5 nu k5 hu => ?_⟩
  have k45 := k4.trans k5
  have nup : u ≠ p := fun z => by rw [z, h14] at nu; cases nu
  have nu0 : H u = none := k4.free0 nu
  refine ⟨_, rfl, a, rfl, ⟨_, k45.tup0 ha⟩, _, _, _, walk_tup (xs := ys), fun i σ H6 => ∃ v2 v3 : Option V, σ = [some (.ref p), some (.ref a), v2, v3, some (.int (totS l)), some (.ref u), none] ∧ Kp [] H H6 ∧ H6 u = some (.dK (tk (afterS s.t (l.take i)))), ⟨_, _, rfl, k45, hu⟩, fun i σ H6 _ ⟨_, _, _, k6, _⟩ => k6.tup0 ha, ?_, ?_⟩
  · rintro i y σ H6 _ hi ⟨v2, v3, rfl, k6, hu6⟩ ⟨rfl, hy⟩
    obtain ⟨b, n, z, rfl, sq, hl⟩ := (sp.kp k6).get hy
    refine ⟨b, _, rfl, sq, rfl, _, _, rfl, _, _, rfl, rfl, ?_⟩
    have hkt : ∀ y ∈ l.take i, y.1 ∈ keysT s.t := fun y hy => hk y (List.mem_of_mem_take hy)
    have hn6 : n ∈ keysT (afterS s.t (l.take i)) := by rw [afterS_keys _ _ hkt]; exact hk _ (List.mem_of_getElem? hl)
    refine ⟨_, rfl, _, rfl, u, _, rfl, tk_get hu6 hn6, _, rfl, _, _, rfl, rfl, _, DPut.k (k := Sum.inr n) hu6 (by rw [tk_len, afterS_len _ _ hkt, sizeLine_eq]; have := G.now.len; omega), ?_⟩
    rw [tk_put]
    refine ⟨_, _, rfl, fun b o w e => ?_, ?_⟩
    · rw [upd_ne (ne_of_none e nu0)]
      exact k6 b o w e
    · rw [upd_same, List.take_add_one, hl]
      show _ = some (HO.dK (tk (afterS s.t (l.take i ++ [(n, z)]))))
      rw [afterS_snoc]
  rintro σ H6 ⟨v4, v5, rfl, k6, hu6⟩
  rw [ll, List.take_of_length_le (Nat.le_refl _)] at hu6
  have ek := afterS_keys l s.t hk
  have nd6 : (keysT (afterS s.t l)).Nodup := by rw [ek]; exact G.now.nd
  have len6 : (afterS s.t l).length ≤ 40 := by rw [afterS_len l s.t hk]; exact G.now.len
  refine ⟨_, rfl, u, _, rfl, hu6, nd6, len6, k6.kt.tab hT, fun H7 k7 => ?_⟩
  have kt7 : Kt T H H7 := k6.kt.trans k7
  have hu7 : H7 u = some (.dK (tk (afterS s.t l))) := k7.ext _ _ hu6 fun _ z => nomatch z
  have h17 : H7 p = some (.ins C dv (lkF s.b d0 q)) := kt7.ext _ _ h1 fun _ z => nomatch z
  cases ep : poorN (afterS s.t l) with
  | none =>
    rw [ep, grantT_none ep] at out
    refine ⟨_, rfl, rfl, _, rfl, ?_⟩
    refine (show if (!decide (V.non = V.non)) = true then _ else _ from iteNS rfl ?_)
    refine ⟨_, rfl, p, dv, _, rfl, h17, no_attr, _, rfl, p, C, dv, _, _, rfl, h17, LC.cls, LC.nb, lkF_b _ _ _, _, rfl, ?_⟩
    refine ⟨p, q, s, s.b, u, _, rfl, L.kt kt7, hu7, pl, fun H8 k8 L8 => ?_⟩
    exact ⟨_, rfl, out.ok .non H8 ((Ks.of kt7).trans k8) L8 .non⟩
  | some n =>
    rw [ep, grantT_some ep] at out
    refine ⟨_, rfl, rfl, _, rfl, ?_⟩
    refine (show if (!decide (V.str n = V.non)) = true then _ else _ from ?_)
    rw [decide_eq_false (fun z => nomatch z)]
    refine (show if (!false) = true then _ else _ from iteT ?_)
    have hn7 := poorN_in ep
    refine ⟨_, rfl, _, rfl, u, _, rfl, tk_get hu7 hn7, _, rfl, p, C, dv, _, _, rfl, h17, LC.cls, LC.nb, lkF_b _ _ _, _, _, rfl, rfl, _, DPut.k (k := Sum.inr n) hu7 (by rw [tk_len, sizeLine_eq]; omega), ?_⟩
    rw [tk_put]
    have kt8 : Kt T H (upd H7 u (.dK (tk (tput (afterS s.t l) n (tval (afterS s.t l) n + s.b))))) :=
      ((Ks.of (S := Nul) kt7).putD hu7 (.inr (nt0 nu0))).toKt fun _ z => z.elim
    have h18 : (upd H7 u (.dK (tk (tput (afterS s.t l) n (tval (afterS s.t l) n + s.b))))) p = some (.ins C dv (lkF s.b d0 q)) := (upd_ne nup.symm).trans h17
    refine ⟨_, rfl, p, dv, _, rfl, h18, no_attr, _, rfl, p, C, dv, _, _, rfl, h18, LC.cls, LC.nb, lkF_b _ _ _, _, rfl, ?_⟩
    refine ⟨p, q, s, s.b, u, _, rfl, L.kt kt8, upd_same, pl, fun H8 k8 L8 => ?_⟩
    exact ⟨_, rfl, out.ok (.str n) H8 ((Ks.of kt8).trans k8) L8 (.str n)⟩
/-! ### a new link -/
theorem good_new {g : Int} (h1 : 1 ≤ g) (h2 : g ≤ 1000000) (ps : List (Int × Tab)) (hp : ps = []) : Good ⟨g, [], ps⟩ := by
  subst hp
  exact ⟨⟨h1, h2, Nat.zero_le _, .nil, fun _ h => (nomatch h), gap_nil g⟩, fun _ z => nomatch z⟩
theorem link_new {K : PySem.W.Frag} {C : Addr} {X : LkX} {H : Hp} {p dx : Addr} {g : Int} {Q : VK} {E : XK} (n1 : H p = none) (n2 : H dx = none) (ne : dx ≠ p) (g1 : 1 ≤ g) (g2 : g ≤ 1000000)
    (qq : ∀ q H', Kp [] H H' → H q = none → LkAt C H' p q ⟨g, [], []⟩ → Q .non H') : sp_Link___init__ K C X [.ref p, .int g] (upd (upd H dx (.own p)) p (.ins C dx [])) Q E := by
  refine ⟨p, dx, _, _, (fun _ => False), rfl, upd_same, .int g, fun z => ?_, fun g' eg q H1 nq ext L1 => ?_⟩
  · rw [show budD (.int g) = some g from if_pos ⟨g1, g2⟩] at z
    cases z
  obtain rfl : g = g' := by
    rw [show budD (.int g) = some g from if_pos ⟨g1, g2⟩] at eg
    exact Option.some.inj eg
  have nqp : q ≠ p := fun z => by rw [z, upd_same] at nq; cases nq
  have nqd : q ≠ dx := fun z => by rw [z, upd_ne ne, upd_same] at nq; cases nq
  have nq0 : H q = none := by rw [upd_ne nqp, upd_ne nqd] at nq; exact nq
  have k1 : Kp [] H H1 := fun b o _ e => ext b o (by
    have : b ≠ p := fun z => by rw [z, n1] at e; cases e
    have : b ≠ dx := fun z => by rw [z, n2] at e; cases e
    rw [upd_ne ‹b ≠ p›, upd_ne ‹b ≠ dx›]
    exact e) fun z => by rw [z, n1] at e; cases e
  exact qq q H1 k1 nq0 L1
/-! ### a clone -/
def sp_Link_clone (C : Addr) : Sp := fun vs H Q _ => ∃ (p q : Addr) (s : LkS), vs = [.ref p] ∧ LkAt C H p q s ∧ Good s ∧ ∀ p2 q2 H', Kp [] H H' → H p2 = none → H q2 = none → p2 ≠ q2 → LkAt C H' p2 q2 ⟨s.b, s.t, []⟩ → Q (.ref p2) H'
theorem ok_Link_clone {f C : Addr} {fd : FuncData} {k : Nat} {X : LkX} (F : Fun K "clone" "Link.clone" s_Link_clone f fd) (LC : LinkC K C) (m_dict : mg "dict" = none)
    (N_Link : ClN P w K mg base (L2.CX P w) 5 "Link" C (sp_Link___init__ K C X)) :
    FnG P w K mg base CX0 (k + 7) f fd ["self"] (sp_Link_clone C) := by
  refine ok0 F sc_Link_clone (fun vs H Q E h => ?_) (fun cdv A outer s H vs Q E gd hr h => ?_)
  · obtain ⟨p, q, s, rfl, _⟩ := h
    rfl
  · obtain ⟨p, q, s0, rfl, L, G, out⟩ := h
    refine ⟨_, (pss_cons (ps_set (i := 1) sc_Link_clone.nd rfl (.inl rfl) (pe_clN (E := fun _ _ _ _ => False) N_Link (hr.mono (by omega)) gd passFS (by rfl) (pa_cons (pe_fld (pv 0) rfl) pa_nil)))
      (pss_cons (ps_fld (pv 1) (pe_callTy (cr_dictD (K := K) rfl) (by rfl) m_dict (by decide +kernel) (pa_cons (pe_fld (pv 0) rfl) pa_nil)) rfl)
      (pss_one (ps_ret (pv 1))))), ?_⟩
    obtain ⟨⟨dx, d, h1, h2⟩, vs0, h3, h4⟩ := id L
    refine ⟨_, rfl, p, C, dx, _, _, rfl, h1, LC.cls, LC.nb, lkF_b _ _ _, ?_⟩
    refine fun p2 dx2 n1 n2 ne => link_new n1 n2 ne G.now.b1 G.now.b2 fun q2 H1 k1 nq2 L1 => ⟨rfl, ?_⟩
    obtain ⟨⟨dx3, d3, h5, h6⟩, vs1, h7, h8⟩ := id L1
    refine ⟨_, rfl, p, C, dx, _, _, rfl, k1.at0 h1, LC.cls, LC.nd, lkF_d _ _ _, d, tk s0.t, rfl, .inl (k1.at0 h2), fun d4 H2 nd4 k2 hd4 => ?_⟩
    have h52 := k2.at0 h5
    have h72 := k2.at0 h7
    refine ⟨_, rfl, p2, C, dx3, _, rfl, h52, LC.cls, LC.nd, by show 3 < 1000; decide, ?_⟩
    rw [lkF_putD]
    refine ⟨_, rfl, ?_⟩
    have q2p2 : p2 ≠ q2 := L1.ne
    have nd4p : d4 ≠ p2 := fun z => by rw [z, h52] at hd4; cases hd4
    have k : Kp [] H (upd H2 p2 (.ins C dx3 (lkF s0.b d4 q2))) := fun b o z e => by
      rw [upd_ne (ne_of_none e n1)]
      exact (k1.trans k2) b o z e
    refine out p2 q2 _ k n1 nq2 q2p2 ⟨⟨dx3, d4, upd_same, (upd_ne nd4p).trans hd4⟩, vs1, (upd_ne q2p2.symm).trans h72, ?_⟩
    cases h8
    exact .nil
/-! ### links compared -/
def eqT (t t' : Tab) : Bool := (tk t).length == (tk t').length && dEqB (tk t) (tk t')
def eqLk (s s' : LkS) : Bool := decide (s.b = s'.b) && eqT s.t s'.t
theorem tk_flat (t : Tab) : ∀ p ∈ tk t, flatV p.2 = true := fun p hp => by
  obtain ⟨q, _, rfl⟩ := List.mem_map.mp hp
  rfl
theorem eqT_of {t t' : Tab} (hl : t.length = t'.length) (h : ∀ p ∈ t, tget t' p.1 = some p.2) : eqT t t' = true := by
  unfold eqT dEqB
  rw [Bool.and_eq_true]
  refine ⟨?_, List.all_eq_true.mpr fun z hz => ?_⟩
  · unfold tk
    rw [List.length_map, List.length_map, hl]
    exact beq_self_eq_true _
  · obtain ⟨p, hp, rfl⟩ := List.mem_map.mp hz
    show (match valV (tk t') (Sum.inr p.1) with | none => false | some y => eqV (V.int p.2) y) = true
    rw [tk_val, h p hp]
    exact beq_self_eq_true _
def sp_Link___eq__ (K : PySem.W.Frag) (C : Addr) : Sp := fun vs H Q _ => ∃ (p q : Addr) (s : LkS) (v : V), vs = [.ref p, v] ∧ LkAt C H p q s ∧
  ((∃ (p2 q2 : Addr) (s2 : LkS), v = .ref p2 ∧ LkAt C H p2 q2 s2 ∧ Q (.bl (eqLk s s2)) H) ∨ ∃ t : Value, TyX K H v t ∧ PySem.W.kitOne K t (.ref C) = some false ∧ Q (.bl false) H)
theorem LkAt.tyx {K : PySem.W.Frag} {C : Addr} {H : Hp} {p q : Addr} {s : LkS} (IC : C8.InsC K C) (L : LkAt C H p q s) : TyX K H (.ref p) (.ref C) := by
  obtain ⟨⟨dx, d, h1, _⟩, _⟩ := L
  exact .base (.ins h1 IC.cl IC.ha IC.hn IC.htk IC.hm)
theorem ok_Link___eq__ {f C : Addr} {fd : FuncData} {k : Nat} (F : Fun K "__eq__" "Link.__eq__" s_Link___eq__ f fd) (LC : LinkC K C) (IC : C8.InsC K C) (xC : mg "Link" = some (.ref C)) (m_isinstance : mg "isinstance" = none) :
    FnG P w K mg base CX0 (k + 1) f fd ["self", "other"] (sp_Link___eq__ K C) := by
  refine ok0 F sc_Link___eq__ (fun vs H Q E h => ?_) (fun cdv A outer s H vs Q E gd hr h => ?_)
  · obtain ⟨p, q, s, v, rfl, _⟩ := h
    rfl
  · obtain ⟨p, q, s0, v, rfl, L, h⟩ := h
    refine ⟨_, (pss_one (ps_ret (pe_and (pe_callB call_isi (by rfl) m_isinstance (by decide +kernel) (pa_cons (pv 1) (pa_cons (pe_glob (v := .ref C) (by rfl) xC rfl) pa_nil))) (pe_and (pe_cmpR op_eq (pe_fld (pv 0) rfl) (pe_fld (pv 1) rfl) (nomark _)) (pe_one (pe_cmpR (op_eqDD hr.units0) (pe_fld (pv 0) rfl) (pe_fld (pv 1) rfl) (nomark _))))))), ?_⟩
    obtain ⟨⟨dx, d, h1, h2⟩, _⟩ := id L
    rcases h with ⟨p2, q2, s2, rfl, Lb, out⟩ | ⟨t, ty, kt, out⟩
    · obtain ⟨⟨dx2, d2, h3, h4⟩, _⟩ := id Lb
      refine ⟨_, rfl, _, _, _, _, true, rfl, .own C, Lb.tyx IC, IC.me, _, rfl, iteT ?_⟩
      refine ⟨_, rfl, p, C, dx, _, _, rfl, h1, LC.cls, LC.nb, lkF_b _ _ _, _, rfl, p2, C, dx2, _, _, rfl, h3, LC.cls, LC.nb, lkF_b _ _ _, rfl, _, rfl, ?_⟩
      unfold eqLk at out
      refine ite2 (fun e => ?_) (fun e => ?_)
      · have e' := of_decide_eq_true e
        injection e' with e'
        refine ⟨_, rfl, p, C, dx, _, _, rfl, h1, LC.cls, LC.nd, lkF_d _ _ _, _, rfl, p2, C, dx2, _, _, rfl, h3, LC.cls, LC.nd, lkF_d _ _ _, d, d2, _, _, rfl, rfl, h2, h4, tk_flat _, tk_flat _, ?_⟩
        rw [decide_eq_true e', Bool.true_and] at out
        exact out
      · have e' : ¬ s0.b = s2.b := fun z => e (by rw [z]; exact decide_eq_true rfl)
        rw [decide_eq_false e', Bool.false_and] at out
        exact out
    · exact ⟨_, rfl, _, _, _, _, false, rfl, .own C, ty, kt, _, rfl, iteF out⟩
/-! ### texts, pure -/
open TL
/-- str(n) of a number -/
def tnum (n : Int) : Str := Str.ofString (toString n)
def digitsS : Str := "0123456789"
def isDig (w : Str) : Bool := w.cps.toList.all fun c => decide (c ∈ digitsS.cps.toList)
def numF (w : Str) (lo hi : Int) : Option Int :=
  if (decide (1 ≤ w.length ∧ w.length ≤ 13) && isDig w) = true then
    if w.cps.toList.head? = some 48 ∧ w ≠ "0" then none
    else if lo ≤ (NumText.digitsVal w.cps.toList : Int) ∧ (NumText.digitsVal w.cps.toList : Int) ≤ hi then some (NumText.digitsVal w.cps.toList : Int) else none
  else none
theorem digS_mem (c : Nat) : c ∈ digitsS.cps.toList ↔ 48 ≤ c ∧ c ≤ 57 := by
  have e : digitsS.cps.toList = [48, 49, 50, 51, 52, 53, 54, 55, 56, 57] := by decide +kernel
  rw [e]
  simp only [List.mem_cons, List.not_mem_nil, or_false]
  omega
theorem isDig_all {w : Str} (h : isDig w = true) : NumText.AllDigits w.cps.toList := by
  intro c hc
  have := List.all_eq_true.mp h c hc
  exact (digS_mem c).mp (of_decide_eq_true this)
theorem all_isDig {w : Str} (h : NumText.AllDigits w.cps.toList) : isDig w = true :=
  List.all_eq_true.mpr fun c hc => decide_eq_true ((digS_mem c).mpr (h c hc))
theorem val_snoc (r : List Nat) (c : Nat) : NumText.digitsVal (r ++ [c]) = NumText.digitsVal r * 10 + (c - 48) := by
  unfold NumText.digitsVal
  rw [List.foldl_append]
  rfl
theorem canon : ∀ (n : Nat) (l : List Nat), l.length = n → NumText.AllDigits l → l ≠ [] → (l.head? = some 48 → l = [48]) → numL (NumText.digitsVal l) = l := by
  intro n
  induction n with
  | zero => intro l hl _ hn _; exact absurd (List.length_eq_zero_iff.mp hl) hn
  | succ n ih =>
    intro l hl hd hn hh
    obtain ⟨r, c, rfl⟩ : ∃ r c, l = r ++ [c] := ⟨l.dropLast, l.getLast hn, (List.dropLast_concat_getLast hn).symm⟩
    have hc := hd c (List.mem_append_right _ (List.mem_singleton.mpr rfl))
    rw [val_snoc]
    by_cases hr : r = []
    · subst hr
      show numL (0 * 10 + (c - 48)) = [c]
      rw [numL_lt (by omega)]
      congr 1
      omega
    · have hr2 : r.head? ≠ some 48 := by
        intro e
        have e2 := hh (by rw [List.head?_append, e]; rfl)
        have := congrArg List.length e2
        rw [List.length_append] at this
        have h1 : r.length ≠ 0 := fun z => hr (List.length_eq_zero_iff.mp z)
        have h2 : [c].length = 1 := rfl
        have h3 : [48].length = 1 := rfl
        omega
      have e1 := ih r (by rw [List.length_append] at hl; have : [c].length = 1 := rfl; omega) (fun x hx => hd x (List.mem_append_left _ hx)) hr fun e => absurd e hr2
      have h0 : NumText.digitsVal r ≠ 0 := by
        intro e
        rw [e] at e1
        rw [numL_lt (by decide)] at e1
        rw [← e1] at hr2
        exact hr2 rfl
      rw [numL_step (by omega), show (NumText.digitsVal r * 10 + (c - 48)) / 10 = NumText.digitsVal r by omega, e1]
      congr 2
      omega
theorem tnum_tl (n : Nat) : (tnum (n : Int)).cps.toList = numL n := tl_num n
theorem zeroS : ("0" : Str).cps.toList = [48] := by decide +kernel
theorem str_ext {x y : Str} (h : x.cps.toList = y.cps.toList) : x = y := ext_tl h
theorem numF_some {w : Str} {lo hi n : Int} (h : numF w lo hi = some n) : w = tnum n ∧ lo ≤ n ∧ n ≤ hi ∧ 0 ≤ n := by
  unfold numF at h
  split at h
  · rename_i hc
    rw [Bool.and_eq_true] at hc
    have hl := of_decide_eq_true hc.1
    split at h
    · cases h
    · rename_i hz
      split at h
      · rename_i hb
        cases h
        refine ⟨str_ext ?_, hb.1, hb.2, by omega⟩
        rw [tnum_tl]
        refine (canon _ _ rfl (isDig_all hc.2) (fun e => ?_) fun e => ?_).symm
        · have : w.cps.toList.length = w.length := rfl
          rw [e] at this
          have h0 : ([] : List Nat).length = 0 := rfl
          omega
        · by_cases c : w = "0"
          · rw [c]; exact zeroS
          · exact absurd ⟨e, c⟩ hz
      · cases h
  · cases h
theorem numL_head {n : Nat} (h : (numL n).head? = some 48) : n = 0 := by
  induction n using Nat.strongRecOn with
  | _ n ih =>
    by_cases c : n < 10
    · rw [numL_lt c] at h
      have : 48 + n = 48 := Option.some.inj h
      omega
    · rw [numL_step (by omega)] at h
      have e : (numL (n / 10)).head? = some 48 := by
        rw [List.head?_append] at h
        cases e : (numL (n / 10)).head? with
        | none => exact absurd (List.head?_eq_none_iff.mp e) (numL_ne _)
        | some x => rw [e] at h; exact h
      have := ih (n / 10) (by omega) e
      omega
theorem tnum_zero : tnum 0 = "0" := by decide +kernel
theorem numF_of {lo hi n : Int} (h0 : 0 ≤ n) (h1 : lo ≤ n) (h2 : n ≤ hi) (h3 : n < 10000000000000) : numF (tnum n) lo hi = some n := by
  obtain ⟨m, rfl⟩ : ∃ m : Nat, n = (m : Int) := ⟨n.toNat, by omega⟩
  have et := tnum_tl m
  have ev : NumText.digitsVal (tnum (m : Int)).cps.toList = m := by rw [et]; exact numL_val m
  unfold numF
  have hd : isDig (tnum (m : Int)) = true := all_isDig (by rw [et]; exact numL_digits m)
  have hlen : (tnum (m : Int)).length = (numL m).length := by rw [← et]; rfl
  have l1 : (numL m).length ≤ 13 := numL_len (k := 13) (by decide) (by omega)
  have l0 : (numL m).length ≠ 0 := fun z => numL_ne m (List.length_eq_zero_iff.mp z)
  rw [hd, decide_eq_true (show 1 ≤ (tnum (m : Int)).length ∧ (tnum (m : Int)).length ≤ 13 by omega), Bool.and_self, if_pos rfl, if_neg, ev, if_pos ⟨h1, h2⟩]
  rintro ⟨hh, hz⟩
  rw [et] at hh
  have := numL_head hh
  subst this
  exact hz tnum_zero
theorem tnum_free {n : Int} (h0 : 0 ≤ n) {c : Nat} (h : c < 48 ∨ 57 < c) : c ∉ (tnum n).cps.toList := by
  obtain ⟨m, rfl⟩ : ∃ m : Nat, n = (m : Int) := ⟨n.toNat, by omega⟩
  rw [tnum_tl]
  exact numL_free h
/-! ### balances as a text -/
def blankS : Str := " "
def lineS : Str := "\n"
theorem blank_tl : blankS.cps.toList = [32] := by decide +kernel
theorem line_tl : lineS.cps.toList = [10] := by decide +kernel
theorem split_blank {ps : List Str} (h : ps ≠ []) (hp : ∀ p ∈ ps, 32 ∉ p.cps.toList) : Txt.split (Txt.join " " ps) " " = ps :=
  split_join (y := blankS) blank_tl (by decide +kernel) h hp
theorem spl_ne (S : List Nat) : ∀ (l : List Nat) (k : Nat) (acc : List Nat), spl S k acc l ≠ []
  | [], k, acc => by rw [spl_nil]; exact fun z => nomatch z
  | c :: r, 0, acc => by
    cases h : pre S (c :: r) with
    | true => rw [spl_hit h]; exact fun z => nomatch z
    | false => rw [spl_miss h]; exact spl_ne S r 0 _
  | c :: r, k + 1, acc => by
    rw [spl_pass]
    show spl S 0 acc (r.drop k) ≠ []
    have : (r.drop k).length < (c :: r).length := by rw [List.length_drop, List.length_cons]; omega
    exact spl_ne S (r.drop k) 0 acc
termination_by l => l.length
theorem split_tl (y : Str) (hy : y.cps.toList ≠ []) (hk : y.cps.all (· < 256) = true) (x : Str) : (Txt.split x y).map TL.tl = spl (TL.tl y) 0 [] (TL.tl x) := split_spl x y hy (kind_ok hk)
theorem line_ne (x : Str) : Txt.split x "\n" ≠ [] := fun e => by
  have := split_tl lineS (by rw [line_tl]; exact fun z => nomatch z) (by decide +kernel) x
  have e2 : Txt.split x lineS = [] := e
  rw [e2] at this
  exact spl_ne _ _ _ _ this.symm
/-! ### the sizes of what is split -/
theorem spl_sum (S : List Nat) : ∀ (l : List Nat) (k : Nat) (acc : List Nat), ((spl S k acc l).map List.length).sum ≤ acc.length + l.length ∧ (spl S k acc l).length ≤ l.length + 1
  | [], k, acc => by rw [spl_nil]; simp
  | c :: r, 0, acc => by
    cases h : pre S (c :: r) with
    | true =>
      rw [spl_hit h]
      have := spl_sum S r (S.length - 1) []
      simp only [List.map_cons, List.sum_cons, List.length_cons, List.length_nil] at this ⊢
      omega
    | false =>
      rw [spl_miss h]
      have := spl_sum S r 0 (acc ++ [c])
      simp only [List.length_append, List.length_cons, List.length_nil] at this ⊢
      omega
  | c :: r, k + 1, acc => by
    rw [spl_pass]
    show ((spl S 0 acc (r.drop k)).map List.length).sum ≤ _ ∧ (spl S 0 acc (r.drop k)).length ≤ _
    have h : (r.drop k).length ≤ r.length := by rw [List.length_drop]; omega
    have := spl_sum S (r.drop k) 0 acc
    simp only [List.length_cons] at this ⊢
    omega
termination_by l => l.length
decreasing_by
  all_goals simp_wf
  all_goals try omega
theorem len_split {x : Str} {ws : List Str} (h : ws.map TL.tl = spl S 0 [] (TL.tl x)) : ws.length ≤ x.length + 1 ∧ ∀ y ∈ ws, y.length ≤ x.length := by
  have e := spl_sum S (TL.tl x) 0 []
  rw [← h] at e
  rw [List.length_map, List.map_map] at e
  have lx : x.length = (TL.tl x).length := len_tl x
  refine ⟨by omega, fun y hy => ?_⟩
  have h1 : y.length ≤ (ws.map (List.length ∘ TL.tl)).sum := by
    have : ∀ l : List Str, y ∈ l → y.length ≤ (l.map (List.length ∘ TL.tl)).sum := by
      intro l
      induction l with
      | nil => intro h; cases h
      | cons z r ih =>
        intro h
        rw [List.map_cons, List.sum_cons]
        rcases List.mem_cons.mp h with q | q
        · rw [q, len_tl]
          show _ ≤ (TL.tl z).length + _
          omega
        · have := ih q
          omega
    exact this ws hy
  have h2 : ([] : List Nat).length = 0 := rfl
  omega
theorem blank_len (x : Str) : (Txt.split x " ").length ≤ x.length + 1 ∧ ∀ y ∈ Txt.split x " ", y.length ≤ x.length :=
  len_split (S := TL.tl blankS) (split_tl blankS (by rw [blank_tl]; exact fun z => nomatch z) (by decide +kernel) x)
theorem line_len (x : Str) : (Txt.split x "\n").length ≤ x.length + 1 ∧ ∀ y ∈ Txt.split x "\n", y.length ≤ x.length :=
  len_split (S := TL.tl lineS) (split_tl lineS (by rw [line_tl]; exact fun z => nomatch z) (by decide +kernel) x)
/-! ### links, called by themselves (for texts) -/
theorem tnil_z {σ : List (Option V)} {H : Hp} {Q : List V → Hp → Prop} (h : Q [] H) : tNil σ H Q := h
theorem known_z {t : Tab} {n : Str} (nm : isNm n = true) (h : n ∈ keysT t) : knownD t (.str n) = some n := by
  unfold knownD
  rw [show nameD (.str n) = some n from if_pos nm]
  show (if n ∈ keysT t then some n else none) = some n
  rw [if_pos h]
theorem bal_z {K : PySem.W.Frag} {C : Addr} {X : LkX} {H : Hp} {p q : Addr} {s : LkS} {x : Str} {Q : VK} {E : XK} (hn : isNm x = true) (hk : x ∈ keysT s.t) (L : LkAt C H p q s) (qq : ∀ H', Kp [] H H' → Q (.int (tval s.t x)) H') : sp_Link_balance_of K C X [.ref p, .str x] H Q E := by
  have e := known_z hn hk
  have hz : szD (.str x) ≤ 1000000 := by
    have := isNm_len hn
    simp only [szD]
    omega
  refine ⟨p, q, s, .str x, .str x, (fun _ => False), rfl, L, .str x, hz, fun n hn H' k => ?_, fun z => by rw [e] at z; cases z⟩
  rw [e] at hn
  rw [← Option.some.inj hn]
  exact qq H' k
theorem gap_fst {b : Int} {l m : List Int} (h : gapOf b (l ++ m) = none) : gapOf b l = none := by
  have go : ∀ l m : List Int, gapOf b (l ++ m) = none → gapOf b m = none := fun l => by
    induction l with
    | nil => exact fun _ h => h
    | cons x r ih => exact fun m h => ih m (safe_cons.mp h).1
  exact go m l (by rw [gap_congr List.perm_append_comm]; exact h)
theorem at_z {C : Addr} {H : Hp} {p q : Addr} {s : LkS} {m : Str} {R : Prop} (L : LkAt C H p q s) (hm : ¬ m = "budget" ∧ ¬ m = "balances" ∧ ¬ m = "past") (r : R) : ∃ (a dx : Addr) (fs : List (Str × V)), V.ref p = .ref a ∧ H a = some (.ins C dx fs) ∧ fs.lookup m = none ∧ R := by
  obtain ⟨⟨dx, d, h1, h2⟩, _⟩ := L
  exact ⟨p, dx, _, rfl, h1, lkF_no _ _ _ hm.1 hm.2.1 hm.2.2, r⟩
theorem z_enter : ¬ (("enter" : Str) = "budget") ∧ ¬ (("enter" : Str) = "balances") ∧ ¬ (("enter" : Str) = "past") := by decide +kernel
theorem z_leave : ¬ (("leave" : Str) = "budget") ∧ ¬ (("leave" : Str) = "balances") ∧ ¬ (("leave" : Str) = "past") := by decide +kernel
theorem z_deposit : ¬ (("deposit" : Str) = "budget") ∧ ¬ (("deposit" : Str) = "balances") ∧ ¬ (("deposit" : Str) = "past") := by decide +kernel
theorem z_withdraw : ¬ (("withdraw" : Str) = "budget") ∧ ¬ (("withdraw" : Str) = "balances") ∧ ¬ (("withdraw" : Str) = "past") := by decide +kernel
theorem z_transfer : ¬ (("transfer" : Str) = "budget") ∧ ¬ (("transfer" : Str) = "balances") ∧ ¬ (("transfer" : Str) = "past") := by decide +kernel
theorem z_set_budget : ¬ (("set_budget" : Str) = "budget") ∧ ¬ (("set_budget" : Str) = "balances") ∧ ¬ (("set_budget" : Str) = "past") := by decide +kernel
theorem z_spare_of : ¬ (("spare_of" : Str) = "budget") ∧ ¬ (("spare_of" : Str) = "balances") ∧ ¬ (("spare_of" : Str) = "past") := by decide +kernel
theorem z_tick : ¬ (("tick" : Str) = "budget") ∧ ¬ (("tick" : Str) = "balances") ∧ ¬ (("tick" : Str) = "past") := by decide +kernel
theorem z_undo : ¬ (("undo" : Str) = "budget") ∧ ¬ (("undo" : Str) = "balances") ∧ ¬ (("undo" : Str) = "past") := by decide +kernel
theorem z_changes : ¬ (("changes" : Str) = "budget") ∧ ¬ (("changes" : Str) = "balances") ∧ ¬ (("changes" : Str) = "past") := by decide +kernel
theorem z_clone : ¬ (("clone" : Str) = "budget") ∧ ¬ (("clone" : Str) = "balances") ∧ ¬ (("clone" : Str) = "past") := by decide +kernel
theorem z_names : ¬ (("names" : Str) = "budget") ∧ ¬ (("names" : Str) = "balances") ∧ ¬ (("names" : Str) = "past") := by decide +kernel
theorem z_balance_of : ¬ (("balance_of" : Str) = "budget") ∧ ¬ (("balance_of" : Str) = "balances") ∧ ¬ (("balance_of" : Str) = "past") := by decide +kernel
theorem z_total : ¬ (("total" : Str) = "budget") ∧ ¬ (("total" : Str) = "balances") ∧ ¬ (("total" : Str) = "past") := by decide +kernel
theorem z_current_budget : ¬ (("current_budget" : Str) = "budget") ∧ ¬ (("current_budget" : Str) = "balances") ∧ ¬ (("current_budget" : Str) = "past") := by decide +kernel
theorem ifNe {α : Type} [DecidableEq α] {x y : α} {A B : Prop} (h : x = y) (b : B) : if (!decide (x = y)) = true then A else B := by
  rw [decide_eq_true h]
  exact b
theorem ifNeY {α : Type} [DecidableEq α] {x y : α} {A B : Prop} (h : ¬ x = y) (a : A) : if (!decide (x = y)) = true then A else B := by
  rw [decide_eq_false h]
  exact a
theorem new_z {T : List (Addr × Str)} {H H1 H2 : Hp} {p2 q2 : Addr} (k : Kt T H H1) (n2 : Nt H p2) (n3 : Nt H q2) (k2 : Ks T (Two p2 q2) H1 H2) : Kt T H H2 :=
  ((Ks.of (S := Two p2 q2) k).trans k2).toKt fun a z => by
    rcases z with rfl | rfl
    · exact n2
    · exact n3
/-! ### the defs of texts -/
theorem int_of {w : Str} (h : isDig w = true) (l1 : 1 ≤ w.length) (l2 : w.length ≤ 13) : PySem.intText? w = some (NumText.digitsVal w.cps.toList : Int) := by
  refine intText_digits (isDig_all h) (fun e => ?_) (by omega)
  have : w.cps.toList.length = w.length := rfl
  rw [e] at this
  have h0 : ([] : List Nat).length = 0 := rfl
  omega
theorem atI_zero {c : Nat} {r : List Nat} : atI (c :: r) 0 = some c := by
  unfold atI ixN
  simp
def sp_read_number (K : PySem.W.Frag) : Sp := fun vs H Q _ => ∃ (x : Str) (lo hi : Int), vs = [.str x, .int lo, .int hi] ∧ x.length ≤ 80000 ∧ ∀ H', Kp [] H H' → Q (oV (numF x lo hi)) H'
theorem ok_read_number {f : Addr} {fd : FuncData} {k : Nat} (F : Fun K "read_number" "read_number" s_read_number f fd) (m_len : mg "len" = none) (m_all : mg "all" = none) (m_int : mg "int" = none)
    {tk tk2 : Tok} (mg_MOST_DIGITS : mg "MOST_DIGITS" = some (.int 13 tk)) (mg_DIGITS : mg "DIGITS" = some (.str "0123456789" tk2)) :
    FnG P w K mg base CX0 (k + 1) f fd ["word", "least", "most"] (sp_read_number K) := by
  refine ok0 F sc_read_number (fun vs H Q E h => ?_) (fun cdv A outer s H vs Q E gd hr h => ?_)
  · obtain ⟨x, lo, hi, rfl, _⟩ := h
    rfl
  · obtain ⟨x, lo, hi, rfl, hz, q⟩ := h
    refine ⟨_, (pss_cons (ps_if (PW.pt (pw_or (pt_not (pt_chain op_le op_le pe_int (pe_callB call_len (by rfl) m_len (by decide +kernel) (pa_cons (pv 0) pa_nil)) (pe_glob (v := .int 13) rfl mg_MOST_DIGITS ⟨_, rfl⟩))) (pw_or1 (pt_not (pt_val (pe_callB (cr_allK (K := K) rfl rfl) (by rfl) m_all (by decide +kernel) (pa_cons (pe_lcW (own := [("digit", 4)]) (g := (gName 4)) rfl sc_read_number.nd (pi_str (pv 0)) (blkOk_by (own := [("digit", 4)]) (N := ["word", "least", "most", "number", "digit"]) (sc := defScope s_read_number) (by decide +kernel)) (fun _ _ _ _ _ => (pg_name (i := 4) sc_read_number.nd rfl (.inl rfl))) (fun _ _ _ _ _ => pts_nil) (fun _ _ _ _ _ => (pe_cmpR op_in_sign (pv 4) (pe_glob (v := .str "0123456789") rfl mg_DIGITS ⟨_, rfl⟩) rfl))) pa_nil)))))))
      (pss_one (ps_ret pe_non))
      pss_nil)
      (pss_cons (ps_if (pt_up (PW.pt (pw_and (pt_cmpR op_eq (pe_ix ix_str (pv 0) pe_int (fun _ _ => rfl)) pe_str (nomark _)) (pw_and1 (pt_cmpR op_ne (pv 0) pe_str (nomark _))))))
      (pss_one (ps_ret pe_non))
      pss_nil)
      (pss_cons (ps_set (i := 3) sc_read_number.nd rfl (.inl rfl) (pe_callTy call_int_str (by rfl) m_int (by decide +kernel) (pa_cons (pv 0) pa_nil)))
      (pss_one (ps_ret (pe_ifP (pt_chain op_le op_le (pv 1) (pv 3) (pv 2)) (pv 3) pe_non)))))), ?_⟩
    have xl : x.length ≤ sizeLine := by rw [sizeLine_eq]; omega
    have non : (decide (1 ≤ x.length ∧ x.length ≤ 13) && isDig x) = false → numF x lo hi = none := fun e => by unfold numF; rw [e]; rfl
    refine ⟨_, rfl, _, x.length, rfl, ⟨xl, rfl⟩, ?_⟩
    refine ⟨_, _, rfl, rfl, _, rfl, ?_⟩
    by_cases c1 : (1 : Int) ≤ (x.length : Int)
    · refine ifYes c1 ?_
      refine ⟨_, _, rfl, rfl, _, rfl, ?_⟩
      by_cases c2 : (x.length : Int) ≤ 13
      · rw [decide_eq_true c2]
        refine (show if (!true) = true then _ else _ from iteF ?_)
        have e1 : decide (1 ≤ x.length ∧ x.length ≤ 13) = true := decide_eq_true ⟨by omega, by omega⟩
        rw [e1, Bool.true_and] at non
        have xs13 : x.cps.size ≤ 13 := by have : x.length = x.cps.size := rfl; omega
        refine ⟨_, rfl, x, rfl, _, _, _, walk_str (z := x), small1000 (by omega), fun D H1 nD k1 hD1 => ?_⟩
        refine ⟨fun i acc H2 => acc = ((x.cps.toList.take i).map fun c => decide (c ∈ digitsS.cps.toList)).map V.bl ∧ Kp [] H H2, ⟨rfl, k1⟩, fun _ _ _ _ _ => trivial, ?_, ?_⟩
        · rintro i acc y _ H2 hi ⟨ea, k2⟩ hD2 ⟨rfl, c, hc, rfl⟩
          refine ⟨rfl, yesT ?_⟩
          refine ⟨_, rfl, c, digitsS, rfl, rfl, hD2, fun H3 m3 h3 => ?_⟩
          refine ⟨?_, k2.md (.inl nD) m3⟩
          have hc' : x.cps.toList[i]? = some c := by rw [Array.getElem?_toList]; exact hc
          rw [List.take_add_one, hc', ea]
          simp
        rintro acc H2 _ hD2 ⟨ea, k2⟩
        rw [List.take_of_length_le (by simp)] at ea
        subst ea
        refine ⟨D, _, rfl, sqL hD2, _, rfl, ?_⟩
        have e2 : ((x.cps.toList.map fun c => decide (c ∈ digitsS.cps.toList)).all id) = isDig x := by rw [List.all_map]; rfl
        rw [e2]
        cases ed : isDig x with
        | false =>
          rw [non ed] at q
          exact (show if (!false) = true then _ else _ from iteT (q H2 k2))
        | true =>
          refine (show if (!true) = true then _ else _ from iteF ?_)
          obtain ⟨c0, r0, hc0⟩ : ∃ c0 r0, x.cps.toList = c0 :: r0 := by
            cases hx : x.cps.toList with
            | nil =>
              have : x.cps.toList.length = x.length := rfl
              rw [hx] at this
              have h0 : ([] : List Nat).length = 0 := rfl
              omega
            | cons c r => exact ⟨c, r, rfl⟩
          have one : ∀ c : Nat, (⟨#[c]⟩ : Str) = ⟨#[48]⟩ ↔ c = 48 := fun c => ⟨fun e => by
            have := congrArg (fun z : Str => z.cps.toList) e
            exact (List.cons.inj this).1, fun e => by rw [e]⟩
          have z48 : ("0" : Str) = ⟨#[48]⟩ := by decide +kernel
          have go : ¬ (x.cps.toList.head? = some 48 ∧ x ≠ "0") → numF x lo hi = if lo ≤ (NumText.digitsVal x.cps.toList : Int) ∧ (NumText.digitsVal x.cps.toList : Int) ≤ hi then some (NumText.digitsVal x.cps.toList : Int) else none := fun h => by
            unfold numF
            rw [e1, ed, Bool.and_self, if_pos rfl, if_neg h]
          refine ⟨fun b H3 => b = decide (x.cps.toList.head? = some 48 ∧ x ≠ "0") ∧ H3 = H2, ⟨_, rfl, x, 0, c0, rfl, rfl, xl, by rw [hc0]; exact atI_zero, rfl, _, rfl, ?_⟩, ?_⟩
          · by_cases h0 : c0 = 48
            · refine ifYes (show V.str ⟨#[c0]⟩ = V.str "0" by rw [z48, h0]) ?_
              refine ⟨_, rfl, rfl, _, rfl, ?_, rfl⟩
              show (!decide (V.str x = V.str "0")) = _
              rw [← decide_not]
              exact decide_eq_decide.mpr ⟨fun h => ⟨by rw [hc0, h0]; rfl, fun e => h (by rw [e])⟩, fun h e => h.2 (V.str.inj e)⟩
            · refine ifNo (show ¬ V.str ⟨#[c0]⟩ = V.str "0" from fun e => h0 ((one c0).mp ((V.str.inj e).trans z48))) ⟨?_, rfl⟩
              exact (decide_eq_false fun h => h0 (by rw [hc0] at h; exact Option.some.inj h.1)).symm
          rintro b H3 ⟨eb, rfl⟩
          by_cases hh : x.cps.toList.head? = some 48 ∧ x ≠ "0"
          · rw [decide_eq_true hh] at eb
            subst eb
            refine iteT ?_
            have e : numF x lo hi = none := by
              unfold numF
              rw [e1, ed, Bool.and_self, if_pos rfl, if_pos hh]
            rw [e] at q
            exact q _ k2
          · rw [decide_eq_false hh] at eb
            subst eb
            refine iteF ?_
            rw [go hh] at q
            refine ⟨_, rfl, x, _, rfl, int_of ed (by omega) (by omega), by omega, ?_⟩
            refine ⟨_, ?_, fun _ _ z => z⟩
            refine ⟨_, rfl, _, rfl, _, _, rfl, rfl, _, rfl, ?_⟩
            generalize (NumText.digitsVal x.cps.toList : Int) = n at q
            by_cases l1 : lo ≤ n
            · refine ifYes l1 ?_
              refine ⟨_, rfl, _, _, rfl, rfl, _, rfl, ?_⟩
              by_cases l2 : n ≤ hi
              · rw [if_pos ⟨l1, l2⟩] at q
                exact ifYes l2 ⟨_, rfl, q _ k2⟩
              · rw [if_neg fun z => l2 z.2] at q
                exact ifNo l2 (q _ k2)
            · rw [if_neg fun z => l1 z.1] at q
              exact ifNo l1 ⟨_, rfl, q _ k2⟩
      · rw [decide_eq_false c2]
        have e1 : decide (1 ≤ x.length ∧ x.length ≤ 13) = false := decide_eq_false (fun z => c2 (by omega))
        rw [non (by rw [e1]; rfl)] at q
        exact (show if (!false) = true then _ else _ from iteT (q H Kp.refl))
    · refine ifNo c1 ?_
      have e1 : decide (1 ≤ x.length ∧ x.length ≤ 13) = false := decide_eq_false (fun z => c1 (by omega))
      rw [non (by rw [e1]; rfl)] at q
      exact ⟨_, rfl, (show if (!false) = true then _ else _ from iteT (q H Kp.refl))⟩
def sp_read_amount (K : PySem.W.Frag) : Sp := fun vs H Q _ => ∃ (x : Str), vs = [.str x] ∧ x.length ≤ 80000 ∧ ∀ H', Kp [] H H' → Q (oV (numF x 0 1000000000000)) H'
theorem ok_read_amount {f : Addr} {fd : FuncData} {k : Nat} (F : Fun K "read_amount" "read_amount" s_read_amount f fd) {tk : Tok} (mg_MOST_CREDITS : mg "MOST_CREDITS" = some (.int 1000000000000 tk))
    (C_read_number : Cl P w K mg base CX0 1 "read_number" 3 (sp_read_number K)) :
    FnG P w K mg base CX0 (k + 2) f fd ["word"] (sp_read_amount K) := by
  refine ok0 F sc_read_amount (fun vs H Q E h => ?_) (fun cdv A outer s H vs Q E gd hr h => ?_)
  · obtain ⟨x, rfl, _⟩ := h
    rfl
  · obtain ⟨x, rfl, hz, q⟩ := h
    exact ⟨_, (pss_one (ps_ret (pe_cl C_read_number (hr.mono (by omega)) gd pass0 (by rfl) (pa_cons (pv 0) (pa_cons pe_int (pa_cons (pe_glob (v := .int 1000000000000) rfl mg_MOST_CREDITS ⟨_, rfl⟩) pa_nil)))))), ⟨_, rfl, x, 0, 1000000000000, rfl, hz, q⟩⟩
def sp_read_budget (K : PySem.W.Frag) : Sp := fun vs H Q _ => ∃ (x : Str), vs = [.str x] ∧ x.length ≤ 80000 ∧ ∀ H', Kp [] H H' → Q (oV (numF x 1 1000000)) H'
theorem ok_read_budget {f : Addr} {fd : FuncData} {k : Nat} (F : Fun K "read_budget" "read_budget" s_read_budget f fd) {tk : Tok} (mg_MOST_BUDGET : mg "MOST_BUDGET" = some (.int 1000000 tk))
    (C_read_number : Cl P w K mg base CX0 1 "read_number" 3 (sp_read_number K)) :
    FnG P w K mg base CX0 (k + 2) f fd ["word"] (sp_read_budget K) := by
  refine ok0 F sc_read_budget (fun vs H Q E h => ?_) (fun cdv A outer s H vs Q E gd hr h => ?_)
  · obtain ⟨x, rfl, _⟩ := h
    rfl
  · obtain ⟨x, rfl, hz, q⟩ := h
    exact ⟨_, (pss_one (ps_ret (pe_cl C_read_number (hr.mono (by omega)) gd pass0 (by rfl) (pa_cons (pv 0) (pa_cons pe_int (pa_cons (pe_glob (v := .int 1000000) rfl mg_MOST_BUDGET ⟨_, rfl⟩) pa_nil)))))), ⟨_, rfl, x, 1, 1000000, rfl, hz, q⟩⟩
theorem log_num {x : Int} (h0 : 0 ≤ x) (h1 : x < 10000000000000000000000) : x.natAbs.log2 < 1920 :=
  log_small (by decide) (Nat.lt_of_lt_of_le (show x.natAbs < 2 ^ 80 by omega) (Nat.pow_le_pow_right (by decide) (by decide)))
theorem sum_len {l : List Str} {m : Nat} (h : ∀ y ∈ l, y.length ≤ m) : (l.map fun x => x.length).sum ≤ l.length * m := by
  induction l with
  | nil => simp
  | cons y r ih =>
    have h1 := h y List.mem_cons_self
    have h2 := ih fun z hz => h z (List.mem_cons_of_mem _ hz)
    rw [List.map_cons, List.sum_cons, List.length_cons, Nat.succ_mul]
    omega
/-- a value that may be a text -/
def StrOr (K : PySem.W.Frag) (H : Hp) (v : V) : Option Str → Prop
  | some x => v = .str x ∧ x.length ≤ 70000
  | none => ∃ a : String, TyX K H v (.type a) ∧ kitB a "str" = some false
theorem StrOr.ty {K : PySem.W.Frag} {H : Hp} {v : V} : ∀ {o : Option Str}, StrOr K H v o → ∃ a : String, TyX K H v (.type a) ∧ kitB a "str" = some o.isSome
  | some x, ⟨e, _⟩ => ⟨"str", by rw [e]; exact .base (.str x), (by decide +kernel : kitB "str" "str" = some true)⟩
  | none, h => h
def rowS (n : Str) (b : Int) : Str := n ++ " " ++ tnum b
def headS (b : Int) : Str := "budget " ++ tnum b
def linkS (b : Int) (t : Tab) : Str := Txt.join "\n" (headS b :: (nsT t).map fun n => rowS n (tval t n))
theorem emp_app (x : Str) : Str.empty ++ x = x := ext_tl (by rw [tl_append]; rfl)
theorem len_app (x y : Str) : (x ++ y).length = x.length + y.length := by
  rw [len_tl, len_tl, len_tl, tl_append, List.length_append]
def budRow (r : Str) : Option Int := match Txt.split r " " with
  | [a, b] => if a = "budget" then numF b 1 1000000 else none
  | _ => none
def sndRow (r : Str) : Option (Str × Int) := match Txt.split r " " with
  | [a, b] => if isNm a = true then (numF b 0 1000000000000).map fun x => (a, x) else none
  | _ => none
/-- the rows behind the first: the pairs, or the row that cannot stand there -/
def sndsF : Nat → Str → List Str → Except Nat (List (Str × Int))
  | _, _, [] => .ok []
  | i, bf, r :: rs => match sndRow r with
    | none => .error i
    | some p => if (leS p.1 bf || decide (40 < i)) = true then .error i else match sndsF (i + 1) p.1 rs with
      | .error j => .error j
      | .ok l => .ok (p :: l)
def readRows (rows : List Str) : Except Nat (Int × Tab) := match budRow (rows.headD "") with
  | none => .error 0
  | some b => match sndsF 1 "" (rows.drop 1) with
    | .error i => .error i
    | .ok l => if gapOf b (valsT l) = none then .ok (b, l) else .error rows.length
def readL : Option Str → Except Nat (Int × Tab)
  | some x => readRows (Txt.split x "\n")
  | none => .error 0
theorem readRows_no {rows : List Str} (h : budRow (rows.headD "") = none) : readRows rows = .error 0 := by
  unfold readRows
  rw [h]
theorem readRows_bad {rows : List Str} {b : Int} {i : Nat} (h : budRow (rows.headD "") = some b) (h2 : sndsF 1 "" (rows.drop 1) = .error i) : readRows rows = .error i := by
  unfold readRows
  rw [h]
  show (match sndsF 1 "" (rows.drop 1) with | .error i => _ | .ok l => _) = _
  rw [h2]
theorem readRows_ok {rows : List Str} {b : Int} {l : Tab} (h : budRow (rows.headD "") = some b) (h2 : sndsF 1 "" (rows.drop 1) = .ok l) : readRows rows = if gapOf b (valsT l) = none then .ok (b, l) else .error rows.length := by
  unfold readRows
  rw [h]
  show (match sndsF 1 "" (rows.drop 1) with | .error i => _ | .ok l => _) = _
  rw [h2]
/-! ### the defs of a link's text -/
theorem num_len {x : Int} (h0 : 0 ≤ x) (h1 : x < 10000000000000000000000) : (tnum x).length ≤ 22 := by
  obtain ⟨m, rfl⟩ : ∃ m : Nat, x = (m : Int) := ⟨x.toNat, by omega⟩
  have hlen : (tnum (m : Int)).length = (numL m).length := by rw [← tnum_tl]; rfl
  have l1 : (numL m).length ≤ 22 := numL_len (k := 22) (by decide) (by omega)
  omega
def sp_show_link (K : PySem.W.Frag) (C : Addr) : Sp := fun vs H Q _ => ∃ (p q : Addr) (s : LkS), vs = [.ref p] ∧ LkAt C H p q s ∧ Good s ∧ (∀ n, 0 ≤ tval s.t n ∧ tval s.t n < 10000000000000000000000) ∧ ∀ H', Kp [] H H' → Q (.str (linkS s.b s.t)) H'
theorem ok_show_link {f C : Addr} {fd : FuncData} {k : Nat} {X : LkX} (F : Fun K "show_link" "show_link" s_show_link f fd) (LC : LinkC K C)
    (M_names : ClM P w K mg base CX0 1 C "names" (sp_Link_names K C)) (M_current_budget : ClM P w K mg base CX0 1 C "current_budget" (sp_Link_current_budget C)) (M_balance_of : ClM P w K mg base (L2.CX P w) 4 C "balance_of" (sp_Link_balance_of K C X)) :
    FnG P w K mg base CX0 (k + 5) f fd ["link"] (sp_show_link K C) := by
  refine ok0 F sc_show_link (fun vs H Q E h => ?_) (fun cdv A outer s H vs Q E gd hr h => ?_)
  · obtain ⟨p, q, s, rfl, _⟩ := h
    rfl
  · obtain ⟨p, q, s, rfl, L, G, hv, out⟩ := h
    refine ⟨_, (pss_cons (ps_setLcW (i := 1) (own := [("name", 2)]) (g := (gName 2)) rfl sc_show_link.nd rfl rfl (sw_true rfl rfl rfl (by decide +kernel)) (pi_tup (pe_clM0 (E := fun _ _ _ _ => False) LC.cls M_names (hr.mono (by omega)) gd passG (pv 0))) (blkOk_by (own := [("name", 2)]) (N := ["link", "rows", "name"]) (sc := defScope s_show_link) (by decide +kernel)) (fun _ _ _ _ _ => (pg_name (i := 2) sc_show_link.nd rfl (.inl rfl))) (fun _ _ _ _ _ => pts_nil) (fun _ _ _ _ _ => (pe_joined (PJ.cons (pe_fmt (pv 2)) (PJ.cons pe_str (PJ.cons (pe_fmt (pe_clM (E := fun _ _ _ _ => False) LC.cls M_balance_of (hr.mono (by omega)) gd passFS (pv 0) (pa_cons (pv 2) pa_nil))) PJ.nil))))))
      (pss_one (ps_ret (pe_join pe_str (pe_op op_catLA (pe_la (pa_cons (pe_joined (PJ.cons pe_str (PJ.cons (pe_fmt (pe_clM0 (E := fun _ _ _ _ => False) LC.cls M_current_budget (hr.mono (by omega)) gd passG (pv 0))) PJ.nil))) pa_nil)) (pv 1)))))), ?_⟩
    have lG := G.now.len
    have lN := nsT_len s.t
    refine ⟨_, rfl, at_z L z_names ⟨p, q, s, rfl, L, lG, fun u1 H1 k1 hu1 => ?_⟩⟩
    have L1 := L.kp k1
    refine ⟨u1, rfl, ⟨_, hu1⟩, _, _, _, walk_tup (xs := (nsT s.t).map V.str), small1000 (by rw [List.length_map]; omega), fun D H2 nD k2 hD => ?_⟩
    refine ⟨fun i acc H3 => acc = (((nsT s.t).take i).map fun n => rowS n (tval s.t n)).map V.str ∧ Kp [] H1 H3, ⟨rfl, k2⟩, fun _ _ _ _ ⟨_, kk⟩ => kk.tup0 hu1, ?_, ?_⟩
    · rintro i acc x H3 _ hi ⟨ea, k3⟩ hD3 ⟨rfl, hx⟩
      obtain ⟨hi2, rfl⟩ := strs_get hx
      have hk := ns_in (t := s.t) (i := i) (by omega)
      have hv2 := hv ((nsT s.t).getD i default)
      have nm := G.now.nm _ hk
      have l8 := isNm_len nm
      have lt := num_len hv2.1 hv2.2
      have l1 : (" " : Str).length = 1 := by decide +kernel
      refine ⟨rfl, yesT ?_⟩
      refine ⟨_, rfl, .inl ⟨_, rfl, by rw [sizeLine_eq]; omega, _, rfl, by rw [emp_app, sizeLine_eq]; omega, _, rfl, by rw [len_app, emp_app, sizeLine_eq]; omega, ?_⟩⟩
      refine ⟨_, rfl, at_z (L1.kp k3) z_balance_of ⟨_, rfl, tnil_z ?_⟩⟩
      refine bal_z nm hk (L1.kp k3) fun H4 k4 => .inr ⟨_, rfl, log_num hv2.1 hv2.2, _, rfl, ?_, k4.at0 hD3, fun H5 m5 h5 => ⟨?_, (k3.trans k4).md (.inl nD) m5⟩⟩
      · rw [len_app, len_app, emp_app, sizeLine_eq]
        have e : (Str.ofString (toString (tval s.t ((nsT s.t).getD i default)))).length = (tnum (tval s.t ((nsT s.t).getD i default))).length := rfl
        omega
      · rw [List.take_add_one, List.getElem?_eq_getElem hi2, ea, List.map_append, List.map_append, emp_app]
        have e : (nsT s.t).getD i default = (nsT s.t)[i] := by rw [List.getD_eq_getElem?_getD, List.getElem?_eq_getElem hi2]; rfl
        rw [e]
        rfl
    rintro acc H3 _ hD3 ⟨ea, k3⟩
    rw [List.length_map, List.take_of_length_le (Nat.le_refl _)] at ea
    subst ea
    have L3 := L1.kp k3
    have b1 := G.now.b1
    have b2 := G.now.b2
    have lb := num_len (x := s.b) (by omega) (by omega)
    have lh : ("budget " : Str).length = 7 := by decide +kernel
    refine ⟨(⟨_, rfl⟩ : ∃ a, V.str "\n" = V.str a), ?_⟩
    refine ⟨_, rfl, by rw [emp_app, sizeLine_eq]; omega, _, rfl, at_z L3 z_current_budget ⟨p, q, s, rfl, L3, ?_⟩⟩
    refine .inr ⟨_, rfl, log_num (by omega) (by omega), _, rfl, ?_, ?_⟩
    · rw [len_app, emp_app, sizeLine_eq]
      have e : (Str.ofString (toString s.b)).length = (tnum s.b).length := rfl
      omega
    refine ⟨Nat.le_of_ble_eq_true rfl, fun L4 H4 n4 k4 h4 => ?_⟩
    refine ⟨_, rfl, L4, D, _, _, rfl, rfl, h4, k4.at0 hD3, ?_, fun L5 H5 n5 k5 h5 => ?_⟩
    · rw [List.length_map, List.length_map, sizeLine_eq]
      have e : ([V.str (Str.empty ++ "budget " ++ Str.ofString (toString s.b))] : List V).length = 1 := rfl
      omega
    have h6 : H5 L5 = some (.lst ((headS s.b :: (nsT s.t).map fun n => rowS n (tval s.t n)).map V.str)) := by
      rw [h5, emp_app]
      rfl
    refine ⟨_, L5, _, rfl, rfl, .inl (sqL h6), ?_, out H5 (k1.trans (k3.trans (k4.trans k5)))⟩
    have h7 : ((headS s.b :: (nsT s.t).map fun n => rowS n (tval s.t n)).map fun x => x.length).sum ≤ (headS s.b :: (nsT s.t).map fun n => rowS n (tval s.t n)).length * 31 := by
      refine sum_len fun y hy => ?_
      rcases List.mem_cons.mp hy with e | hy
      · rw [e]
        unfold headS
        rw [len_app]
        omega
      · obtain ⟨n, hn, rfl⟩ := List.mem_map.mp hy
        have l8 := isNm_len (G.now.nm n ((srtN_perm _).mem_iff.mp hn))
        have lt := num_len (hv n).1 (hv n).2
        have l1 : (" " : Str).length = 1 := by decide +kernel
        unfold rowS
        rw [len_app, len_app]
        omega
    have h8 : (headS s.b :: (nsT s.t).map fun n => rowS n (tval s.t n)).length ≤ 41 := by
      rw [List.length_cons, List.length_map]
      omega
    have h9 : ("\n" : Str).length = 1 := by decide +kernel
    rw [h9]
    omega
def sp_read_budget_row (K : PySem.W.Frag) : Sp := fun vs H Q _ => ∃ (x : Str), vs = [.str x] ∧ x.length ≤ 80000 ∧ ∀ H', Kp [] H H' → Q (oV (budRow x)) H'
theorem ok_read_budget_row {f : Addr} {fd : FuncData} {k : Nat} (F : Fun K "read_budget_row" "read_budget_row" s_read_budget_row f fd) (m_len : mg "len" = none)
    (C_read_budget : Cl P w K mg base CX0 2 "read_budget" 1 (sp_read_budget K)) :
    FnG P w K mg base CX0 (k + 3) f fd ["row"] (sp_read_budget_row K) := by
  refine ok0 F sc_read_budget_row (fun vs H Q E h => ?_) (fun cdv A outer s H vs Q E gd hr h => ?_)
  · obtain ⟨x, rfl, _⟩ := h
    rfl
  · obtain ⟨x, rfl, hz, q⟩ := h
    refine ⟨_, (pss_cons (ps_set (i := 1) sc_read_budget_row.nd rfl (.inl rfl) (pe_split (pv 0) pe_str))
      (pss_cons (ps_if (PW.pt (pw_or (pt_cmpR op_ne (pe_callB (call_len_seqK (K := K) rfl) (by rfl) m_len (by decide +kernel) (pa_cons (pv 1) pa_nil)) pe_int (nomark _)) (pw_or1 (pt_cmpR op_ne (pe_ix (ix_la (K := K) rfl) (pv 1) pe_int (fun _ _ => rfl)) pe_str (nomark _)))))
      (pss_one (ps_ret pe_non))
      pss_nil)
      (pss_one (ps_ret (pe_cl C_read_budget (hr.mono (by omega)) gd pass0 (by rfl) (pa_cons (pe_ix (ix_la (K := K) rfl) (pv 1) pe_int (fun _ _ => rfl)) pa_nil)))))), ?_⟩
    obtain ⟨b1, b2⟩ := blank_len x
    refine ⟨_, rfl, ⟨_, rfl⟩, x, " ", rfl, rfl, by decide +kernel, by rw [sizeLine_eq]; omega, fun l nl => ?_⟩
    have k1 : Kp [] H (upd H l (.lst ((Txt.split x " ").map V.str))) := Kp.new nl
    generalize hH1 : upd H l (.lst ((Txt.split x " ").map V.str)) = H1 at k1
    have hl : H1 l = some (.lst ((Txt.split x " ").map V.str)) := by rw [← hH1, upd_same]
    unfold budRow at q
    refine ⟨_, rfl, l, _, rfl, .inl (sqL hl), ?_⟩
    generalize Txt.split x " " = ws at hl b1 b2 q
    rw [List.length_map]
    refine ⟨rfl, _, rfl, ?_⟩
    match ws, hl, b2, q with
    | [a, b], hl, b2, q =>
      refine (show if (!decide (V.int ((2 : Nat) : Int) = V.int 2)) = true then _ else _ from ifNe rfl ?_)
      refine ⟨_, rfl, l, _, 0, _, rfl, rfl, sqL hl, rfl, rfl, _, rfl, ?_⟩
      have q : ∀ H', Kp [] H H' → Q (oV (if a = "budget" then numF b 1 1000000 else none)) H' := q
      by_cases e : a = "budget"
      · rw [if_pos e] at q
        refine ifNe (show V.str a = V.str "budget" by rw [e]) ?_
        refine ⟨_, rfl, l, _, 1, _, rfl, rfl, sqL hl, rfl, _, rfl, Nat.le_trans (b2 b (List.mem_cons_of_mem _ List.mem_cons_self)) hz, fun H2 k2 => q H2 (k1.trans k2)⟩
      · rw [if_neg e] at q
        exact ifNeY (show ¬ V.str a = V.str "budget" from fun z => e (V.str.inj z)) (q H1 k1)
    | [], hl, _, q => exact (show if (!decide (V.int ((0 : Nat) : Int) = V.int 2)) = true then _ else _ from ifNeY (fun z => nomatch z) (iteT (q H1 k1)))
    | [_], hl, _, q => exact (show if (!decide (V.int ((1 : Nat) : Int) = V.int 2)) = true then _ else _ from ifNeY (fun z => nomatch z) (iteT (q H1 k1)))
    | _ :: _ :: _ :: r, hl, _, q =>
      refine ifNeY (fun z => ?_) (iteT (q H1 k1))
      have := V.int.inj z
      simp only [List.length_cons] at this
      omega
/-- a pair of a name and a balance, or None -/
def PairV (K : PySem.W.Frag) (H : Hp) (v : V) : Option (Str × Int) → Prop
  | none => v = .non
  | some p => ∃ u : Addr, v = .ref u ∧ SqT K H u [.str p.1, .int p.2]
def sp_read_sender_row (K : PySem.W.Frag) : Sp := fun vs H Q _ => ∃ (x : Str), vs = [.str x] ∧ x.length ≤ 80000 ∧ ∀ v H', Kp [] H H' → PairV K H' v (sndRow x) → Q v H'
theorem ok_read_sender_row {f : Addr} {fd : FuncData} {k : Nat} (F : Fun K "read_sender_row" "read_sender_row" s_read_sender_row f fd) (m_len : mg "len" = none)
    (C_is_name : Cl P w K mg base CX0 1 "is_name" 1 (sp_is_name K)) (C_read_amount : Cl P w K mg base CX0 2 "read_amount" 1 (sp_read_amount K)) :
    FnG P w K mg base CX0 (k + 3) f fd ["row"] (sp_read_sender_row K) := by
  refine ok0 F sc_read_sender_row (fun vs H Q E h => ?_) (fun cdv A outer s H vs Q E gd hr h => ?_)
  · obtain ⟨x, rfl, _⟩ := h
    rfl
  · obtain ⟨x, rfl, hz, q⟩ := h
    refine ⟨_, (pss_cons (ps_set (i := 1) sc_read_sender_row.nd rfl (.inl rfl) (pe_split (pv 0) pe_str))
      (pss_cons (ps_if (PW.pt (pw_or (pt_cmpR op_ne (pe_callB (call_len_seqK (K := K) rfl) (by rfl) m_len (by decide +kernel) (pa_cons (pv 1) pa_nil)) pe_int (nomark _)) (pw_or1 (pt_not (pt_val (pe_cl C_is_name (hr.mono (by omega)) gd pass0 (by rfl) (pa_cons (pe_ix (ix_la (K := K) rfl) (pv 1) pe_int (fun _ _ => rfl)) pa_nil)))))))
      (pss_one (ps_ret pe_non))
      pss_nil)
      (pss_cons (ps_set (i := 2) sc_read_sender_row.nd rfl (.inl rfl) (pe_cl C_read_amount (hr.mono (by omega)) gd pass0 (by rfl) (pa_cons (pe_ix (ix_la (K := K) rfl) (pv 1) pe_int (fun _ _ => rfl)) pa_nil)))
      (pss_one (ps_ret (pe_ifP (pt_cmpR op_isN (pv 2) pe_non (nomark _)) pe_non (pe_ta (pa_cons (pe_ix (ix_la (K := K) rfl) (pv 1) pe_int (fun _ _ => rfl)) (pa_cons (pv 2) pa_nil))))))))), ?_⟩
    obtain ⟨b1, b2⟩ := blank_len x
    refine ⟨_, rfl, ⟨_, rfl⟩, x, " ", rfl, rfl, by decide +kernel, by rw [sizeLine_eq]; omega, fun l nl => ?_⟩
    have k1 : Kp [] H (upd H l (.lst ((Txt.split x " ").map V.str))) := Kp.new nl
    generalize hH1 : upd H l (.lst ((Txt.split x " ").map V.str)) = H1 at k1
    have hl : H1 l = some (.lst ((Txt.split x " ").map V.str)) := by rw [← hH1, upd_same]
    unfold sndRow at q
    refine ⟨_, rfl, l, _, rfl, .inl (sqL hl), ?_⟩
    generalize Txt.split x " " = ws at hl b1 b2 q
    rw [List.length_map]
    refine ⟨rfl, _, rfl, ?_⟩
    match ws, hl, b2, q with
    | [], hl, _, q => exact (show if (!decide (V.int ((0 : Nat) : Int) = V.int 2)) = true then _ else _ from ifNeY (fun z => nomatch z) (iteT (q .non H1 k1 rfl)))
    | [_], hl, _, q => exact (show if (!decide (V.int ((1 : Nat) : Int) = V.int 2)) = true then _ else _ from ifNeY (fun z => nomatch z) (iteT (q .non H1 k1 rfl)))
    | _ :: _ :: _ :: r, hl, _, q =>
      refine ifNeY (fun z => ?_) (iteT (q .non H1 k1 rfl))
      have := V.int.inj z
      simp only [List.length_cons] at this
      omega
    | [a, b], hl, b2, q =>
      refine (show if (!decide (V.int ((2 : Nat) : Int) = V.int 2)) = true then _ else _ from ifNe rfl ?_)
      have q : ∀ v H', Kp [] H H' → PairV K H' v (if isNm a = true then (numF b 0 1000000000000).map fun x => (a, x) else none) → Q v H' := q
      have la := b2 a List.mem_cons_self
      refine ⟨_, rfl, l, _, 0, _, rfl, rfl, sqL hl, rfl, .str a, .str a, (fun _ => False), rfl, .str a, by simp only [szD]; omega, fun H2 k2 => ?_⟩
      rw [nameD_str]
      have hl2 := k2.at0 hl
      refine ⟨_, rfl, ?_⟩
      cases e : isNm a with
      | false =>
        rw [if_neg (by rw [e]; exact Bool.false_ne_true)] at q
        exact (show if (!false) = true then _ else _ from iteT (q .non H2 (k1.trans k2) rfl))
      | true =>
        rw [if_pos e] at q
        refine (show if (!true) = true then _ else _ from iteF ?_)
        refine ⟨_, rfl, l, _, 1, _, rfl, rfl, sqL hl2, rfl, _, rfl, Nat.le_trans (b2 b (List.mem_cons_of_mem _ List.mem_cons_self)) hz, fun H3 k3 => ?_⟩
        have hl3 := k3.at0 hl2
        have k13 := k1.trans (k2.trans k3)
        refine ⟨_, ?_, fun _ _ z => z⟩
        cases en : numF b 0 1000000000000 with
        | none =>
          rw [en] at q
          refine ⟨_, rfl, rfl, _, rfl, ifYes rfl ?_⟩
          exact q .non H3 k13 rfl
        | some z =>
          rw [en] at q
          refine ⟨_, rfl, rfl, _, rfl, ifNo (fun w => nomatch w) ?_⟩
          refine ⟨_, rfl, l, _, 0, _, rfl, rfl, sqL hl3, rfl, _, rfl, Nat.le_of_ble_eq_true rfl, fun u H4 n4 k4 h4 => ?_⟩
          exact q (.ref u) H4 (k13.trans k4) ⟨u, rfl, sqT h4⟩
/-- a list of pairs in the heap -/
def PairsV (K : PySem.W.Frag) (H : Hp) : List V → List (Str × Int) → Prop
  | [], [] => True
  | v :: vs, p :: ps => PairV K H v (some p) ∧ PairsV K H vs ps
  | _, _ => False
theorem PairsV.len {K : PySem.W.Frag} {H : Hp} : ∀ {us : List V} {ps : List (Str × Int)}, PairsV K H us ps → us.length = ps.length
  | [], [], _ => rfl
  | [], _ :: _, h => h.elim
  | _ :: _, [], h => h.elim
  | _ :: _, _ :: _, h => by rw [List.length_cons, List.length_cons, h.2.len]
theorem PairsV.kp {K : PySem.W.Frag} {H H' : Hp} (k : Kp [] H H') : ∀ {us : List V} {ps : List (Str × Int)}, PairsV K H us ps → PairsV K H' us ps
  | [], [], _ => trivial
  | [], _ :: _, h => h.elim
  | _ :: _, [], h => h.elim
  | _ :: _, _ :: _, ⟨⟨u, e, h⟩, r⟩ => ⟨⟨u, e, k.tup0 h⟩, r.kp k⟩
theorem PairsV.md {K : PySem.W.Frag} {H H' : Hp} {D : Addr} {xs : List V} (hD : H D = some (.lst xs)) (m : Md D H H') : ∀ {us : List V} {ps : List (Str × Int)}, PairsV K H us ps → PairsV K H' us ps
  | [], [], _ => trivial
  | [], _ :: _, h => h.elim
  | _ :: _, [], h => h.elim
  | _ :: _, _ :: _, ⟨⟨u, e, h⟩, r⟩ => ⟨⟨u, e, m.kp.tup1 hD h⟩, r.md hD m⟩
theorem PairsV.snoc {K : PySem.W.Frag} {H : Hp} {v : V} {p : Str × Int} (hv : PairV K H v (some p)) : ∀ {us : List V} {ps : List (Str × Int)}, PairsV K H us ps → PairsV K H (us ++ [v]) (ps ++ [p])
  | [], [], _ => ⟨hv, trivial⟩
  | [], _ :: _, h => h.elim
  | _ :: _, [], h => h.elim
  | _ :: _, _ :: _, h => ⟨h.1, h.2.snoc hv⟩
def preS (ps : List (Str × Int)) : Except Nat (List (Str × Int)) → Except Nat (List (Str × Int))
  | .error j => .error j
  | .ok l => .ok (ps ++ l)
theorem preS_nil (x : Except Nat (List (Str × Int))) : preS [] x = x := by cases x <;> rfl
def sp_read_senders (K : PySem.W.Frag) (BT : Addr) : Sp := fun vs H Q E => ∃ (l : Addr) (rs : List Str), vs = [.ref l] ∧ SqL K H l (rs.map V.str) ∧ rs.length ≤ 80001 ∧ (∀ x ∈ rs, x.length ≤ 80000) ∧
  (∀ ps, sndsF 1 "" (rs.drop 1) = .ok ps → ∀ q us H', Kp [] H H' → H' q = some (.lst us) → PairsV K H' us ps → Q (.ref q) H') ∧
  (∀ i, sndsF 1 "" (rs.drop 1) = .error i → ∀ e H', Kp [] H H' → H' e = none → E (.ref BT) (some e) (upd H' e (.xd [("value", .int (i : Int))])))
theorem ok_read_senders {f : Addr} {fd : FuncData} {k : Nat} {BT : Addr} (F : Fun K "read_senders" "read_senders" s_read_senders f fd) (m_enumerate : mg "enumerate" = none) {tk : Tok} (mg_MOST_SENDERS : mg "MOST_SENDERS" = some (.int 40 tk)) (t_BadText : Told P w K mg base "BadText" BT)
    (C_read_sender_row : Cl P w K mg base CX0 3 "read_sender_row" 1 (sp_read_sender_row K)) :
    FnG P w K mg base (L2.CX P w) (k + 4) f fd ["rows"] (sp_read_senders K BT) := by
  obtain ⟨_, _, V_BadText, F_BadText⟩ := t_BadText
  refine okX F sc_read_senders (fun vs H Q E h => ?_) (fun cdv A outer s H vs Q E gd hr h => ?_)
  · obtain ⟨l, rs, rfl, _⟩ := h
    rfl
  · obtain ⟨l, rs, rfl, hl, hz, hr1, q1, q2⟩ := h
    have hr2 := hr.mono (show 1 + 1 ≤ k + 3 by omega)
    refine ⟨_, (pss_cons (ps_set (i := 1) sc_read_senders.nd rfl (.inl rfl) (pe_li pa_nil))
      (pss_cons (ps_set (i := 2) sc_read_senders.nd rfl (.inl rfl) pe_str)
      (pss_cons (ps_forW (passes_of rfl) rfl (pi_es (by rfl) m_enumerate (pa_cons (pe_slice (sl_laFrom (K := K) rfl) (pv 0) (po_some pe_int) po_none) pa_nil) (pk_cons pe_int pk_nil)) (pg_tup rfl (pgs_cons (pg_name (i := 3) sc_read_senders.nd rfl (.inl rfl)) (pgs_cons (pg_name (i := 4) sc_read_senders.nd rfl (.inl rfl)) pgs_nil)))
      (pss_cons (ps_set (i := 5) sc_read_senders.nd rfl (.inl rfl) (pe_cl C_read_sender_row (hr.mono (by omega)) gd pass0 (by rfl) (pa_cons (pv 4) pa_nil)))
      (pss_cons (ps_if (PW.pt (pw_or (pt_cmpR op_isN (pv 5) pe_non (nomark _)) (pw_or (pt_cmpR op_le_str (pe_ix (ix_taN (K := K) rfl) (pv 5) pe_int (fun _ _ => rfl)) (pv 2) (nomark _)) (pw_or1 (pt_cmpR op_gt (pv 3) (pe_glob (v := .int 40) rfl mg_MOST_SENDERS ⟨_, rfl⟩) (nomark _))))))
      (pss_one (ps_raise rfl (takes_of rfl rfl rfl rfl) (pmk_value V_BadText F_BadText hr2 (by rfl) (pv 3))))
      pss_nil)
      (pss_cons (ps_expr (pe_bm PySem.F.plainAttrs_list PySem.F.slot_list_append PySem.F.type_list_append mt_app (pv 1) (pa_cons (pv 5) pa_nil)))
      (pss_one (ps_set (i := 2) sc_read_senders.nd rfl (.inl rfl) (pe_ix (ix_taN (K := K) rfl) (pv 5) pe_int (fun _ _ => rfl))))))))
      (pss_one (ps_ret (pv 1)))))), ?_⟩
    refine ⟨[], rfl, Nat.zero_le _, fun FO H1 n1 k1 h1 => ?_⟩
    have hl1 := k1.lst0 hl
    have h1 : H1 FO = some (.lst ([] : List V)) := h1
    refine ⟨_, rfl, _, rfl, l, _, 1, rfl, rfl, rfl, hl1, by decide, fun R H2 nR k2 hR => ?_⟩
    have hR : H2 R = some (.lst ((rs.drop 1).map V.str)) := by
      rw [hR, List.map_drop]
      rfl
    have nRF : R ≠ FO := fun z => ne_of_none h1 nR z.symm
    refine ⟨R, _, 1, rfl, rfl, by decide, sqL hR, _, _, _, walk_es (xs := (rs.drop 1).map V.str), ?_⟩
    have hsub : ∀ x ∈ rs.drop 1, x ∈ rs := fun x hx => List.mem_of_mem_drop hx
    have hlen : (rs.drop 1).length ≤ rs.length := by rw [List.length_drop]; omega
    generalize rs.drop 1 = rd at hR q1 q2 hsub hlen
    generalize hXX : sndsF 1 "" rd = XX at q1 q2
    refine ⟨fun i σ H' => ∃ (y3 y4 y5 : Option V) (bf : Str) (us : List V) (ps : List (Str × Int)), σ = [some (.ref l), some (.ref FO), some (.str bf), y3, y4, y5] ∧ Kp [] H H' ∧ H' FO = some (.lst us) ∧ H' R = some (.lst (rd.map V.str)) ∧ PairsV K H' us ps ∧ us.length = i ∧ XX = preS ps (sndsF (i + 1) bf (rd.drop i)),
      ⟨_, _, _, "", [], [], rfl, k1.trans k2, k2.at0 h1, hR, trivial, rfl, by rw [preS_nil, ← hXX]; rfl⟩, fun _ _ _ _ ⟨_, _, _, _, _, _, _, _, _, z, _⟩ => sqL z, ?_, ?_⟩
    · rintro i x σ H3 H4 hi ⟨y3, y4, y5, bf, us, ps, rfl, k3, hF3, hR3, hp3, lu, eq⟩ ⟨U, v, rfl, nU, kU, hU, hx⟩
      obtain ⟨hi2, rfl⟩ := strs_get hx
      refine ⟨U, _, rfl, sqT hU, rfl, _, _, rfl, _, _, rfl, rfl, ?_⟩
      have em : rd.getD i default ∈ rd := by
        rw [List.getD_eq_getElem?_getD, List.getElem?_eq_getElem hi2]
        exact List.getElem_mem hi2
      have ed : rd.drop i = rd.getD i default :: rd.drop (i + 1) := by
        rw [List.drop_eq_getElem_cons hi2, List.getD_eq_getElem?_getD, List.getElem?_eq_getElem hi2]
        rfl
      rw [ed] at eq
      generalize rd.getD i default = row at em eq
      have hF4 := kU.at0 hF3
      have k4 := k3.trans kU
      refine ⟨_, rfl, row, rfl, hr1 _ (hsub _ em), fun v H5 k5 hv => ?_⟩
      have hF5 := k5.at0 hF4
      have k5' := k4.trans k5
      have hp5 := (hp3.kp (kU.trans k5))
      have hR5 := (kU.trans k5).at0 hR3
      unfold sndsF at eq
      cases es : sndRow row with
      | none =>
        rw [es] at hv eq
        obtain rfl : v = .non := hv
        refine ⟨_, rfl, rfl, _, rfl, ifYes rfl (iteT ⟨_, rfl, fun e ne => ?_⟩)⟩
        exact q2 (i + 1) eq e H5 k5' ne
      | some p =>
        rw [es] at hv eq
        obtain ⟨u, rfl, hu⟩ : ∃ u : Addr, v = .ref u ∧ SqT K H5 u [.str p.1, .int p.2] := hv
        refine ⟨_, rfl, rfl, _, rfl, ifNo (fun z => nomatch z) ?_⟩
        have eq : XX = preS ps (if (leS p.1 bf || decide (40 < i + 1)) = true then .error (i + 1) else match sndsF (i + 1 + 1) p.1 (rd.drop (i + 1)) with | .error j => .error j | .ok l => .ok (p :: l)) := eq
        have el : (!decide (bf.cps.toList < p.1.cps.toList)) = leS p.1 bf := by rw [← ltCps_eq, ltCps_leS, Bool.not_not]
        refine ⟨_, rfl, u, _, 0, _, rfl, rfl, hu, rfl, _, rfl, _, _, rfl, rfl, _, rfl, ?_⟩
        rw [el]
        cases c1 : leS p.1 bf with
        | true =>
          rw [c1] at eq
          have eq : XX = .error (i + 1) := eq
          refine (show if true = true then _ else _ from iteT (iteT ⟨_, rfl, fun e ne => ?_⟩))
          exact q2 (i + 1) eq e H5 k5' ne
        | false =>
          rw [c1] at eq
          refine (show if false = true then _ else _ from iteF ?_)
          refine ⟨_, rfl, _, _, rfl, rfl, _, rfl, ?_⟩
          by_cases c2 : (40 : Int) < ((i + 1 : Nat) : Int)
          · have eq : XX = .error (i + 1) := by rw [eq, decide_eq_true (show 40 < i + 1 by omega)]; rfl
            refine ifYes c2 ⟨_, rfl, fun e ne => ?_⟩
            exact q2 (i + 1) eq e H5 k5' ne
          · refine ifNo c2 ?_
            rw [decide_eq_false (show ¬ 40 < i + 1 by omega)] at eq
            have eq : XX = preS ps (match sndsF (i + 1 + 1) p.1 (rd.drop (i + 1)) with | .error j => .error j | .ok l => .ok (p :: l)) := eq
            refine ⟨_, rfl, .inl ⟨rfl, _, sqL hF5⟩, _, rfl, FO, us, _, rfl, rfl, hF5, by rw [sizeLine_eq]; omega, fun H6 m6 h6 => ?_⟩
            have hu6 := m6.kp.tup1 hF5 hu
            refine ⟨_, rfl, u, _, 0, _, rfl, rfl, hu6, rfl, ?_⟩
            refine ⟨_, _, _, p.1, us ++ [.ref u], ps ++ [p], rfl, k5'.md (.inl n1) m6, h6, (m6 R nRF).trans hR5, ?_, by rw [List.length_append, lu]; rfl, ?_⟩
            · exact (hp5.md hF5 m6).snoc ⟨u, rfl, hu6⟩
            · rw [eq]
              cases sndsF (i + 1 + 1) p.1 (rd.drop (i + 1)) with
              | error j => rfl
              | ok l => exact congrArg Except.ok (List.append_assoc ps [p] l).symm
    rintro σ H3 ⟨y3, y4, y5, bf, us, ps, rfl, k3, hF3, hR3, hp3, lu, eq⟩
    rw [List.length_map, List.drop_of_length_le (Nat.le_refl _)] at eq
    have eq : XX = .ok ps := by
      rw [eq]
      exact congrArg Except.ok (List.append_nil ps)
    exact ⟨_, rfl, q1 ps eq FO us H3 k3 hF3 hp3⟩
/-! ### a link is read: what enter raises while it is read -/
open TL
def sp_change_N (K : PySem.W.Frag) (C : Addr) (T : List (Addr × Str)) (X : LkX) : Sp := sp_Link_change K C T X
theorem ntw_Link_change {f C : Addr} {fd : FuncData} {k : Nat} {T : List (Addr × Str)} {X : LkX} (F : Fun K "change" "Link.change" s_Link_change f fd) (LC : LinkC K C) (t_Refused : Told P w K mg base "Refused" X.refused)
    (C_weak_names : Cl P w K mg base CX0 6 "weak_names" 2 (sp_weak_names K T)) (M_keep : ClM P w K mg base CX0 1 C "keep" (sp_Link_keep C T)) :
    FnG P w K mg base (L2N.CX P w) (k + 7) f fd ["self", "budget", "balances"] (sp_change_N K C T X) := by
  obtain ⟨_, _, V_Refused, F_Refused⟩ := t_Refused
  refine okN F sc_Link_change (fun vs H Q E h => ?_) (fun cdv A outer s H vs Q E gd hr h => ?_)
  · obtain ⟨p, q, s, g, d, t, rfl, _⟩ := h
    rfl
  · obtain ⟨p, q, s, g, d, t, rfl, L, hd, nd, hl, hg, hT, pl, w1, w2⟩ := h
    have hr2 := hr.mono (show 1 + 1 ≤ k + 6 by omega)
    refine ⟨_, (pss_cons (ps_set (i := 3) sc_Link_change.nd rfl (.inl rfl) (pe_cl C_weak_names (hr.mono (by omega)) gd pass0 (by rfl) (pa_cons (pv 1) (pa_cons (pv 2) pa_nil))))
      (pss_cons (ps_if (pt_cmpR op_notN (pv 3) pe_non (nomark _))
      (pss_one (L2N.ps_raise rfl (L2N.takes_of rfl rfl rfl rfl) (pmkN_value V_Refused F_Refused hr2 (by rfl) (pv 3))))
      pss_nil)
      (pss_one (ps_expr (pe_clM (E := fun _ _ _ _ => False) LC.cls M_keep (hr.mono (by omega)) gd passG (pv 0) (pa_cons (pv 1) (pa_cons (pv 2) pa_nil))))))), ?_⟩
    refine ⟨_, rfl, _, rfl, g, d, t, rfl, hd, nd, hl, hg, hT, fun e H1 k1 => ?_, fun W e u H1 k1 hu => ?_⟩
    · refine ⟨_, rfl, rfl, _, rfl, ?_⟩
      refine (show if (!decide (V.non = V.non)) = true then _ else _ from ifNe rfl ?_)
      have L1 := L.kt k1
      obtain ⟨⟨dx, d0, h1, h2⟩, _⟩ := id L1
      refine ⟨_, rfl, p, dx, _, rfl, h1, no_attr, _, rfl, _, rfl, p, q, s, g, d, t, rfl, L1, k1.ext _ _ hd (fun _ z => nomatch z), pl, fun H2 k2 L2 => ?_⟩
      exact w2 e H2 ((Ks.of k1).trans k2) L2
    · refine ⟨_, rfl, rfl, _, rfl, ?_⟩
      refine (show if (!decide (V.ref u = V.non)) = true then _ else _ from ifNeY (fun z => nomatch z) ?_)
      exact ⟨_, rfl, fun e2 he => w1 W e u e2 H1 k1 hu he⟩
def sp_enter_N (K : PySem.W.Frag) (C : Addr) (T : List (Addr × Str)) (X : LkX) : Sp := fun vs H Q E => ∃ (p q : Addr) (s : LkS) (n : Str) (a : Int), vs = [.ref p, .str n, .int a] ∧ LkAt C H p q s ∧ Good s ∧ s.past.length ≤ 10000 ∧ Tabs T H ∧ isNm n = true ∧ n ∉ keysT s.t ∧ 0 ≤ a ∧ a ≤ 1000000000000 ∧ s.t.length < 40 ∧
  (gapOf s.b (valsT s.t ++ [a]) = none → ∀ H', Ks T (Two p q) H H' → LkAt C H' p q ⟨s.b, s.t ++ [(n, a)], s.past ++ [(s.b, s.t)]⟩ → Q .non H') ∧
  (gapOf s.b (valsT s.t ++ [a]) ≠ none → ∀ u e H', Kt T H H' → H' e = none → E (.ref X.refused) (some e) (upd H' e (.xd [("value", u)])))
theorem ntw_Link_enter {f C : Addr} {fd : FuncData} {k : Nat} {T : List (Addr × Str)} {X : LkX} (F : Fun K "enter" "Link.enter" s_Link_enter f fd) (LC : LinkC K C) (m_len : mg "len" = none) {tk0 : Tok} (mg_MOST_SENDERS : mg "MOST_SENDERS" = some (.int 40 tk0))
    (C_is_name : Cl P w K mg base CX0 1 "is_name" 1 (sp_is_name K)) (C_require_amount : Cl P w K mg base (L2.CX P w) 4 "require_amount" 1 (sp_require_amount K X)) (M_change_N : ClM P w K mg base (L2N.CX P w) 7 C "change" (sp_change_N K C T X)) :
    FnG P w K mg base (L2N.CX P w) (k + 8) f fd ["self", "name", "balance"] (sp_enter_N K C T X) := by
  refine okN F sc_Link_enter (fun vs H Q E h => ?_) (fun cdv A outer s0 H vs Q E gd hr h => ?_)
  · obtain ⟨p, q, s, n, a, rfl, _⟩ := h
    rfl
  obtain ⟨p, q, s, n, a, rfl, L, G, pl, hT, nn, hk, a0, a1, l40, w1, w2⟩ := h
  refine ⟨_, (pss_cons (ps_if (pt_not (pt_val (pe_cl C_is_name (hr.mono (by omega)) gd pass0 (by rfl) (pa_cons (pv 1) pa_nil))))
      (pss_one ps_never)
      pss_nil)
      (pss_cons (ps_if (pt_cmp (pc_din (hu1 hr) (pv 1) (pe_fld (pv 0) rfl)))
      (pss_one ps_never)
      pss_nil)
      (pss_cons (ps_expr (pe_clS (E := fun _ _ _ _ => False) C_require_amount (hr.mono (by omega)) gd passFS (by rfl) (pa_cons (pv 2) pa_nil)))
      (pss_cons (ps_if (pt_cmpR op_ge (pe_callB call_lenD (by rfl) m_len (by decide +kernel) (pa_cons (pe_fld (pv 0) rfl) pa_nil)) (pe_glob (v := .int 40) rfl mg_MOST_SENDERS ⟨_, rfl⟩) (nomark _))
      (pss_one ps_never)
      pss_nil)
      (pss_one (ps_expr (pe_clM (E := fun _ => E) LC.cls M_change_N (hr.mono (by omega)) gd (fun σ => L2N.passAt (W := fun cls d _ H => E cls d H) (L2N.takes_of rfl rfl rfl rfl) σ) (pv 0) (pa_cons (pe_fld (pv 0) rfl) (pa_cons (pe_dstar (pe_fld (pv 0) rfl) (pv 1) (pv 2)) pa_nil))))))))), ?_⟩
  have n8 := isNm_len nn
  refine ⟨_, rfl, .str n, .str n, (fun _ => False), rfl, .str n, by simp only [szD]; omega, fun H1 k1 => ?_⟩
  rw [nameD_str, nn]
  refine ⟨_, rfl, (show if (!true) = true then _ else _ from iteF ?_)⟩
  have L1 := L.kp k1
  obtain ⟨⟨dv, d0, h1, h2⟩, _⟩ := id L1
  refine ⟨_, rfl, _, rfl, p, C, dv, _, _, rfl, h1, LC.cls, LC.nd, lkF_d _ _ _, d0, _, rfl, DGet.k (k := Sum.inr n) h2, _, rfl, ?_⟩
  rw [tk_val, tget_none.mpr hk]
  refine (show if false = true then _ else _ from iteF ?_)
  have ea : amtD (.int a) = some a := if_pos ⟨a0, a1⟩
  refine ⟨_, rfl, .int a, .int a, (fun _ => False), rfl, .int a, fun _ => ?_, fun z => by rw [ea] at z; cases z⟩
  refine ⟨_, rfl, p, C, dv, _, _, rfl, h1, LC.cls, LC.nd, lkF_d _ _ _, d0, _, rfl, h2, _, _, rfl, rfl, _, rfl, ?_⟩
  rw [tk_len]
  refine (show if decide ((s.t.length : Int) ≥ 40) = true then _ else _ from ifNo (by omega) ?_)
  refine ⟨_, rfl, p, dv, _, rfl, h1, no_attr, ?_⟩
  refine ⟨_, rfl, p, C, dv, _, _, rfl, h1, LC.cls, LC.nb, lkF_b _ _ _, fun u nu => ?_⟩
  have npu : p ≠ u := ne_of_none h1 nu
  have ndu : d0 ≠ u := ne_of_none h2 nu
  have h1u := (upd_ne (o := .dK []) npu).trans h1
  have h2u := (upd_ne (o := .dK []) ndu).trans h2
  refine ⟨_, rfl, p, C, dv, _, _, rfl, h1u, LC.cls, LC.nd, lkF_d _ _ _, d0, tk s.t, rfl, ndu, .inl h2u, upd_same, by rw [tk_len, sizeLine_eq]; omega, fun u2 nu2 => ?_⟩
  have nu2u : u2 ≠ u := fun z => by
    rw [z, upd_same] at nu2
    cases nu2
  have nu2' : H1 u2 = none := (upd_ne nu2u).symm.trans nu2
  refine ⟨_, rfl, _, rfl, Sum.inr n, rfl, (upd_ne nu2u.symm).trans upd_same, upd_same, nu2u, ?_⟩
  rw [tk_put]
  generalize hH2 : upd (upd (upd (upd (upd H1 u (.dK [])) u (.dK (tk s.t))) u2 (.dK [])) u2 (.dK [(Sum.inr n, .int a)])) u (.dK (tk (tput s.t n a))) = H2
  have k2 : Kp [] H1 H2 := fun b o _ e => by
    rw [← hH2]
    have b1 := ne_of_none e nu
    have b2 := ne_of_none e nu2'
    rw [upd_ne b1, upd_ne b2, upd_ne b2, upd_ne b1, upd_ne b1]
    exact e
  have hu2 : H2 u = some (.dK (tk (tput s.t n a))) := by rw [← hH2]; exact upd_same
  have et : tput s.t n a = s.t ++ [(n, a)] := tput_new a hk
  have ev : valsT (tput s.t n a) = valsT s.t ++ [a] := by
    rw [et]
    unfold valsT
    rw [List.map_append]
    rfl
  have wk : weakN s.b (tput s.t n a) = none ↔ gapOf s.b (valsT s.t ++ [a]) = none := by rw [weakN_none, ev]
  refine ⟨p, q, s, s.b, u, tput s.t n a, rfl, L1.kp k2, hu2, tput_nd a G.now.nd, by have := tput_len_le s.t n a; omega, G.now.b1, (k1.trans k2).kt.tab hT, pl, fun W ew z e H3 k3 hz3 he => ?_, fun ew H3 k3 L3 => ?_⟩
  · exact w2 (fun z => by rw [wk.mpr z] at ew; cases ew) (.ref z) e H3 ((k1.trans k2).kt.trans k3) he
  · rw [et] at L3
    exact w1 (wk.mp ew) H3 ((Ks.of (k1.trans k2).kt).trans k3) L3
theorem numF_bd {w : Str} {lo hi n : Int} (h : numF w lo hi = some n) : lo ≤ n ∧ n ≤ hi := ⟨(numF_some h).2.1, (numF_some h).2.2.1⟩
theorem budRow_ok {r : Str} {b : Int} (h : budRow r = some b) : 1 ≤ b ∧ b ≤ 1000000 := by
  unfold budRow at h
  split at h
  · split at h
    · exact numF_bd h
    · cases h
  · cases h
theorem sndRow_ok {r : Str} {p : Str × Int} (h : sndRow r = some p) : isNm p.1 = true ∧ 0 ≤ p.2 ∧ p.2 ≤ 1000000000000 := by
  unfold sndRow at h
  split at h
  · split at h
    · rename_i a b _ nm
      cases e : numF b 0 1000000000000 with
      | none => rw [e] at h; cases h
      | some x =>
        rw [e] at h
        cases h
        exact ⟨nm, numF_bd e⟩
    · cases h
  · cases h
/-- what rows that stand tell -/
structure SndsOk (i : Nat) (bf : Str) (ps : List (Str × Int)) : Prop where
  all : ∀ p ∈ ps, isNm p.1 = true ∧ 0 ≤ p.2 ∧ p.2 ≤ 1000000000000
  gt : ∀ p ∈ ps, leS p.1 bf = false
  asc : ps.Pairwise fun a b => leS b.1 a.1 = false
  few : ps = [] ∨ i + ps.length ≤ 41
theorem leS_false_trans {a b c : Str} (h1 : leS b a = false) (h2 : leS c b = false) : leS c a = false := by
  cases e : leS c a with
  | false => rfl
  | true =>
    have t : leS a b = true := by
      have := leS_total a b
      rw [h1, Bool.or_false] at this
      exact this
    rw [leS_trans c a b e t] at h2
    cases h2
theorem sndsF_ok : ∀ {rs : List Str} {i : Nat} {bf : Str} {ps : List (Str × Int)}, sndsF i bf rs = .ok ps → SndsOk i bf ps
  | [], i, bf, ps, h => by
    cases h
    exact ⟨(fun _ z => nomatch z), (fun _ z => nomatch z), .nil, .inl rfl⟩
  | r :: rs, i, bf, ps, h => by
    unfold sndsF at h
    split at h
    · cases h
    · rename_i p er
      split at h
      · cases h
      · rename_i hc
        split at h
        · cases h
        · rename_i l el
          cases h
          have ih := sndsF_ok el
          rw [Bool.not_eq_true, Bool.or_eq_false_iff] at hc
          have h40 := of_decide_eq_false hc.2
          refine ⟨fun q hq => ?_, fun q hq => ?_, List.pairwise_cons.mpr ⟨ih.gt, ih.asc⟩, .inr ?_⟩
          · rcases List.mem_cons.mp hq with e | e
            · rw [e]; exact sndRow_ok er
            · exact ih.all q e
          · rcases List.mem_cons.mp hq with e | e
            · rw [e]; exact hc.1
            · exact leS_false_trans hc.1 (ih.gt q e)
          · rcases ih.few with e | e
            · rw [e]
              show i + 1 ≤ 41
              omega
            · rw [List.length_cons]; omega
theorem SndsOk.at_ {i0 : Nat} {bf : Str} {ps : List (Str × Int)} (h : SndsOk i0 bf ps) {i : Nat} (hi : i < ps.length) : isNm (ps.getD i default).1 = true ∧ 0 ≤ (ps.getD i default).2 ∧ (ps.getD i default).2 ≤ 1000000000000 := by
  have := h.all (ps.getD i default) (by
    rw [List.getD_eq_getElem?_getD, List.getElem?_eq_getElem hi]
    exact List.getElem_mem hi)
  exact this
theorem SndsOk.nodup {i0 : Nat} {bf : Str} {ps : List (Str × Int)} (h : SndsOk i0 bf ps) (i : Nat) : (keysT (ps.take i)).Nodup := by
  unfold keysT List.Nodup
  rw [List.pairwise_map]
  refine (List.Pairwise.sublist (List.take_sublist i ps) h.asc).imp fun {a b} z e => ?_
  rw [e, leS_refl] at z
  cases z
theorem SndsOk.new {i0 : Nat} {bf : Str} {ps : List (Str × Int)} (h : SndsOk i0 bf ps) {i : Nat} (hi : i < ps.length) : (ps.getD i default).1 ∉ keysT (ps.take i) := fun hm => by
  have nd := h.nodup (i + 1)
  rw [List.take_add_one, List.getElem?_eq_getElem hi] at nd
  unfold keysT at nd hm
  rw [List.map_append] at nd
  have := (List.nodup_append.mp nd).2.2 _ hm
  refine this ps[i].1 (List.mem_singleton.mpr rfl) ?_
  rw [List.getD_eq_getElem?_getD, List.getElem?_eq_getElem hi]
  rfl
theorem vals_snoc {ps : List (Str × Int)} {i : Nat} (hi : i < ps.length) : valsT (ps.take i) ++ [(ps.getD i default).2] = (valsT ps).take (i + 1) := by
  unfold valsT
  rw [← List.map_take, List.take_add_one, List.getElem?_eq_getElem hi, List.map_append, List.getD_eq_getElem?_getD, List.getElem?_eq_getElem hi]
  rfl
theorem PairsV.at_ {K : PySem.W.Frag} {H : Hp} : ∀ {us : List V} {ps : List (Str × Int)} {i : Nat} {v : V}, PairsV K H us ps → i < us.length → us[i]? = some v → ∃ u : Addr, v = .ref u ∧ SqT K H u [.str (ps.getD i default).1, .int (ps.getD i default).2]
  | [], [], _, _, _, h, _ => absurd h (Nat.not_lt_zero _)
  | [], _ :: _, _, _, h, _, _ => h.elim
  | _ :: _, [], _, _, h, _, _ => h.elim
  | _ :: _, _ :: _, 0, _, h, _, e => by
    cases e
    exact h.1
  | _ :: _, _ :: _, i + 1, _, h, hi, e => h.2.at_ (i := i) (Nat.lt_of_succ_lt_succ hi) e
theorem PairsV.st {K : PySem.W.Frag} {N : Addr → Prop} {H H' : Hp} (k : Stay K N H H') : ∀ {us : List V} {ps : List (Str × Int)}, PairsV K H us ps → PairsV K H' us ps
  | [], [], _ => trivial
  | [], _ :: _, h => h.elim
  | _ :: _, [], h => h.elim
  | _ :: _, _ :: _, ⟨⟨u, e, h⟩, r⟩ => ⟨⟨u, e, k.t _ _ h⟩, r.st k⟩
def sp_read_link (K : PySem.W.Frag) (C : Addr) (T : List (Addr × Str)) (BT : Addr) : Sp := fun vs H Q E => ∃ (v : V) (o : Option Str), vs = [v] ∧ StrOr K H v o ∧ Tabs T H ∧
  (∀ b t, readL o = .ok (b, t) → ∀ p q H', Kt T H H' → Nt H p → Nt H q → LkAt C H' p q ⟨b, t, []⟩ → GoodT b t → Q (.ref p) H') ∧
  (∀ i, readL o = .error i → ∀ e H', Kt T H H' → H' e = none → E (.ref BT) (some e) (upd H' e (.xd [("value", .int (i : Int))])))
theorem ok_read_link {f C : Addr} {fd : FuncData} {k : Nat} {T : List (Addr × Str)} {BT : Addr} {X : LkX} (F : Fun K "read_link" "read_link" s_read_link f fd) (LC : LinkC K C) (m_isinstance : mg "isinstance" = none) (m_str : mg "str" = none) (m_len : mg "len" = none) (t_BadText : Told P w K mg base "BadText" BT) (h_BadText : ToldH P w K mg base "BadText" BT) (x_Refused : mg "Refused" = some (.ref X.refused))
    (r_Refused : PySem.W.exmOne K (.ref X.refused) (.ref X.refused) = some true)
    (C_read_budget_row : Cl P w K mg base CX0 3 "read_budget_row" 1 (sp_read_budget_row K)) (C_read_senders : Cl P w K mg base (L2.CX P w) 4 "read_senders" 1 (sp_read_senders K BT)) (N_Link : ClN P w K mg base (L2.CX P w) 5 "Link" C (sp_Link___init__ K C X))
    (M_enter_N : ClM P w K mg base (L2N.CX P w) 8 C "enter" (sp_enter_N K C T X)) (M_clone : ClM P w K mg base CX0 7 C "clone" (sp_Link_clone C)) :
    FnG P w K mg base (L2.CX P w) (k + 9) f fd ["text"] (sp_read_link K C T BT) := by
  obtain ⟨_, _, V_BadText, F_BadText⟩ := t_BadText
  obtain ⟨_, _, H_BadText, I_BadText⟩ := h_BadText
  refine okX F sc_read_link (fun vs H Q E h => ?_) (fun cdv A outer s H vs Q E gd hr h => ?_)
  · obtain ⟨v, o, rfl, _⟩ := h
    rfl
  · obtain ⟨v, o, rfl, hv, hT, q1, q2⟩ := h
    obtain ⟨aT, ty, kit⟩ := hv.ty
    have hr2 := hr.mono (show 1 + 1 ≤ k + 8 by omega)
    refine ⟨_, (pss_cons (ps_if (pt_not (pt_val (pe_callB (call_isiB (K := K) rfl) (by rfl) m_isinstance (by decide +kernel) (pa_cons (pv 0) (pa_cons (pe_bltn (v := .ty "str") (by rfl) m_str rfl rfl) pa_nil)))))
      (pss_one (ps_raise rfl (takes_of rfl rfl rfl rfl) (pmk_value V_BadText F_BadText hr2 (by rfl) pe_int)))
      pss_nil)
      (pss_cons (ps_set (i := 1) sc_read_link.nd rfl (.inl rfl) (pe_split (pv 0) pe_str))
      (pss_cons (ps_set (i := 2) sc_read_link.nd rfl (.inl rfl) (pe_cl C_read_budget_row (hr.mono (by omega)) gd pass0 (by rfl) (pa_cons (pe_ix (ix_la (K := K) rfl) (pv 1) pe_int (fun _ _ => rfl)) pa_nil)))
      (pss_cons (ps_if (pt_cmpR op_isN (pv 2) pe_non (nomark _))
      (pss_one (ps_raise rfl (takes_of rfl rfl rfl rfl) (pmk_value V_BadText F_BadText hr2 (by rfl) pe_int)))
      pss_nil)
      (pss_cons (ps_set (i := 3) sc_read_link.nd rfl (.inl rfl) (pe_clS (E := fun _ => E) C_read_senders (hr.mono (by omega)) gd (fun σ => passAt (W := fun cls d _ H => E cls d H) (takes_of rfl rfl rfl rfl) σ) (by rfl) (pa_cons (pv 1) pa_nil)))
      (pss_cons (ps_set (i := 4) sc_read_link.nd rfl (.inl rfl) (pe_clN (E := fun _ => E) N_Link (hr.mono (by omega)) gd (fun σ => passAt (W := fun cls d _ H => E cls d H) (takes_of rfl rfl rfl rfl) σ) (by rfl) (pa_cons (pv 2) pa_nil)))
      (pss_cons (ps_try_for (X := cxOf (L2.CX P w) P w K mg base ["text", "rows", "budget", "senders", "link", "name", "balance"] "read_link" (defScope s_read_link) f cdv A outer s H E) (wi := iList K (tVar 3)) (g := (gTup K 2 (gCons (gName 5) (gCons (gName 6) gNil)))) rfl rfl ⟨by rfl, by decide, .inl x_Refused⟩ (L2H.passesAt_of rfl) (takes_of rfl rfl rfl rfl) rfl (fun pn xe => (pi_list (pv 3))) (fun pn xe => (pg_tup rfl (pgs_cons (pg_name (i := 5) sc_read_link.nd rfl (.inl rfl)) (pgs_cons (pg_name (i := 6) sc_read_link.nd rfl (.inl rfl)) pgs_nil))))
      (fun W pn xe tk => (pss_one (ps_expr (pe_clM LC.cls M_enter_N (hr.mono (by omega)) gd (fun σ => L2N.passAt tk σ) (pv 4) (pa_cons (pv 5) (pa_cons (pv 6) pa_nil))))))
      (fun a oe cls d pn hz hf tkS hot => (pss_one (L2H.ps_raiseHN hot tkS (pmk5_value H_BadText I_BadText (L2H.roomH_mark hr2 _) hot (by rfl) (pe_callB (call_len_seqK (K := K) rfl) (by rfl) m_len (by decide +kernel) (pa_cons (pv 1) pa_nil)))))))
      (pss_one (ps_ret (pe_clM0 (E := fun _ _ _ _ => False) LC.cls M_clone (hr.mono (by omega)) gd passG (pv 4))))))))))), ?_⟩
    refine ⟨_, rfl, _, _, _, _, rfl, ty, kit, _, rfl, ?_⟩
    cases o with
    | none => exact (show if (!false) = true then _ else _ from iteT fun e1 n1 => q2 0 rfl e1 H .refl n1)
    | some x =>
      refine (show if (!true) = true then _ else _ from iteF ?_)
      obtain ⟨rfl, hz⟩ := hv
      obtain ⟨b1, b2⟩ := line_len x
      have rne := line_ne x
      have q1 : ∀ b t, readRows (Txt.split x "\n") = .ok (b, t) → ∀ p q H', Kt T H H' → Nt H p → Nt H q → LkAt C H' p q ⟨b, t, []⟩ → GoodT b t → Q (.ref p) H' := q1
      have q2 : ∀ i, readRows (Txt.split x "\n") = .error i → ∀ e H', Kt T H H' → H' e = none → E (.ref BT) (some e) (upd H' e (.xd [("value", .int (i : Int))])) := q2
      refine ⟨_, rfl, ⟨_, rfl⟩, x, "\n", rfl, rfl, by decide +kernel, by rw [sizeLine_eq]; omega, fun l nl => ?_⟩
      have k1 : Kp [] H (upd H l (.lst ((Txt.split x "\n").map V.str))) := Kp.new nl
      generalize hH1 : upd H l (.lst ((Txt.split x "\n").map V.str)) = H1 at k1
      have hl : H1 l = some (.lst ((Txt.split x "\n").map V.str)) := by rw [← hH1, upd_same]
      generalize Txt.split x "\n" = rows at hl b1 b2 q1 q2 rne
      have e0 : (rows.map V.str)[0]? = some (.str (rows.headD "")) := by
        cases rows with
        | nil => exact absurd rfl rne
        | cons r rs => rfl
      have m0 : rows.headD "" ∈ rows := by
        cases rows with
        | nil => exact absurd rfl rne
        | cons r rs => exact List.mem_cons_self
      refine ⟨_, rfl, l, _, 0, _, rfl, rfl, sqL hl, e0, _, rfl, Nat.le_trans (b2 _ m0) (by omega), fun H2 k2 => ?_⟩
      have k12 := k1.trans k2
      cases eb : budRow (rows.headD "") with
      | none =>
        exact ⟨_, rfl, rfl, _, rfl, ifYes rfl fun e1 n1 => q2 0 (readRows_no eb) e1 H2 k12.kt n1⟩
      | some b =>
        refine ⟨_, rfl, rfl, _, rfl, ifNo (fun z => nomatch z) ?_⟩
        have hb := budRow_ok eb
        have hl2 := k2.at0 hl
        refine ⟨_, rfl, l, rows, rfl, sqL hl2, by omega, fun y hy => Nat.le_trans (b2 y hy) (by omega), fun ps es lq us H3 k3 hq hp => ?_, fun i es e1 H3 k3 n1 => q2 i (readRows_bad eb es) e1 H3 (k12.trans k3).kt n1⟩
        have sok := sndsF_ok es
        have eR := readRows_ok eb es
        have k13 := k12.trans k3
        have hl3 := k3.at0 hl2
        refine ⟨_, rfl, ?_⟩
        refine fun p dx np nd ndp => link_new np nd ndp hb.1 hb.2 fun q H4 k4 nq L4 => ⟨rfl, ?_⟩
        have lu := hp.len
        have k14 := k13.trans k4
        have np0 : Nt H p := nt0 (k13.free0 np)
        have nq0 : Nt H q := nt0 (k13.free0 nq)
        have nlq : lq ≠ q := fun z => by rw [z, nq] at hq; cases hq
        have nl3 : l ≠ q := fun z => by rw [z, nq] at hl3; cases hl3
        refine ⟨_, rfl, lq, rfl, ⟨_, sqL (k4.at0 hq)⟩, _, _, _, walk_list (xs := us), ?_⟩
        refine ⟨fun i σ H' => ∃ (y5 y6 : Option V) (s' : LkS), σ = [some (.str x), some (.ref l), some (.int b), some (.ref lq), some (.ref p), y5, y6] ∧ Kt T H H' ∧ LkAt C H' p q s' ∧ Good s' ∧ s'.b = b ∧ s'.t = ps.take i ∧ s'.past.length = i ∧ H' l = some (.lst (rows.map V.str)) ∧ H' lq = some (.lst us) ∧ PairsV K H' us ps,
          ⟨_, _, _, rfl, k14.kt, L4, good_new hb.1 hb.2 [] rfl, rfl, rfl, rfl, k4.at0 hl3, k4.at0 hq, hp.kp k4⟩, fun _ _ _ _ ⟨_, _, _, _, _, _, _, _, _, _, _, z, _⟩ => sqL z, ?_, ?_⟩
        · rintro i y σ H5 _ hi ⟨y5, y6, s', rfl, x5, L5, G5, e5b, e5t, e5p, hl5, hq5, hp5⟩ ⟨rfl, hx⟩
          obtain ⟨nm, am⟩ := sok.at_ (i := i) (by omega)
          obtain ⟨u, rfl, hu⟩ := hp5.at_ (i := i) hi hx
          refine ⟨u, _, rfl, hu, rfl, _, _, rfl, _, _, rfl, rfl, ?_⟩
          have hk : (ps.getD i default).1 ∉ keysT s'.t := by
            rw [e5t]
            exact sok.new (by omega)
          have lt5 : s'.t.length = i := by rw [e5t, List.length_take]; omega
          have few : ps.length ≤ 40 := by
            rcases sok.few with e | e
            · rw [e]; exact Nat.zero_le _
            · omega
          have ev : valsT s'.t ++ [(ps.getD i default).2] = (valsT ps).take (i + 1) := by
            rw [e5t]
            exact vals_snoc (by omega)
          have et : s'.t ++ [(ps.getD i default)] = ps.take (i + 1) := by
            rw [e5t, List.take_add_one, List.getElem?_eq_getElem (show i < ps.length by omega), List.getD_eq_getElem?_getD, List.getElem?_eq_getElem (show i < ps.length by omega)]
            rfl
          generalize ps.getD i default = pr at *
          refine ⟨_, rfl, at_z L5 z_enter ⟨_, rfl, _, rfl, tnil_z ⟨p, q, s', pr.1, pr.2, rfl, L5, G5, by omega, x5.tab hT, nm, hk, am.1, am.2, by omega, fun eg H6 k6 L6 => ?_, fun eg uu e H6 k6 ne => ?_⟩⟩⟩
          · have st6 : Stay K (fun z => z = q) _ H6 := L5.stay (K := K) (N := fun z => z = q) rfl k6
            have L6 : LkAt C H6 p q ⟨s'.b, s'.t ++ [pr], s'.past ++ [(s'.b, s'.t)]⟩ := L6
            refine ⟨_, _, _, rfl, new_z x5 np0 nq0 k6, L6, ⟨⟨G5.now.b1, G5.now.b2, ?_, ?_, ?_, ?_⟩, fun z hz => ?_⟩, e5b, et, by rw [List.length_append, e5p]; rfl, st6.l _ _ nl3 hl5, st6.l _ _ nlq hq5, hp5.st st6⟩
            · rw [List.length_append, lt5]
              show i + 1 ≤ 40
              omega
            · rw [et]
              exact sok.nodup (i + 1)
            · rw [et]
              intro n hn
              obtain ⟨z, hz, rfl⟩ := List.mem_map.mp hn
              exact (sok.all z (List.mem_of_mem_take hz)).1
            · show gapOf s'.b (valsT (s'.t ++ [pr])) = none
              rw [← eg]
              unfold valsT
              rw [List.map_append]
              rfl
            · rcases List.mem_append.mp hz with z1 | z1
              · exact G5.old z z1
              · rw [List.mem_singleton.mp z1]
                exact G5.now
          · refine ⟨true, r_Refused, fun _ a na => ?_, fun z => nomatch z⟩
            have k7 : Kt T H (upd H6 e (.xd [("value", uu)])) := (x5.trans k6).kp (Kp.new ne)
            have hl7 : (upd H6 e (.xd [("value", uu)])) l = some (.lst (rows.map V.str)) := (Kp.new ne).at0 (k6.atL hl5)
            refine ⟨_, rfl, l, _, rfl, .inl (sqL hl7), fun e1 n1 => ?_⟩
            rw [List.length_map]
            refine q2 rows.length ?_ e1 _ k7 n1
            rw [eR, if_neg fun z => eg ?_]
            rw [ev, e5b]
            have z := gap_fst (l := (valsT ps).take (i + 1)) (m := (valsT ps).drop (i + 1)) (by rw [List.take_append_drop]; exact z)
            exact z
        rintro σ H5 ⟨y5, y6, s', rfl, x5, L5, G5, e5b, e5t, e5p, hl5, hq5, hp5⟩
        rw [List.take_of_length_le (by omega)] at e5t
        refine ⟨_, rfl, at_z L5 z_clone ⟨p, q, s', rfl, L5, G5, fun p2 q2' H6 k6 np2 nq2 npq L6 => ?_⟩⟩
        have g := G5.now
        rw [e5b, e5t] at g L6
        exact q1 b ps (by rw [eR, if_pos g.safe]) p2 q2' H6 (x5.kp k6) (x5.nt (nt0 np2)) (x5.nt (nt0 nq2)) L6 g
/-! ### texts written and read back -/
open TL
theorem joinL_spl (s : Nat) : ∀ (l acc : List Nat), joinL [s] (spl [s] 0 acc l) = acc ++ l
  | [], acc => by rw [spl_nil, List.append_nil]; rfl
  | c :: r, acc => by
    cases h : pre [s] (c :: r) with
    | true =>
      rw [spl_hit h]
      have e : c = s := by
        have : [c] = [s] := eq_of_beq h
        exact (List.cons.inj this).1
      have ih := joinL_spl s r []
      rw [show [s].length - 1 = 0 from rfl]
      cases e2 : spl [s] 0 [] r with
      | nil => exact absurd e2 (spl_ne _ _ _ _)
      | cons q t =>
        rw [e2] at ih
        show acc ++ ([s] ++ joinL [s] (q :: t)) = acc ++ c :: r
        rw [ih, e]
        rfl
    | false =>
      rw [spl_miss h, joinL_spl s r (acc ++ [c]), List.append_assoc]
      rfl
theorem join_back {y : Str} {s : Nat} (ey : y.cps.toList = [s]) (hk : y.cps.all (· < 256) = true) (x : Str) : Txt.join y (Txt.split x y) = x := by
  refine ext_tl ?_
  rw [join_eq, tl_join, split_tl y (by rw [ey]; exact fun z => nomatch z) hk x]
  show joinL y.cps.toList (spl y.cps.toList 0 [] (TL.tl x)) = TL.tl x
  rw [ey, joinL_spl, List.nil_append]
theorem line_back (x : Str) : Txt.join "\n" (Txt.split x "\n") = x := join_back (y := lineS) line_tl (by decide +kernel) x
/-! ### a link's text is what was read -/
theorem join_two (a b : Str) : Txt.join " " [a, b] = a ++ " " ++ b := by
  rw [join_eq]
  rfl
/-! ### the law's hand of digits: a list of three ints -/
def Hand (H : Hp) (a : Addr) (n : Nat) : Prop := ∃ g s c : Int, IL H a [g, s, c] ∧ 0 ≤ g ∧ 0 ≤ s ∧ s < 2147483647 ∧ 0 ≤ c ∧ c ≤ (n : Int)
theorem Hand.mono {H : Hp} {a : Addr} {m n : Nat} (h : Hand H a m) (hn : m ≤ n) : Hand H a n := by
  obtain ⟨g, s, c, h, a1, a2, a3, a4, a5⟩ := h
  exact ⟨g, s, c, h, a1, a2, a3, a4, by omega⟩
theorem Hand.at {H H' : Hp} {a : Addr} {n : Nat} (h : Hand H a n) (e : ∀ o, H a = some o → H' a = some o) : Hand H' a n := by
  obtain ⟨g, s, c, h, r⟩ := h
  exact ⟨g, s, c, e _ h, r⟩
theorem Hand.kp0 {H H' : Hp} {a : Addr} {n : Nat} (h : Hand H a n) (k : Kp [] H H') : Hand H' a n := h.at fun _ e => k.at0 e
theorem Hand.md {H H' : Hp} {a p : Addr} {n : Nat} (h : Hand H a n) (m : Md p H H') (ne : a ≠ p) : Hand H' a n := h.at fun _ e => (m a ne).trans e
theorem Hand.ne {H : Hp} {a p : Addr} {n : Nat} (h : Hand H a n) (z : H p = none) : a ≠ p := by
  obtain ⟨g, s, c, h, r⟩ := h
  exact ne_of_none h z
theorem Hand.tup {K : PySem.W.Frag} {H H' : Hp} {a p : Addr} {n : Nat} {xs : List V} (h : Hand H a n) (k : Kp [a] H H') (t : SqT K H p xs) : SqT K H' p xs := by
  obtain ⟨g, s, c, h, r⟩ := h
  exact k.tup1 h t
def sp_l_take (K : PySem.W.Frag) : Sp := fun vs H Q _ => ∃ (a : Addr) (n : Nat) (m : Int), vs = [.ref a, .int m] ∧ Hand H a n ∧ n ≤ 2 ^ 48 ∧ 1 ≤ m ∧ m < 2 ^ 62 ∧
  ∀ d H', Kp [a] H H' → Hand H' a (n + 1) → 0 ≤ d → d < m → Q (.int d) H'
theorem log_ok {j : Int} (h : 1 ≤ j) (h2 : j < 2 ^ 62) : CDivW 0 j :=
  wide_div (i := 0) (b := 62) (by omega) (by omega) (by decide) (by decide)
theorem ok__law_take {f : Addr} {fd : FuncData} {k : Nat} (F : Fun K "_law_take" "_law_take" s__law_take f fd) :
    FnG P w K mg base CX0 (k + 1) f fd ["_law_hand_here", "_law_many"] (sp_l_take K) := by
  refine ok0 F sc__law_take (fun vs H Q E h => ?_) (fun cdv A outer s H vs Q E gd hr h => ?_)
  · obtain ⟨a, n, m, rfl, _⟩ := h
    rfl
  · obtain ⟨a, n, m, rfl, ⟨g, s, c, h0, hg, hs, hs2, hc, hc2⟩, hn, hm, hm2, q⟩ := h
    refine ⟨_, (pss_cons (ps_if (pt_cmpR op_gt (pe_ix (ix_lvK (K := K) rfl) (pv 0) pe_int (fun _ _ => rfl)) pe_int (nomark _))
      (pss_cons (ps_set (i := 2) sc__law_take.nd rfl (.inl rfl) (pe_op op_mod (pe_ix (ix_lvK (K := K) rfl) (pv 0) pe_int (fun _ _ => rfl)) (pv 1)))
      (pss_cons (ps_asg (pe_op op_fdivW (pe_ix (ix_lvK (K := K) rfl) (pv 0) pe_int (fun _ _ => rfl)) (pv 1)) (pg_sub (pv 0) pe_int set_li))
      (pss_one (ps_ret (pv 2)))))
      pss_nil)
      (pss_cons (ps_asg (pe_op op_add (pe_ix (ix_lvK (K := K) rfl) (pv 0) pe_int (fun _ _ => rfl)) pe_int) (pg_sub (pv 0) pe_int set_li))
      (pss_cons (ps_set (i := 3) sc__law_take.nd rfl (.inl rfl) (pe_ix (ix_lvK (K := K) rfl) (pe_li (pa_cons pe_int (pa_cons pe_int (pa_cons pe_int (pa_cons pe_int (pa_cons pe_int pa_nil)))))) (pe_op op_mod (pe_ix (ix_lvK (K := K) rfl) (pv 0) pe_int (fun _ _ => rfl)) pe_int) (fun _ _ => rfl)))
      (pss_cons (ps_set (i := 4) sc__law_take.nd rfl (.inl rfl) (pe_op op_mod (pe_op op_pow (pe_op op_add (pe_ix (ix_lvK (K := K) rfl) (pv 0) pe_int (fun _ _ => rfl)) (pe_op op_mul pe_int (pe_ix (ix_lvK (K := K) rfl) (pv 0) pe_int (fun _ _ => rfl)))) pe_int) (pv 3)))
      (pss_one (ps_ret (pe_op op_mod (pe_op op_fdivW (pe_op op_mod (pe_op op_mul (pv 4) (pe_op op_add (pe_op op_mod (pv 4) pe_int) (pe_ix (ix_lvK (K := K) rfl) (pv 0) pe_int (fun _ _ => rfl)))) (pv 3)) pe_int) (pv 1)))))))), ?_⟩
    have g0 : ∀ x y z : Int, Get [x, y, z] 0 x := fun _ _ _ => ⟨by decide, rfl⟩
    have g1 : ∀ x y z : Int, Get [x, y, z] 1 y := fun _ _ _ => ⟨by decide, rfl⟩
    have g2 : ∀ x y z : Int, Get [x, y, z] 2 z := fun _ _ _ => ⟨by decide, rfl⟩
    refine ⟨_, rfl, a, _, _, _, rfl, rfl, sqL h0, g0 g s c, _, _, rfl, rfl, _, rfl, ite2 (fun e => ?_) (fun e => ?_)⟩
    · have e' : 0 < g := of_decide_eq_true e
      have hm0 : 0 < m := by omega
      refine ⟨_, rfl, a, _, _, _, rfl, rfl, sqL h0, g0 g s c, _, rfl, _, _, rfl, rfl, hm0, ?_⟩
      refine ⟨_, rfl, a, _, _, _, rfl, rfl, sqL h0, g0 g s c, _, rfl, _, _, rfl, rfl, log_ok hm hm2, ?_⟩
      refine ⟨_, rfl, a, [g, s, c], _, _, rfl, rfl, rfl, h0, (show (0 : Int) ≤ 0 ∧ (0 : Int) < 3 by decide), fun H1 m1 h1 => ?_⟩
      refine ⟨_, rfl, q (g % m) H1 m1.kp ⟨g / m, s, c, h1, Int.ediv_nonneg hg (by omega), hs, hs2, hc, by omega⟩ (Int.emod_nonneg _ (by omega)) (Int.emod_lt_of_pos _ (by omega))⟩
    · refine ⟨_, rfl, a, _, _, _, rfl, rfl, sqL h0, g2 g s c, _, _, rfl, rfl, ?_⟩
      refine ⟨_, rfl, a, [g, s, c], _, _, rfl, rfl, rfl, h0, (show (0 : Int) ≤ 2 ∧ (2 : Int) < 3 by decide), fun H1 m1 h1 => ?_⟩
      have h1 : IL H1 a [g, s, c + 1] := h1
      refine ⟨[_, _, _, _, _], rfl, by decide, fun p H2 np k2 h2 => ?_⟩
      have h1 : IL H2 a [g, s, c + 1] := k2.at0 h1
      refine ⟨_, rfl, a, _, _, _, rfl, rfl, sqL h1, g2 _ _ _, _, _, rfl, rfl, by show (0 : Int) < 5; decide, ?_⟩
      obtain ⟨pr, gp, hp, hp2⟩ : ∃ pr, Get [2147483647, 2147483629, 2147483587, 2147483579, 2147483563] ((c + 1) % 5) pr ∧ 0 < pr ∧ pr ≤ 2147483647 := by
        have : (c + 1) % 5 = 0 ∨ (c + 1) % 5 = 1 ∨ (c + 1) % 5 = 2 ∨ (c + 1) % 5 = 3 ∨ (c + 1) % 5 = 4 := by omega
        rcases this with z | z | z | z | z <;> rw [z] <;> exact ⟨_, ⟨by decide, rfl⟩, by decide, by decide⟩
      refine ⟨p, _, _, pr, rfl, rfl, sqL h2, gp, ?_⟩
      refine ⟨_, rfl, a, _, _, _, rfl, rfl, sqL h1, g1 _ _ _, _, rfl, a, _, _, _, rfl, rfl, sqL h1, g2 _ _ _, _, _, rfl, rfl, .inl ⟨by decide, by decide⟩, _, _, rfl, rfl, _, _, rfl, rfl, ⟨by decide, by decide, ?_⟩, _, rfl, _, _, rfl, rfl, hp, ?_⟩
      · show (s + 7919 * (c + 1)).natAbs < 2 ^ 64
        omega
      generalize hdr : (s + 7919 * (c + 1)) ^ (3 : Int).toNat % pr = dr
      have hd : 0 ≤ dr ∧ dr < pr := by
        subst hdr
        exact ⟨Int.emod_nonneg _ (by omega), Int.emod_lt_of_pos _ hp⟩
      have hm0 : 0 < m := by omega
      refine ⟨_, rfl, _, rfl, _, _, rfl, rfl, by show (0 : Int) < 1009; decide, _, rfl, a, _, _, _, rfl, rfl, sqL h1, g2 _ _ _, _, _, rfl, rfl, _, _, rfl, rfl, .inl ⟨by omega, by omega⟩, _, rfl, _, _, rfl, rfl, hp, _, _, rfl, rfl, log_ok (j := 11) (by decide) (by decide), _, rfl, _, _, rfl, rfl, hm0, ?_⟩
      exact q _ H2 (m1.kp.trans k2.wide) ⟨g, s, c + 1, h1, hg, hs, hs2, by omega, by omega⟩ (Int.emod_nonneg _ (by omega)) (Int.emod_lt_of_pos _ (by omega))
/-- what changes at an own object alone has changed nothing that stood before -/
theorem Kp.own {H H1 H2 : Hp} {a : Addr} (k : Kp [] H H1) (z : H a = none) (k2 : Kp [a] H1 H2) : Kp [] H H2 :=
  fun b o _ e => k2.at1 (ne_of_none e z) (k.at0 e)
/-! ### a choice out of a list or a tuple -/
abbrev Cal (P : Program) (w : World) (K : PySem.W.Frag) (mg : Str → Option Value) (base : Heap) (k : Nat) (x : Str) (n : Nat) (sp : PySem.W.Frag → Sp) : Prop :=
  Cl P w K mg base CX0 k x n (sp K)
def Seq (K : PySem.W.Frag) (H : Hp) (p : Addr) (xs : List V) : Prop := SqL K H p xs ∨ SqT K H p xs
theorem Kp.sq {K : PySem.W.Frag} {H H' : Hp} {a p : Addr} {n : Nat} {xs : List V} (k : Kp [a] H H') (hd : Hand H a n) (ne : p ≠ a) (h : Seq K H p xs) : Seq K H' p xs := by
  rcases h with h | h
  · exact .inl (k.lst1 ne h)
  · exact .inr (hd.tup k h)
def sp_l_of (K : PySem.W.Frag) : Sp := fun vs H Q _ => ∃ (a p : Addr) (n : Nat) (xs : List V), vs = [.ref a, .ref p] ∧ Hand H a n ∧ n ≤ 2 ^ 48 ∧ p ≠ a ∧ Seq K H p xs ∧ 0 < xs.length ∧ xs.length ≤ 1000 ∧
  ∀ v H', Kp [a] H H' → Hand H' a (n + 1) → v ∈ xs → Q v H'
theorem ok__law_of {f : Addr} {fd : FuncData} {k : Nat} (F : Fun K "_law_of" "_law_of" s__law_of f fd) (m_len : mg "len" = none) (C_l_take : Cal P w K mg base 1 "_law_take" 2 sp_l_take) :
    FnG P w K mg base CX0 (k + 2) f fd ["_law_hand_here", "_law_some"] (sp_l_of K) := by
  refine ok0 F sc__law_of (fun vs H Q E h => ?_) (fun cdv A outer s H vs Q E gd hr h => ?_)
  · obtain ⟨a, p, n, xs, rfl, _⟩ := h
    rfl
  · obtain ⟨a, p, n, xs, rfl, hd, hn, ne, hq, h0, h1, q⟩ := h
    have hr1 := hr.mono (show 1 ≤ k + 1 by omega)
    refine ⟨_, (pss_one (ps_ret (pe_ix ix_seq (pv 1) (pe_cl C_l_take (hr.mono (by omega)) gd pass0 (by rfl) (pa_cons (pv 0) (pa_cons (pe_callB (call_len_seqK (K := K) rfl) (by rfl) m_len (by decide +kernel) (pa_cons (pv 1) pa_nil)) pa_nil))) (fun _ _ => rfl)))), ?_⟩
    refine ⟨_, rfl, _, rfl, _, rfl, _, _, rfl, hq, a, n, _, rfl, hd, hn, by omega, by omega, fun d H1 k1 hd1 d0 d1 => ?_⟩
    have hq1 := k1.sq hd ne hq
    have e : ((d.toNat : Nat) : Int) = d := by omega
    have hg : xs[d.toNat]? = some (xs[d.toNat]'(by omega)) := List.getElem?_eq_getElem _
    have ha := atI_nat hg
    rw [e] at ha
    have hm := List.getElem_mem (l := xs) (n := d.toNat) (by omega)
    rcases hq1 with hq1 | hq1
    · exact .inl ⟨p, xs, d, _, rfl, rfl, hq1, ha, q _ H1 k1 hd1 hm⟩
    · exact .inr (.inl ⟨p, xs, d, _, rfl, rfl, hq1, ha, q _ H1 k1 hd1 hm⟩)
/-! ### a hand made of a cell of the script -/
def sp_l_hand (K : PySem.W.Frag) : Sp := fun vs H Q _ => ∃ (a : Addr) (ns : List Int) (k : Int), vs = [.ref a, .int k] ∧ SqL K H a (ns.map V.int) ∧ 0 ≤ k ∧ k ≤ 1000 ∧
  ∀ p H', H p = none → Kp [] H H' → Hand H' p 0 → Q (.ref p) H'
theorem big_pos : (0 : Int) < 10 ^ 60 * 10 ^ 60 * 10 ^ 60 := by decide +kernel
theorem big_lt : (10 : Int) ^ 60 * 10 ^ 60 * 10 ^ 60 < 2 ^ 700 := by decide +kernel
theorem ok__law_hand {f : Addr} {fd : FuncData} {k : Nat} (F : Fun K "_law_hand" "_law_hand" s__law_hand f fd) (m_len : mg "len" = none) (m_abs : mg "abs" = none) (m_int : mg "int" = none) :
    FnG P w K mg base CX0 (k + 1) f fd ["_law_script", "_law_k"] (sp_l_hand K) := by
  refine ok0 F sc__law_hand (fun vs H Q E h => ?_) (fun cdv A outer s H vs Q E gd hr h => ?_)
  · obtain ⟨a, ns, k, rfl, _⟩ := h
    rfl
  · obtain ⟨a, ns, k, rfl, hq, h0, h1, q⟩ := h
    refine ⟨_, (pss_cons (ps_set (i := 2) sc__law_hand.nd rfl (.inl rfl) (pe_ifI (pt_cmpR op_lt (pv 1) (pe_callB (call_len_seqK (K := K) rfl) (by rfl) m_len (by decide +kernel) (pa_cons (pv 0) pa_nil)) (nomark _)) (pe_ix (ix_liK (K := K) rfl) (pv 0) (pv 1) (fun _ _ => rfl)) pe_int))
      (pss_cons (ps_set (i := 3) sc__law_hand.nd rfl (.inl rfl) (pe_op op_mulW (pe_op op_mod (pe_callB call_abs (by rfl) m_abs (by decide +kernel) (pa_cons (pv 2) pa_nil)) (pe_op op_mulW (pe_op op_mulW (pe_op op_pow pe_int pe_int) (pe_op op_pow pe_int pe_int)) (pe_op op_pow pe_int pe_int))) (pe_callTy call_int1 (by rfl) m_int (by decide +kernel) (pa_cons (pe_cmpR op_ge (pe_callB call_abs (by rfl) m_abs (by decide +kernel) (pa_cons (pv 2) pa_nil)) (pe_op op_pow pe_int pe_int) (nomark _)) pa_nil))))
      (pss_one (ps_ret (pe_li (pa_cons (pv 3) (pa_cons (pe_op op_mod (pe_op op_mul (pe_op op_add (pe_op op_add (pe_op op_mod (pv 2) pe_int) (pe_op op_mul pe_int (pv 1))) pe_int) pe_int) pe_int) (pa_cons pe_int pa_nil)))))))), ?_⟩
    refine ⟨fun _ => True, ⟨_, rfl, _, rfl, a, _, rfl, .inl hq, _, _, rfl, rfl, _, rfl, ite2 (fun e => ?_) (fun e => ?_)⟩, fun cell _ => ?_⟩
    · have e' := of_decide_eq_true e
      rw [List.length_map] at e'
      exact ⟨_, rfl, _, rfl, a, ns, _, rfl, rfl, hq, ⟨h0, e'⟩, _, rfl, rfl, trivial⟩
    · exact ⟨_, rfl, rfl, trivial⟩
    have hB : (0 : Int) < 10 ^ (60 : Int).toNat * 10 ^ (60 : Int).toNat * 10 ^ (60 : Int).toNat := big_pos
    have hB2 : (10 : Int) ^ (60 : Int).toNat * 10 ^ (60 : Int).toNat * 10 ^ (60 : Int).toNat < 2 ^ 700 := big_lt
    have p10 : CPow 10 60 := ⟨by decide, by decide, by decide⟩
    have p18 : CPow 10 18 := ⟨by decide, by decide, by decide⟩
    have w1 : CMulW ((10 : Int) ^ (60 : Int).toNat) ((10 : Int) ^ (60 : Int).toNat) := by unfold CMulW; decide +kernel
    have w2 : CMulW ((10 : Int) ^ (60 : Int).toNat * (10 : Int) ^ (60 : Int).toNat) ((10 : Int) ^ (60 : Int).toNat) := by unfold CMulW; decide +kernel
    refine ⟨_, rfl, _, rfl, _, _, rfl, rfl, p10, _, _, rfl, rfl, p10, _, _, rfl, rfl, w1, _, _, rfl, rfl, p10, _, _, rfl, rfl, w2, _, _, rfl, rfl, hB, ?_⟩
    have hm := Int.emod_nonneg (if cell < 0 then -cell else cell) (Int.ne_of_gt hB)
    have hm2 := Int.emod_lt_of_pos (if cell < 0 then -cell else cell) hB
    refine ⟨_, rfl, _, rfl, _, _, rfl, rfl, p18, _, _, rfl, rfl, .inr ⟨_, rfl, _, _, rfl, rfl, wide_mul (a := 700) (b := 2) ?_ ?_ (by decide) (by decide) (by decide), ?_⟩⟩
    · have h3 := Int.lt_trans hm2 hB2
      have h2 : ((2 ^ 700 : Nat) : Int) = 2 ^ 700 := by decide +kernel
      omega
    · have z : ∀ b : Bool, (if b = true then (1 : Int) else 0).natAbs < 2 ^ 2 := by
        intro b
        cases b <;> decide
      exact z _
    have hk : ∀ b : Bool, 0 ≤ (if b = true then (1 : Int) else 0) := by
      intro b
      cases b <;> decide
    refine ⟨_, rfl, _, rfl, _, _, rfl, rfl, by show (0 : Int) < 2147483629; decide, _, rfl, _, _, rfl, rfl, .inl ⟨by decide, by decide⟩, _, _, rfl, rfl, _, _, rfl, rfl, _, _, rfl, rfl, .inr ⟨by decide, by decide⟩, _, _, rfl, rfl, by show (0 : Int) < 2147483647; decide, ?_⟩
    refine ⟨[_, _, _], rfl, (by decide : 3 ≤ sizeLine), fun p H1 np k1 h1 => ?_⟩
    exact q p H1 np k1 ⟨_, _, _, h1, Int.mul_nonneg hm (hk _), Int.emod_nonneg _ (by decide), Int.emod_lt_of_pos _ (by decide), by decide, by decide⟩
/-! ### the law's own model of a link -/
def mdK (d : Addr) (b : Int) (l : Addr) : List (L2.Key × V) := [(Sum.inr ("table" : Str), .ref d), (Sum.inr ("budget" : Str), .int b), (Sum.inr ("past" : Str), .ref l)]
/-- what the model keeps of a change: the table ahead of the budget -/
inductive PastM (H : Hp) : List V → List (Int × Tab) → Prop
  | nil : PastM H [] []
  | cons {u d : Addr} {b : Int} {t : Tab} {vs : List V} {ps : List (Int × Tab)} : H u = some (.tup [.ref d, .int b]) → H d = some (.dK (tk t)) → PastM H vs ps → PastM H (.ref u :: vs) ((b, t) :: ps)
theorem PastM.keep {H H' : Hp} (kt : ∀ p xs, H p = some (.tup xs) → H' p = some (.tup xs)) (kd : ∀ p t, H p = some (.dK (tk t)) → H' p = some (.dK (tk t))) : ∀ {vs : List V} {ps : List (Int × Tab)}, PastM H vs ps → PastM H' vs ps
  | _, _, .nil => .nil
  | _, _, .cons a b c => .cons (kt _ _ a) (kd _ _ b) (c.keep kt kd)
theorem PastM.len {H : Hp} : ∀ {vs : List V} {ps : List (Int × Tab)}, PastM H vs ps → vs.length = ps.length
  | _, _, .nil => rfl
  | _, _, .cons _ _ c => by rw [List.length_cons, List.length_cons, c.len]
theorem PastM.snoc {H : Hp} {u d : Addr} {b : Int} {t : Tab} (hu : H u = some (.tup [.ref d, .int b])) (hd : H d = some (.dK (tk t))) : ∀ {vs : List V} {ps : List (Int × Tab)}, PastM H vs ps → PastM H (vs ++ [.ref u]) (ps ++ [(b, t)])
  | _, _, .nil => .cons hu hd .nil
  | _, _, .cons x y c => .cons x y (c.snoc hu hd)
theorem PastM.last {H : Hp} : ∀ {vs : List V} {ps : List (Int × Tab)} {p : Int × Tab}, PastM H vs ps → ps.getLast? = some p → ∃ (u d : Addr), vs[vs.length - 1]? = some (.ref u) ∧ H u = some (.tup [.ref d, .int p.1]) ∧ H d = some (.dK (tk p.2)) ∧ PastM H vs.dropLast ps.dropLast
  | _, _, _, .nil, e => by cases e
  | _, _, p, .cons (vs := []) (ps := []) a b .nil, e => by
    cases e
    exact ⟨_, _, rfl, a, b, .nil⟩
  | _, _, p, .cons (vs := v :: vs) (ps := q :: ps) a b c, e => by
    have e2 : (q :: ps).getLast? = some p := by rw [← e]; simp [List.getLast?_cons_cons]
    obtain ⟨u, d, h1, h2, h3, h4⟩ := c.last e2
    exact ⟨u, d, h1, h2, h3, .cons a b h4⟩
/-- the model stands at m, its list of changes at l -/
structure MdAt (H : Hp) (m l : Addr) (s : LkS) : Prop where
  ob : ∃ d, H m = some (.dK (mdK d s.b l)) ∧ H d = some (.dK (tk s.t))
  pa : ∃ vs, H l = some (.lst vs) ∧ PastM H vs s.past
theorem MdAt.keep {H H' : Hp} {m l : Addr} {s : LkS} (h : MdAt H m l s) (hm : ∀ o, H m = some o → (∀ ps, o ≠ .tbl ps) → H' m = some o) (hl : ∀ o, H l = some o → (∀ ps, o ≠ .tbl ps) → H' l = some o)
    (kt : ∀ p xs, H p = some (.tup xs) → H' p = some (.tup xs)) (kd : ∀ p t, H p = some (.dK (tk t)) → H' p = some (.dK (tk t))) : MdAt H' m l s := by
  obtain ⟨⟨d, h1, h2⟩, vs, h3, h4⟩ := h
  exact ⟨⟨d, hm _ h1 (fun _ z => nomatch z), kd _ _ h2⟩, vs, hl _ h3 (fun _ z => nomatch z), h4.keep kt kd⟩
theorem MdAt.kt {T : List (Addr × Str)} {H H' : Hp} {m l : Addr} {s : LkS} (h : MdAt H m l s) (k : Kt T H H') : MdAt H' m l s :=
  h.keep (fun o e n => k.ext _ _ e n) (fun o e n => k.ext _ _ e n) (fun p xs e => k.atT e) (fun p t e => k.ext _ _ e fun _ z => nomatch z)
theorem MdAt.kp {H H' : Hp} {m l : Addr} {s : LkS} (h : MdAt H m l s) (k : Kp [] H H') : MdAt H' m l s := h.kt (T := []) k.kt
theorem MdAt.ks {T : List (Addr × Str)} {S : Addr → Prop} {H H' : Hp} {m l : Addr} {s : LkS} (h : MdAt H m l s) (k : Ks T S H H') (nm : ¬ S m) (nl : ¬ S l) (n : NoTab S H) : MdAt H' m l s :=
  h.keep (fun o e z => k.keep _ _ nm e z) (fun o e z => k.keep _ _ nl e z) (fun p xs e => k.atT (fun w => (n p w).1 xs e) e) (fun p t e => k.atD (fun w => (n p w).2 t e) e)
theorem MdAt.ne {H : Hp} {m l : Addr} {s : LkS} (h : MdAt H m l s) : m ≠ l := by
  obtain ⟨⟨d, h1, h2⟩, vs, h3, h4⟩ := h
  intro z
  rw [z, h3] at h1
  cases h1
def outS (s : LkS) : Out → LkS
  | .ok _ s' => s'
  | .bad _ _ => s
/-! ### any call, pure -/
def callF (w : Str) (s : LkS) (ds : List PyData) : Out :=
  if w = "enter" then op2 enterF s ds else if w = "leave" then op1 leaveF s ds else if w = "deposit" then op2 depositF s ds else if w = "withdraw" then op2 withdrawF s ds else if w = "transfer" then op3 transferF s ds
  else if w = "budget" then op1 budgetF s ds else if w = "tick" then op1 tickF s ds else undoF s
inductive ArC : Str → Nat → Prop
  | enter : ArC "enter" 2 | leave : ArC "leave" 1 | deposit : ArC "deposit" 2 | withdraw : ArC "withdraw" 2 | transfer : ArC "transfer" 3 | budget : ArC "budget" 1 | tick : ArC "tick" 1 | undo (n : Nat) : ArC "undo" n
theorem ns {a b : Str} (h : ¬ a = b) : ¬ V.str a = V.str b := fun z => h (V.str.inj z)
theorem w_tick_enter : ¬ (("tick" : Str) = "enter") := by decide +kernel
theorem w_tick_budget : ¬ (("tick" : Str) = "budget") := by decide +kernel
theorem w_tick_transfer : ¬ (("tick" : Str) = "transfer") := by decide +kernel
theorem w_tick_leave : ¬ (("tick" : Str) = "leave") := by decide +kernel
theorem w_tick_deposit : ¬ (("tick" : Str) = "deposit") := by decide +kernel
theorem w_tick_withdraw : ¬ (("tick" : Str) = "withdraw") := by decide +kernel
theorem w_undo_enter : ¬ (("undo" : Str) = "enter") := by decide +kernel
theorem w_undo_tick : ¬ (("undo" : Str) = "tick") := by decide +kernel
theorem w_undo_budget : ¬ (("undo" : Str) = "budget") := by decide +kernel
theorem w_undo_transfer : ¬ (("undo" : Str) = "transfer") := by decide +kernel
theorem w_undo_leave : ¬ (("undo" : Str) = "leave") := by decide +kernel
theorem w_undo_deposit : ¬ (("undo" : Str) = "deposit") := by decide +kernel
theorem w_undo_withdraw : ¬ (("undo" : Str) = "withdraw") := by decide +kernel
theorem w_budget_enter : ¬ (("budget" : Str) = "enter") := by decide +kernel
theorem w_budget_transfer : ¬ (("budget" : Str) = "transfer") := by decide +kernel
theorem w_budget_leave : ¬ (("budget" : Str) = "leave") := by decide +kernel
theorem w_budget_deposit : ¬ (("budget" : Str) = "deposit") := by decide +kernel
theorem w_budget_withdraw : ¬ (("budget" : Str) = "withdraw") := by decide +kernel
theorem w_transfer_enter : ¬ (("transfer" : Str) = "enter") := by decide +kernel
theorem w_transfer_leave : ¬ (("transfer" : Str) = "leave") := by decide +kernel
theorem w_transfer_deposit : ¬ (("transfer" : Str) = "deposit") := by decide +kernel
theorem w_transfer_withdraw : ¬ (("transfer" : Str) = "withdraw") := by decide +kernel
theorem w_leave_enter : ¬ (("leave" : Str) = "enter") := by decide +kernel
theorem w_deposit_enter : ¬ (("deposit" : Str) = "enter") := by decide +kernel
theorem w_deposit_leave : ¬ (("deposit" : Str) = "leave") := by decide +kernel
theorem w_withdraw_enter : ¬ (("withdraw" : Str) = "enter") := by decide +kernel
theorem w_withdraw_leave : ¬ (("withdraw" : Str) = "leave") := by decide +kernel
theorem w_withdraw_deposit : ¬ (("withdraw" : Str) = "deposit") := by decide +kernel
theorem call_enter (s : LkS) (ds : List PyData) : callF "enter" s ds = op2 enterF s ds := by
  unfold callF
  rw [if_pos rfl]
theorem call_leave (s : LkS) (ds : List PyData) : callF "leave" s ds = op1 leaveF s ds := by
  unfold callF
  rw [if_neg w_leave_enter, if_pos rfl]
theorem call_deposit (s : LkS) (ds : List PyData) : callF "deposit" s ds = op2 depositF s ds := by
  unfold callF
  rw [if_neg w_deposit_enter, if_neg w_deposit_leave, if_pos rfl]
theorem call_withdraw (s : LkS) (ds : List PyData) : callF "withdraw" s ds = op2 withdrawF s ds := by
  unfold callF
  rw [if_neg w_withdraw_enter, if_neg w_withdraw_leave, if_neg w_withdraw_deposit, if_pos rfl]
theorem call_transfer (s : LkS) (ds : List PyData) : callF "transfer" s ds = op3 transferF s ds := by
  unfold callF
  rw [if_neg w_transfer_enter, if_neg w_transfer_leave, if_neg w_transfer_deposit, if_neg w_transfer_withdraw, if_pos rfl]
theorem call_budget (s : LkS) (ds : List PyData) : callF "budget" s ds = op1 budgetF s ds := by
  unfold callF
  rw [if_neg w_budget_enter, if_neg w_budget_leave, if_neg w_budget_deposit, if_neg w_budget_withdraw, if_neg w_budget_transfer, if_pos rfl]
theorem call_tick (s : LkS) (ds : List PyData) : callF "tick" s ds = op1 tickF s ds := by
  unfold callF
  rw [if_neg w_tick_enter, if_neg w_tick_leave, if_neg w_tick_deposit, if_neg w_tick_withdraw, if_neg w_tick_transfer, if_neg w_tick_budget, if_pos rfl]
theorem call_undo (s : LkS) (ds : List PyData) : callF "undo" s ds = undoF s := by
  unfold callF
  rw [if_neg w_undo_enter, if_neg w_undo_leave, if_neg w_undo_deposit, if_neg w_undo_withdraw, if_neg w_undo_transfer, if_neg w_undo_budget, if_neg w_undo_tick]
/-! ### the classes of errors -/
def Ex.num : Ex → Nat
  | .name => 0 | .taken => 1 | .unknown => 2 | .amount => 3 | .budget => 4 | .spends => 5 | .over => 6 | .refused => 7 | .full => 8 | .undo => 9
/-- what the text says of one class that a link raises -/
structure XOne (K : PySem.W.Frag) (X : LkX) (CE : Addr) (x : Ex) : Prop where
  e : ExcC K (X.at_ x)
  te : PySem.W.exmOne K (.ref (X.at_ x)) (.ref CE) = some true
  no : x.num < 8 → PySem.W.findIn K (.ref (X.at_ x)) "value" = some none
  kit : ∀ y : Ex, PySem.W.kitOne K (.ref (X.at_ x)) (.ref (X.at_ y)) = some (x.num == y.num)
  kv : PySem.W.kitOne K (.ref (X.at_ x)) (.type "ValueError") = some true
structure XAll (K : PySem.W.Frag) (mg : Str → Option Value) (X : LkX) (CE : Addr) : Prop where
  gE : mg "CreditError" = some (.ref CE)
  gNa : mg "BadName" = some (.ref X.name)
  gTa : mg "TakenName" = some (.ref X.taken)
  gUn : mg "UnknownName" = some (.ref X.unknown)
  gAm : mg "BadAmount" = some (.ref X.amount)
  gBu : mg "BadBudget" = some (.ref X.budget)
  gSp : mg "BadSpends" = some (.ref X.spends)
  gOv : mg "OverBudget" = some (.ref X.over)
  gRe : mg "Refused" = some (.ref X.refused)
  gFu : mg "FullLink" = some (.ref X.full)
  gUd : mg "NothingToUndo" = some (.ref X.undo)
  one : ∀ x : Ex, XOne K X CE x
theorem outP_bad {K : PySem.W.Frag} {C : Addr} {T : List (Addr × Str)} {X : LkX} {N : Addr → Prop} {H : Hp} {p q : Addr} {x : Ex} {v : PyData} {Q : VK} {E : XK} (h0 : 8 ≤ x.num → ∀ H', Kt T H H' → E (.ref (X.at_ x)) none H')
    (h1 : x.num < 8 → ∀ u d H', Kt T H H' → Db K N H' u v → H' d = none → E (.ref (X.at_ x)) (some d) (upd H' d (.xd [("value", u)]))) : OutP K C T X N H p q (.bad x v) Q E := by
  cases x
  case full => exact h0 (by decide)
  case undo => exact h0 (by decide)
  all_goals exact h1 (by decide)
/-! ### what the calls of a link keep -/
def TbM (M : Int) (t : Tab) : Prop := ∀ p ∈ t, p.2 ≤ M
theorem TbM.mono {M M' : Int} {t : Tab} (h : TbM M t) (hm : M ≤ M') : TbM M' t := fun p hp => Int.le_trans (h p hp) hm
theorem TbM.val {M : Int} {t : Tab} (h : TbM M t) (h0 : 0 ≤ M) (n : Str) : tval t n ≤ M := by
  unfold tval
  cases e : tget t n with
  | none => exact h0
  | some b => exact h _ (tget_mem e)
theorem TbM.put {M v : Int} {t : Tab} (h : TbM M t) (hv : v ≤ M) (n : Str) : TbM M (tput t n v) := by
  by_cases hk : n ∈ keysT t
  · rw [tput_old v hk]
    intro p hp
    obtain ⟨q, hq, rfl⟩ := List.mem_map.mp hp
    split
    · exact hv
    · exact h q hq
  · rw [tput_new v hk]
    intro p hp
    rcases List.mem_append.mp hp with z | z
    · exact h p z
    · rw [List.mem_singleton.mp z]
      exact hv
theorem TbM.drop {M : Int} {t : Tab} (h : TbM M t) (n : Str) : TbM M (tdrop t n) := fun p hp => h p ((List.mem_filter.mp hp).1)
theorem TbM.after {M : Int} : ∀ {l : List (Str × Int)} {t : Tab}, TbM M t → 0 ≤ M → (∀ p ∈ l, 0 ≤ p.2) → TbM M (afterS t l)
  | [], _, h, _, _ => h
  | p :: r, t, h, h0, hn => by
    have hp := hn p List.mem_cons_self
    have hv := h.val h0 p.1
    exact TbM.after (l := r) (t := tput t p.1 (tval t p.1 - p.2)) (h.put (by omega) p.1) h0 fun q hq => hn q (List.mem_cons_of_mem _ hq)
theorem spendD_ok {d : PyData} {p : Str × Int} (h : spendD d = some p) : d = .tuple [.str p.1, .int p.2] ∧ isNm p.1 = true ∧ 0 ≤ p.2 := by
  unfold spendD at h
  split at h
  · split at h
    · rename_i hc
      cases h
      exact ⟨rfl, hc.1, hc.2⟩
    · cases h
  · cases h
def spRow (p : Str × Int) : PyData := .tuple [.str p.1, .int p.2]
theorem spendsL_ok : ∀ {ds : List PyData} {l : List (Str × Int)}, spendsL ds = some l → ds = l.map spRow ∧ ∀ p ∈ l, isNm p.1 = true ∧ 0 ≤ p.2
  | [], l, h => by
    cases h
    exact ⟨rfl, fun p hp => nomatch hp⟩
  | d :: ds, l, h => by
    replace h : ((spendD d).bind fun p => (spendsL ds).map fun l => p :: l) = some l := h
    cases e1 : spendD d with
    | none => rw [e1] at h; cases h
    | some p =>
      rw [e1] at h
      replace h : ((spendsL ds).map fun l => p :: l) = some l := h
      cases e2 : spendsL ds with
      | none => rw [e2] at h; cases h
      | some r =>
        rw [e2] at h
        cases h
        obtain ⟨ed, h1⟩ := spendD_ok e1
        obtain ⟨er, h2⟩ := spendsL_ok e2
        refine ⟨?_, fun q hq => ?_⟩
        · rw [ed, er]
          rfl
        · rcases List.mem_cons.mp hq with z | z
          · rw [z]; exact h1
          · exact h2 q z
theorem spendsD_ok {d : PyData} {l : List (Str × Int)} (h : spendsD d = some l) : d = .tuple (l.map spRow) ∧ (∀ p ∈ l, isNm p.1 = true ∧ 0 ≤ p.2) ∧ ascN l = true := by
  cases d with
  | tuple ds =>
    replace h : ((spendsL ds).bind fun l => if ascN l = true then some l else none) = some l := h
    cases e : spendsL ds with
    | none => rw [e] at h; cases h
    | some r =>
      rw [e] at h
      replace h : (if ascN r = true then some r else none) = some l := h
      by_cases c : ascN r = true
      · rw [if_pos c] at h
        cases h
        obtain ⟨h1, h2⟩ := spendsL_ok e
        exact ⟨by rw [h1], h2, c⟩
      · rw [if_neg c] at h
        cases h
  | _ => cases h
structure Chg (s : LkS) (b : Int) (t : Tab) : Prop where
  good : GoodT b t
  sm : ∀ M : Int, 0 ≤ M → TbM M s.t → TbM (M + 2000000000000) t
def ResOk (s : LkS) (r : PyData) : Prop := r = .none ∨ (∃ n ∈ keysT s.t, r = .int (tval s.t n)) ∨ ∃ n : Str, isNm n = true ∧ r = .str n
def Next (s : LkS) (r : PyData) (s' : LkS) : Prop := ResOk s r ∧ ((∃ p, s.past.getLast? = some p ∧ s' = ⟨p.1, p.2, s.past.dropLast⟩) ∨ ∃ b t, Chg s b t ∧ s' = ⟨b, t, s.past ++ [(s.b, s.t)]⟩)
theorem next_keep {s : LkS} {b : Int} {t : Tab} {r r' : PyData} {s' : LkS} (h : keepF s b t r = .ok r' s') (hr : ResOk s r) (c : Chg s b t) : Next s r' s' := by
  cases h
  exact ⟨hr, .inr ⟨b, t, c, rfl⟩⟩
theorem next_change {s : LkS} {b : Int} {t : Tab} {r r' : PyData} {s' : LkS} (h : changeF s b t r = .ok r' s') (hr : ResOk s r) (c : weakN b t = none → Chg s b t) : Next s r' s' := by
  unfold changeF at h
  cases e : weakN b t with
  | some W => rw [e] at h; cases h
  | none =>
    rw [e] at h
    exact next_keep h hr (c e)
theorem intIn_ok {lo hi a : Int} {d : PyData} (h : intIn lo hi d = some a) : d = .int a ∧ lo ≤ a ∧ a ≤ hi := by
  cases d with
  | int i =>
    replace h : (if lo ≤ i ∧ i ≤ hi then some i else none) = some a := h
    by_cases c : lo ≤ i ∧ i ≤ hi
    · rw [if_pos c] at h
      cases h
      exact ⟨rfl, c⟩
    · rw [if_neg c] at h
      cases h
  | _ => cases h
theorem nameD_ok {d : PyData} {n : Str} (h : nameD d = some n) : d = .str n ∧ isNm n = true := by
  cases d with
  | str x =>
    replace h : (if isNm x = true then some x else none) = some n := h
    by_cases c : isNm x = true
    · rw [if_pos c] at h
      cases h
      exact ⟨rfl, c⟩
    · rw [if_neg c] at h
      cases h
  | _ => cases h
theorem tdrop_sub {t : Tab} {n m : Str} (h : m ∈ keysT (tdrop t n)) : m ∈ keysT t := by
  unfold keysT at h ⊢
  obtain ⟨p, hp, e⟩ := List.mem_map.mp h
  exact List.mem_map.mpr ⟨p, (List.mem_filter.mp hp).1, e⟩
theorem poorN_in' {t : Tab} {n : Str} (h : poorN t = some n) : n ∈ keysT t := by
  unfold poorN at h
  cases e : (ordP t).head? with
  | none => rw [e] at h; cases h
  | some p =>
    rw [e] at h
    cases h
    have h1 := List.mem_of_mem_head? (l := ordP t) (a := p) (by rw [e]; rfl)
    have h2 := (ordP_perm t).mem_iff.mp h1
    obtain ⟨q, hq, e2⟩ := List.mem_map.mp h2
    rw [← e2]
    exact List.mem_map.mpr ⟨q, hq, rfl⟩
theorem chg_put {s : LkS} {n : Str} {v : Int} (G : Good s) (hk : n ∈ keysT s.t) (hv : v ≤ tval s.t n + 1000000000000) (w : gapOf s.b (valsT (tput s.t n v)) = none) : Chg s s.b (tput s.t n v) :=
  ⟨⟨G.now.b1, G.now.b2, by rw [tput_len v hk]; exact G.now.len, tput_nd v G.now.nd, fun m hm => G.now.nm m (by rw [tput_keys v hk] at hm; exact hm), w⟩,
    fun M h0 h => by
      have := h.val h0 n
      exact (h.mono (by omega)).put (by omega) n⟩
theorem call_next {wd : Str} {s s' : LkS} {ds : List PyData} {r : PyData} (G : Good s) (h : callF wd s ds = .ok r s') : Next s r s' := by
  have B : ∀ {x : Ex} {v : PyData}, Out.bad x v = .ok r s' → Next s r s' := fun e => nomatch e
  have gb : ∀ {b : Int}, 1 ≤ b → b ≤ 1000000 → weakN b s.t = none → Chg s b s.t := fun h1 h2 w =>
    ⟨⟨h1, h2, G.now.len, G.now.nd, G.now.nm, weakN_none.mp w⟩, fun M h0 h => h.mono (by omega)⟩
  unfold callF op1 op2 op3 at h
  split at h
  · split at h
    · rename_i dn db
      unfold enterF at h
      split at h
      · exact B h
      · rename_i n en
        obtain ⟨rfl, nn⟩ := nameD_ok en
        split at h
        · exact B h
        · rename_i hk
          split at h
          · exact B h
          · rename_i a ea
            obtain ⟨_, a0, a1⟩ := intIn_ok ea
            split at h
            · exact B h
            · rename_i hl
              refine next_change h (.inl rfl) fun w => ⟨⟨G.now.b1, G.now.b2, ?_, tput_nd a G.now.nd, fun m hm => ?_, weakN_none.mp w⟩, fun M h0 hM => (hM.mono (by omega)).put (by omega) n⟩
              · rw [tput_new a hk, List.length_append]
                show s.t.length + 1 ≤ 40
                omega
              · rw [tput_new a hk] at hm
                unfold keysT at hm
                rw [List.map_append] at hm
                rcases List.mem_append.mp hm with z | z
                · exact G.now.nm m z
                · rw [List.mem_singleton.mp z]
                  exact nn
    · exact B h
  split at h
  · split at h
    · unfold leaveF at h
      split at h
      · exact B h
      · rename_i n en
        obtain ⟨hk, rfl⟩ := knownD_in en
        refine next_keep h (.inr (.inl ⟨n, hk, rfl⟩)) ⟨⟨G.now.b1, G.now.b2, ?_, tdrop_keys G.now.nd, fun m hm => G.now.nm m (tdrop_sub hm), safe_drop G.now.nd hk G.now.safe⟩, fun M h0 hM => (hM.drop n).mono (by omega)⟩
        have := List.length_filter_le (fun p : Str × Int => decide (p.1 ≠ n)) s.t
        have := G.now.len
        unfold tdrop
        omega
    · exact B h
  split at h
  · split at h
    · unfold depositF at h
      split at h
      · exact B h
      · rename_i n en
        obtain ⟨hk, rfl⟩ := knownD_in en
        split at h
        · exact B h
        · rename_i a ea
          obtain ⟨_, a0, a1⟩ := intIn_ok ea
          exact next_keep h (.inl rfl) (chg_put G hk (by omega) (safe_up G.now.nd hk (by omega) G.now.safe))
    · exact B h
  split at h
  · split at h
    · unfold withdrawF at h
      split at h
      · exact B h
      · rename_i n en
        obtain ⟨hk, rfl⟩ := knownD_in en
        split at h
        · exact B h
        · rename_i a ea
          obtain ⟨_, a0, a1⟩ := intIn_ok ea
          exact next_change h (.inl rfl) fun w => chg_put G hk (by omega) (weakN_none.mp w)
    · exact B h
  split at h
  · split at h
    · unfold transferF at h
      split at h
      · exact B h
      · rename_i g eg
        obtain ⟨hg, rfl⟩ := knownD_in eg
        split at h
        · exact B h
        · rename_i k ek
          obtain ⟨hk, rfl⟩ := knownD_in ek
          split at h
          · exact B h
          · rename_i a ea
            obtain ⟨_, a0, a1⟩ := intIn_ok ea
            refine next_change h (.inl rfl) fun w => ?_
            have e1 := tput_keys (tval s.t g - a) hg
            have hk2 : k ∈ keysT (tput s.t g (tval s.t g - a)) := by rw [e1]; exact hk
            refine ⟨⟨G.now.b1, G.now.b2, ?_, tput_nd _ (tput_nd _ G.now.nd), fun m hm => G.now.nm m ?_, weakN_none.mp w⟩, fun M h0 hM => ?_⟩
            · unfold moveT
              rw [tput_len _ hk2, tput_len _ hg]
              exact G.now.len
            · unfold moveT at hm
              rw [tput_keys _ hk2, e1] at hm
              exact hm
            · have v1 := hM.val h0 g
              have m1 : TbM M (tput s.t g (tval s.t g - a)) := hM.put (by omega) g
              have v2 := m1.val h0 k
              exact (m1.mono (by omega)).put (by omega) k
    · exact B h
  split at h
  · split at h
    · unfold budgetF at h
      split at h
      · exact B h
      · rename_i b eb
        obtain ⟨_, b1, b2⟩ := intIn_ok eb
        exact next_change h (.inl rfl) fun w => gb b1 b2 w
    · exact B h
  split at h
  · split at h
    · unfold tickF at h
      split at h
      · exact B h
      · rename_i l el
        obtain ⟨_, hl, _⟩ := spendsD_ok el
        split at h
        · exact B h
        · rename_i hf
          split at h
          · exact B h
          · rename_i hb
            have hk : ∀ p ∈ l, p.1 ∈ keysT s.t := fun p hp => by
              have := List.find?_eq_none.mp hf p hp
              by_cases z : p.1 ∈ keysT s.t
              · exact z
              · exact absurd (decide_eq_true z) this
            have hs := tick_safe G.now hk (fun p hp => (hl p hp).2) (by omega)
            have ek := afterS_keys l s.t hk
            refine next_keep h ?_ ⟨⟨G.now.b1, G.now.b2, ?_, ?_, fun m hm => G.now.nm m ?_, hs⟩, fun M h0 hM => ?_⟩
            · cases e : poorN (afterS s.t l) with
              | none => exact .inl rfl
              | some n => exact .inr (.inr ⟨n, G.now.nm n (by rw [← ek]; exact poorN_in' e), rfl⟩)
            · unfold grantT
              split
              · rw [afterS_len l s.t hk]; exact G.now.len
              · rename_i n e
                rw [tput_len _ (poorN_in' e), afterS_len l s.t hk]; exact G.now.len
            · unfold grantT
              split
              · rw [ek]; exact G.now.nd
              · exact tput_nd _ (by rw [ek]; exact G.now.nd)
            · unfold grantT at hm
              split at hm
              · rw [ek] at hm; exact hm
              · rename_i n e
                rw [tput_keys _ (poorN_in' e), ek] at hm; exact hm
            · have m1 : TbM M (afterS s.t l) := hM.after h0 fun p hp => (hl p hp).2
              unfold grantT
              split
              · exact m1.mono (by omega)
              · rename_i n e
                have := m1.val h0 n
                have := G.now.b2
                exact (m1.mono (by omega)).put (by omega) n
    · exact B h
  unfold undoF at h
  split at h
  · exact B h
  · rename_i p e
    cases h
    exact ⟨.inl rfl, .inl ⟨p, e, rfl⟩⟩
structure SmS (M : Int) (s : LkS) : Prop where
  now : TbM M s.t
  old : ∀ p ∈ s.past, TbM M p.2
theorem Next.good {s s' : LkS} {r : PyData} (h : Next s r s') (G : Good s) : Good s' := by
  obtain ⟨_, ⟨p, e, rfl⟩ | ⟨b, t, c, rfl⟩⟩ := h
  · exact ⟨G.old p (List.mem_of_getLast? e), fun q hq => G.old q (List.dropLast_subset _ hq)⟩
  · refine ⟨c.good, fun q hq => ?_⟩
    rcases List.mem_append.mp hq with z | z
    · exact G.old q z
    · rw [List.mem_singleton.mp z]
      exact G.now
theorem Next.sm {s s' : LkS} {r : PyData} {M : Int} (h : Next s r s') (h0 : 0 ≤ M) (S : SmS M s) : SmS (M + 2000000000000) s' := by
  obtain ⟨_, ⟨p, e, rfl⟩ | ⟨b, t, c, rfl⟩⟩ := h
  · exact ⟨(S.old p (List.mem_of_getLast? e)).mono (by omega), fun q hq => (S.old q (List.dropLast_subset _ hq)).mono (by omega)⟩
  · refine ⟨c.sm M h0 S.now, fun q hq => ?_⟩
    rcases List.mem_append.mp hq with z | z
    · exact (S.old q z).mono (by omega)
    · rw [List.mem_singleton.mp z]
      exact S.now.mono (by omega)
theorem Next.len {s s' : LkS} {r : PyData} (h : Next s r s') : s'.past.length ≤ s.past.length + 1 := by
  obtain ⟨_, ⟨p, e, rfl⟩ | ⟨b, t, c, rfl⟩⟩ := h
  · show s.past.dropLast.length ≤ _
    rw [List.length_dropLast]
    omega
  · show (s.past ++ [(s.b, s.t)]).length ≤ _
    rw [List.length_append]
    exact Nat.le_refl _
/-- the state behind a call -/
theorem out_good {wd : Str} {s : LkS} {ds : List PyData} (G : Good s) : Good (outS s (callF wd s ds)) := by
  cases e : callF wd s ds with
  | ok r s' => exact (call_next G e).good G
  | bad x v => exact G
theorem out_len {wd : Str} {s : LkS} {ds : List PyData} (G : Good s) : (outS s (callF wd s ds)).past.length ≤ s.past.length + 1 := by
  cases e : callF wd s ds with
  | ok r s' => exact (call_next G e).len
  | bad x v => exact Nat.le_succ _
/-! ### how great is what a call tells -/
def Shw (e : Nat) (d : PyData) : Prop := d.shown.length ≤ szD d ∧ d.showable = true ∧ d.depth ≤ e
theorem Shw.mono {e e' : Nat} {d : PyData} (h : Shw e d) (he : e ≤ e') : Shw e' d := ⟨h.1, h.2.1, Nat.le_trans h.2.2 he⟩
theorem Shw.shows {e : Nat} {d : PyData} (h : Shw e d) (he : e ≤ 60) (hz : szD d ≤ 10000000) : Shows d := ⟨h.2.1, Nat.le_trans h.2.2 he, Nat.le_trans h.1 (Nat.le_trans hz (by decide))⟩
theorem shw_gd {k e : Nat} {d : PyData} (h : Gd k e d) (hk : k ≤ 1000) : Shw (e + 1) d := h.sh (Nat.le_trans hk (by decide))
theorem shw_none : Shw 1 .none := shw_gd (k := 0) (.none (e := 0)) (Nat.zero_le _)
theorem shw_str {x : Str} (h : Asc x) : Shw 1 (.str x) := shw_gd (k := 0) (.str (e := 0) h) (Nat.zero_le _)
theorem shw_int {i : Int} (h : i.natAbs < 2 ^ 100) : Shw 1 (.int i) := by
  have h1 := int_shown h
  have h2 := int_ok h
  exact ⟨by simp only [szD]; omega, h2.1, by omega⟩
theorem shw_tuple {e : Nat} {ds : List PyData} (h : ∀ d ∈ ds, Shw e d) : Shw (e + 1) (.tuple ds) := by
  refine ⟨?_, ?_, ?_⟩
  · simp only [PyData.shown, szD]
    rw [shownAll_map]
    have := tupleText_le (ds.map PyData.shown)
    have := piled_sz fun d hd => (h d hd).1
    omega
  · simp only [PyData.showable]
    exact showableAll_of fun d hd => (h d hd).2.1
  · simp only [PyData.depth]
    have := depthAll_of (m := e) fun d hd => (h d hd).2.2
    omega
theorem letters_asc : ∀ c ∈ lettersS.cps.toList, c < 128 := by decide +kernel
theorem nm_asc {s : Str} (h : isNm s = true) : Asc s := fun c hc => by
  unfold isNm at h
  rw [Bool.and_eq_true] at h
  exact letters_asc c (of_decide_eq_true (List.all_eq_true.mp h.2 c hc))
theorem nm_len {s : Str} (h : isNm s = true) : s.length ≤ 8 := by
  unfold isNm at h
  rw [Bool.and_eq_true] at h
  exact (of_decide_eq_true h.1).2
theorem szA_le {B : Nat} : ∀ {ds : List PyData}, (∀ d ∈ ds, szD d ≤ B) → szA ds ≤ ds.length * (B + 5)
  | [], _ => Nat.zero_le _
  | d :: ds, h => by
    have h1 := h d List.mem_cons_self
    have h2 := szA_le fun e he => h e (List.mem_cons_of_mem _ he)
    simp only [szA, List.length_cons, Nat.add_mul, Nat.one_mul]
    omega
theorem weakN_in {b : Int} {t : Tab} {W : List Str} (h : weakN b t = some W) : W.length ≤ t.length ∧ ∀ n ∈ W, n ∈ keysT t := by
  unfold weakN at h
  cases e : gapOf b (valsT t) with
  | none => rw [e] at h; cases h
  | some k =>
    rw [e] at h
    cases h
    have p := srtN_perm (((ordP t).take k).map (·.2))
    have l := (ordP_perm t).length_eq
    rw [List.length_map] at l
    refine ⟨?_, fun n hn => ?_⟩
    · rw [p.length_eq, List.length_map, List.length_take]
      omega
    · obtain ⟨q, hq, rfl⟩ := List.mem_map.mp (p.mem_iff.mp hn)
      obtain ⟨r, hr, e2⟩ := List.mem_map.mp ((ordP_perm t).mem_iff.mp (List.mem_of_mem_take hq))
      rw [← e2]
      exact List.mem_map.mpr ⟨r, hr, rfl⟩
def BadOk (ds : List PyData) (v : PyData) : Prop := v ∈ ds ∨ v = .none ∨ (∃ n : Str, isNm n = true ∧ v = .str n) ∨ (∃ W : List Str, v = .tuple (W.map .str) ∧ W.length ≤ 41 ∧ ∀ n ∈ W, isNm n = true) ∨ ∃ d ∈ ds, ∃ l, spendsD d = some l ∧ v = .int (totS l)
theorem bad_change {s : LkS} {b : Int} {t : Tab} {r v : PyData} {x : Ex} {ds : List PyData} (h : changeF s b t r = .bad x v) (hl : t.length ≤ 41) (hn : ∀ n ∈ keysT t, isNm n = true) : BadOk ds v := by
  unfold changeF at h
  cases e : weakN b t with
  | none => rw [e] at h; cases h
  | some W =>
    rw [e] at h
    cases h
    obtain ⟨h1, h2⟩ := weakN_in e
    exact .inr (.inr (.inr (.inl ⟨W, rfl, by omega, fun n hw => hn n (h2 n hw)⟩)))
theorem call_bad {wd : Str} {s : LkS} {ds : List PyData} {x : Ex} {v : PyData} (G : Good s) (hd : ArC wd ds.length) (h : callF wd s ds = .bad x v) : BadOk ds v := by
  have len := G.now.len
  have I : ∀ {y : Ex} {u : PyData}, Out.bad y u = .bad x v → BadOk ds u → BadOk ds v := fun e b => by
    cases e
    exact b
  generalize hn : ds.length = n at hd
  cases hd with
  | enter =>
    obtain ⟨dn, db, rfl⟩ : ∃ a b, ds = [a, b] := by
      match ds, hn with
      | [a, b], _ => exact ⟨a, b, rfl⟩
    rw [call_enter] at h
    replace h : enterF s dn db = .bad x v := h
    unfold enterF at h
    split at h
    · exact I h (.inl List.mem_cons_self)
    · rename_i n en
      obtain ⟨rfl, nn⟩ := nameD_ok en
      split at h
      · exact I h (.inl List.mem_cons_self)
      · rename_i hk
        split at h
        · exact I h (.inl (List.mem_cons_of_mem _ List.mem_cons_self))
        · rename_i a ea
          split at h
          · exact I h (.inr (.inl rfl))
          · rename_i hl
            refine bad_change h (by rw [tput_new a hk, List.length_append]; show s.t.length + 1 ≤ 41; omega) fun m hm => ?_
            rw [tput_new a hk] at hm
            unfold keysT at hm
            rw [List.map_append] at hm
            rcases List.mem_append.mp hm with z | z
            · exact G.now.nm m z
            · rw [List.mem_singleton.mp z]
              exact nn
  | leave =>
    obtain ⟨dn, rfl⟩ : ∃ a, ds = [a] := by
      match ds, hn with
      | [a], _ => exact ⟨a, rfl⟩
    rw [call_leave] at h
    replace h : leaveF s dn = .bad x v := h
    unfold leaveF at h
    split at h
    · exact I h (.inl List.mem_cons_self)
    · unfold keepF at h; cases h
  | deposit =>
    obtain ⟨dn, db, rfl⟩ : ∃ a b, ds = [a, b] := by
      match ds, hn with
      | [a, b], _ => exact ⟨a, b, rfl⟩
    rw [call_deposit] at h
    replace h : depositF s dn db = .bad x v := h
    unfold depositF at h
    split at h
    · exact I h (.inl List.mem_cons_self)
    · split at h
      · exact I h (.inl (List.mem_cons_of_mem _ List.mem_cons_self))
      · unfold keepF at h; cases h
  | withdraw =>
    obtain ⟨dn, db, rfl⟩ : ∃ a b, ds = [a, b] := by
      match ds, hn with
      | [a, b], _ => exact ⟨a, b, rfl⟩
    rw [call_withdraw] at h
    replace h : withdrawF s dn db = .bad x v := h
    unfold withdrawF at h
    split at h
    · exact I h (.inl List.mem_cons_self)
    · rename_i n en
      obtain ⟨hk, rfl⟩ := knownD_in en
      split at h
      · exact I h (.inl (List.mem_cons_of_mem _ List.mem_cons_self))
      · exact bad_change h (by rw [tput_len _ hk]; omega) fun m hm => G.now.nm m (by rw [tput_keys _ hk] at hm; exact hm)
  | transfer =>
    obtain ⟨dg, dk, da, rfl⟩ : ∃ a b c, ds = [a, b, c] := by
      match ds, hn with
      | [a, b, c], _ => exact ⟨a, b, c, rfl⟩
    rw [call_transfer] at h
    replace h : transferF s dg dk da = .bad x v := h
    unfold transferF at h
    split at h
    · exact I h (.inl List.mem_cons_self)
    · rename_i g eg
      obtain ⟨hg, rfl⟩ := knownD_in eg
      split at h
      · exact I h (.inl (List.mem_cons_of_mem _ List.mem_cons_self))
      · rename_i k ek
        obtain ⟨hk, rfl⟩ := knownD_in ek
        split at h
        · exact I h (.inl (List.mem_cons_of_mem _ (List.mem_cons_of_mem _ List.mem_cons_self)))
        · rename_i a ea
          have e1 := tput_keys (tval s.t g - a) hg
          have hk2 : k ∈ keysT (tput s.t g (tval s.t g - a)) := by rw [e1]; exact hk
          refine bad_change h ?_ fun m hm => G.now.nm m ?_
          · unfold moveT
            rw [tput_len _ hk2, tput_len _ hg]
            omega
          · unfold moveT at hm
            rw [tput_keys _ hk2, e1] at hm
            exact hm
  | budget =>
    obtain ⟨dn, rfl⟩ : ∃ a, ds = [a] := by
      match ds, hn with
      | [a], _ => exact ⟨a, rfl⟩
    rw [call_budget] at h
    replace h : budgetF s dn = .bad x v := h
    unfold budgetF at h
    split at h
    · exact I h (.inl List.mem_cons_self)
    · exact bad_change h (by omega) G.now.nm
  | tick =>
    obtain ⟨dn, rfl⟩ : ∃ a, ds = [a] := by
      match ds, hn with
      | [a], _ => exact ⟨a, rfl⟩
    rw [call_tick] at h
    replace h : tickF s dn = .bad x v := h
    unfold tickF at h
    split at h
    · exact I h (.inl List.mem_cons_self)
    · rename_i l el
      obtain ⟨_, hl, _⟩ := spendsD_ok el
      split at h
      · rename_i p hp
        exact I h (.inr (.inr (.inl ⟨p.1, (hl p (List.mem_of_find?_eq_some hp)).1, rfl⟩)))
      · split at h
        · exact I h (.inr (.inr (.inr (.inr ⟨_, List.mem_cons_self, l, el, rfl⟩))))
        · unfold keepF at h; cases h
  | undo =>
    rw [call_undo] at h
    unfold undoF at h
    split at h
    · exact I h (.inr (.inl rfl))
    · cases h
theorem val_ge {b : Int} {t : Tab} {n : Str} (G : GoodT b t) (h : n ∈ keysT t) : b ≤ tval t n := by
  have e := G.safe
  rw [gap_congr (valsT_perm_head G.nd h)] at e
  have h0 : R b 1 ≤ 0 + tval t n := (safe_cons.mp e).2 0 (Nat.zero_le _)
  rw [R_one] at h0
  omega
/-- args that are told back: small -/
structure ArgsOk (e z : Nat) (ds : List PyData) : Prop where
  sh : ∀ d ∈ ds, Shw e d
  sz : ∀ d ∈ ds, szD d ≤ z
  tot : ∀ d ∈ ds, ∀ l, spendsD d = some l → totS l < 2 ^ 99
theorem shw_two {e : Nat} {x : Str} {d : PyData} (he : 1 ≤ e) (hx : Asc x) (hd : Shw e d) : Shw (e + 1) (.tuple [.str x, d]) := by
  refine shw_tuple fun y hy => ?_
  rcases List.mem_cons.mp hy with rfl | hy
  · exact (shw_str hx).mono he
  · rw [List.mem_singleton.mp hy]
    exact hd
theorem totS_nn : ∀ l : List (Str × Int), (∀ p ∈ l, 0 ≤ p.2) → 0 ≤ totS l
  | [], _ => Int.le_refl 0
  | p :: r, h => by
    have h1 := totS_nn r fun q hq => h q (List.mem_cons_of_mem _ hq)
    have h2 := h p List.mem_cons_self
    unfold totS at h1 ⊢
    rw [List.map_cons, List.sum_cons]
    omega
theorem strs_shw {W : List Str} (h : ∀ n ∈ W, isNm n = true) : Shw 2 (.tuple (W.map .str)) := shw_tuple fun d hd => by
  obtain ⟨n, hn, rfl⟩ := List.mem_map.mp hd
  exact shw_str (nm_asc (h n hn))
theorem strs_sz {W : List Str} (h : ∀ n ∈ W, isNm n = true) : szD (.tuple (W.map .str)) ≤ W.length * 121 + 10 := by
  have := szA_le (B := 116) (ds := W.map .str) fun d hd => by
    obtain ⟨n, hn, rfl⟩ := List.mem_map.mp hd
    have := nm_len (h n hn)
    simp only [szD]
    omega
  rw [List.length_map] at this
  simp only [szD]
  omega
/-! ### sums, bounded -/
theorem sum_bd {M : Int} : ∀ {l : List Int}, (∀ x ∈ l, 0 ≤ x ∧ x ≤ M) → 0 ≤ l.sum ∧ l.sum ≤ M * (l.length : Int)
  | [], _ => by simp
  | x :: r, h => by
    have ih := sum_bd fun y hy => h y (List.mem_cons_of_mem _ hy)
    have hx := h x List.mem_cons_self
    rw [List.sum_cons, List.length_cons]
    have : M * ((r.length + 1 : Nat) : Int) = M * (r.length : Int) + M := by rw [Int.natCast_succ, Int.mul_add, Int.mul_one]
    omega
/-! ### what calls are given -/
theorem LkAt.hand {K : PySem.W.Frag} {C : Addr} {H H' : Hp} {p q a : Addr} {s : LkS} {n : Nat} (h : LkAt C H p q s) (hd : Hand H a n) (qa : q ≠ a) (k : Kp [a] H H') : LkAt C H' p q s := by
  obtain ⟨g, x, c, e, _⟩ := hd
  have e : H a = some (.lst [.int g, .int x, .int c]) := e
  obtain ⟨⟨dx, d, h1, _⟩, _⟩ := id h
  have pa : p ≠ a := fun z => by rw [z, e] at h1; cases h1
  exact h.keep (fun o w _ => k.at1 pa w) (fun o w _ => k.at1 qa w) (fun r xs w => k.at1 (fun z => by rw [z, e] at w; cases w) w) (fun r t w => k.at1 (fun z => by rw [z, e] at w; cases w) w)
theorem MdAt.hand {H H' : Hp} {m l a : Addr} {s : LkS} {n : Nat} (h : MdAt H m l s) (hd : Hand H a n) (la : l ≠ a) (k : Kp [a] H H') : MdAt H' m l s := by
  obtain ⟨g, x, c, e, _⟩ := hd
  have e : H a = some (.lst [.int g, .int x, .int c]) := e
  obtain ⟨⟨d, h1, _⟩, _⟩ := id h
  have ma : m ≠ a := fun z => by rw [z, e] at h1; cases h1
  exact h.keep (fun o w _ => k.at1 ma w) (fun o w _ => k.at1 la w) (fun r xs w => k.at1 (fun z => by rw [z, e] at w; cases w) w) (fun r t w => k.at1 (fun z => by rw [z, e] at w; cases w) w)
def wishN : List Str := ["a", "b", "c", "dd", "zzzzzzzz"]
/-- a word and its parts, as a call takes them -/
structure WishP (K : PySem.W.Frag) (H : Hp) (u L : Addr) (wd : Str) (us : List V) (ds : List PyData) : Prop where
  pair : SqT K H u [.str wd, .ref L]
  lst : H L = some (.lst us)
  db : ∀ N, DbAll K N H us ds
  ar : ArC wd us.length
  ok : ArgsOk 5 20000 ds
  few : ∀ es, PyData.tuple es ∈ ds → es.length ≤ 60
  sz : szA ds ≤ 1000000
  amt : ∀ i, PyData.int i ∈ ds → i ≤ 4000000
  new : wd = "enter" → ∃ n ∈ wishN, ds.head? = some (.str n)
theorem szA_z {z n : Nat} {ds : List PyData} (h : ∀ d ∈ ds, szD d ≤ z) (hn : ds.length ≤ n) : szA ds ≤ n * (z + 5) := Nat.le_trans (szA_le h) (Nat.mul_le_mul_right _ hn)
/-- names and small numbers -/
inductive Flat1 : PyData → Prop
  | str {n : Str} : isNm n = true → Flat1 (.str n)
  | int {i : Int} : i.natAbs < 2 ^ 90 → Flat1 (.int i)
theorem Flat1.sh {d : PyData} (h : Flat1 d) : Shw 5 d := by
  cases h with
  | str h => exact (shw_str (nm_asc h)).mono (by decide)
  | int h => exact (shw_int (Nat.lt_trans h (by decide))).mono (by decide)
theorem Flat1.sz {d : PyData} (h : Flat1 d) : szD d ≤ 20000 := by
  cases h with
  | str h => have := nm_len h; simp only [szD]; omega
  | int h => exact (by decide : szD (.int 0) ≤ 20000)
theorem flat_ok {ds : List PyData} (h : ∀ d ∈ ds, Flat1 d) : ArgsOk 5 20000 ds := ⟨fun d hd => (h d hd).sh, fun d hd => (h d hd).sz, fun d hd l e => by
  obtain ⟨z, _, _⟩ := spendsD_ok e
  have := h d hd
  rw [z] at this
  cases this⟩
theorem flat_few {ds : List PyData} (h : ∀ d ∈ ds, Flat1 d) : ∀ es, PyData.tuple es ∈ ds → es.length ≤ 60 := fun es he => by
  cases h _ he
theorem SpL.keepS {K : PySem.W.Frag} {H H' : Hp} (f : ∀ (p : Addr) (xs : List V), SqT K H p xs → SqT K H' p xs) : ∀ {vs : List V} {l : List (Str × Int)}, SpL K H vs l → SpL K H' vs l
  | _, _, .nil => .nil
  | _, _, .cons a b c d => .cons (f _ _ a) b c (d.keepS f)
theorem SpL.snoc {K : PySem.W.Frag} {H : Hp} {t : Addr} {n : Str} {x : Int} (ht : SqT K H t [.str n, .int x]) (hn : isNm n = true) (hx : 0 ≤ x) : ∀ {vs : List V} {l : List (Str × Int)}, SpL K H vs l → SpL K H (vs ++ [.ref t]) (l ++ [(n, x)])
  | _, _, .nil => .cons ht hn hx .nil
  | _, _, .cons a b c d => .cons a b c (d.snoc ht hn hx)
theorem SpL.db {K : PySem.W.Frag} {H : Hp} {N : Addr → Prop} : ∀ {vs : List V} {l : List (Str × Int)}, SpL K H vs l → DbAll K N H vs (l.map spRow)
  | _, _, .nil => .nil
  | _, _, .cons a b c d => .cons (.tup a (.cons (.str _) (.cons (.int _) .nil))) d.db
theorem row_shw {p : Str × Int} (h : isNm p.1 = true ∧ 0 ≤ p.2 ∧ p.2 ≤ 1000001) : Shw 2 (spRow p) ∧ szD (spRow p) ≤ 300 := by
  constructor
  · refine shw_tuple fun d hd => ?_
    rcases List.mem_cons.mp hd with rfl | hd
    · exact shw_str (nm_asc h.1)
    · rw [List.mem_singleton.mp hd]
      exact shw_int (by omega)
  · have := nm_len h.1
    unfold spRow
    simp only [szD, szA]
    omega
theorem rows_ok {l : List (Str × Int)} (hl : l.length ≤ 40) (h : ∀ p ∈ l, isNm p.1 = true ∧ 0 ≤ p.2 ∧ p.2 ≤ 1000001) : ArgsOk 5 20000 [.tuple (l.map spRow)] := by
  have z : szD (.tuple (l.map spRow)) ≤ 20000 := by
    have := szA_z (ds := l.map spRow) (z := 300) (n := 40) (fun d hd => by
      obtain ⟨p, hp, rfl⟩ := List.mem_map.mp hd
      exact (row_shw (h p hp)).2) (by rw [List.length_map]; exact hl)
    simp only [szD]
    omega
  refine ⟨fun d hd => ?_, fun d hd => ?_, fun d hd l2 e => ?_⟩
  · rw [List.mem_singleton.mp hd]
    refine (shw_tuple (e := 2) fun d hd => ?_).mono (by decide)
    obtain ⟨p, hp, rfl⟩ := List.mem_map.mp hd
    exact (row_shw (h p hp)).1
  · rw [List.mem_singleton.mp hd]
    exact z
  · rw [List.mem_singleton.mp hd] at e
    obtain ⟨e2, _, _⟩ := spendsD_ok e
    have e3 := PyData.tuple.inj e2
    have inj : ∀ a b : List (Str × Int), a.map spRow = b.map spRow → a = b := by
      intro a
      induction a with
      | nil => intro b e; cases b with
        | nil => rfl
        | cons _ _ => cases e
      | cons x a ih => intro b e; cases b with
        | nil => cases e
        | cons y b =>
          have h1 := List.cons.inj e
          have h2 : spRow x = spRow y := h1.1
          unfold spRow at h2
          injection h2 with h2
          injection h2 with h3 h4
          injection h3 with h3
          injection h4 with h4 _
          injection h4 with h4
          rw [ih b h1.2, show x = y from Prod.ext h3 h4]
    rw [← inj _ _ e3]
    have := sum_bd (M := 1000001) (l := l.map (·.2)) fun x hx => by
      obtain ⟨p, hp, rfl⟩ := List.mem_map.mp hx
      exact (h p hp).2
    rw [List.length_map] at this
    unfold totS
    omega
theorem Hand.kt {T : List (Addr × Str)} {H H' : Hp} {a : Addr} {n : Nat} (h : Hand H a n) (k : Kt T H H') : Hand H' a n := by
  obtain ⟨x, y, z, e, r⟩ := h
  exact ⟨x, y, z, k.atL e, r⟩
theorem Kt.hand {T : List (Addr × Str)} {H H1 H2 : Hp} {a : Addr} {n : Nat} (k : Kt T H H1) (z : Nt H a) (h : Hand H1 a n) (m : Kp [a] H1 H2) : Kt T H H2 := by
  obtain ⟨x, y, c, e, r⟩ := h
  exact k.own z e m
/-- the heap goes on, but for the list at a -/
structure Ka (T : List (Addr × Str)) (a : Addr) (H H' : Hp) : Prop where
  f : ∀ H0, Kt T H0 H → Nt H0 a → Kt T H0 H'
  l : ∀ p xs, p ≠ a → H p = some (.lst xs) → H' p = some (.lst xs)
  t : Tabs T H → Tabs T H'
theorem Ka.of {T : List (Addr × Str)} {a : Addr} {H H1 : Hp} (k : Kt T H H1) : Ka T a H H1 := ⟨fun _ k0 _ => k0.trans k, fun _ _ _ e => k.atL e, k.tab⟩
theorem Ka.kt {T : List (Addr × Str)} {a : Addr} {H H1 H2 : Hp} (x : Ka T a H H1) (k : Kt T H1 H2) : Ka T a H H2 := ⟨fun _ k0 z => (x.f _ k0 z).trans k, fun p xs n e => k.atL (x.l p xs n e), fun h => k.tab (x.t h)⟩
theorem Ka.kp {T : List (Addr × Str)} {a : Addr} {H H1 H2 : Hp} (x : Ka T a H H1) (k : Kp [] H1 H2) : Ka T a H H2 := x.kt k.kt
theorem Ka.hand {T : List (Addr × Str)} {a : Addr} {H H1 H2 : Hp} {n : Nat} (x : Ka T a H H1) (h : Hand H1 a n) (m : Kp [a] H1 H2) : Ka T a H H2 := by
  obtain ⟨c1, c2, c3, e, r⟩ := id h
  have e : H1 a = some (.lst _) := e
  have np : ∀ q o, H1 q = some o → (∀ ys, o ≠ .lst ys) → q ≠ a := fun q o e1 n w => by
    rw [w, e] at e1
    cases e1
    exact n _ rfl
  refine ⟨fun _ k0 z => (x.f _ k0 z).hand z h m, fun p xs ne e1 => m.at1 ne (x.l p xs ne e1), fun hT r hr => ?_⟩
  obtain ⟨ps, h1, h3, h4⟩ := x.t hT r hr
  refine ⟨ps, m.at1 (np _ _ h1 fun ys w => nomatch w) h1, h3, fun pos cv hc => ?_⟩
  obtain ⟨c, e1, e2⟩ := h4 pos cv hc
  refine ⟨c, e1, m.at1 (np _ _ e2 fun ys w => ?_) e2⟩
  unfold LamX.CodeO at w
  cases w
/-! ### what the drawn calls leave -/
/-- a change of the table: no value grows by more than A + 1000000, a new name is the one that enters -/
structure Grw (A : Int) (wd : Str) (ds : List PyData) (s : LkS) (t : Tab) : Prop where
  am : ∀ M : Int, 0 ≤ M → TbM M s.t → TbM (M + A + 1000000) t
  nm : ∀ n ∈ keysT t, n ∈ keysT s.t ∨ (wd = "enter" ∧ ds.head? = some (.str n))
def Grow (A : Int) (wd : Str) (ds : List PyData) (s s' : LkS) : Prop := (Grw A wd ds s s'.t ∧ s'.past = s.past ++ [(s.b, s.t)]) ∨ ∃ p, s.past.getLast? = some p ∧ s'.t = p.2 ∧ s'.past = s.past.dropLast
theorem grow_keep {A : Int} {wd : Str} {ds : List PyData} {s s' : LkS} {b : Int} {t : Tab} {r r' : PyData} (h : keepF s b t r = .ok r' s') (g : Grw A wd ds s t) : Grow A wd ds s s' := by
  cases h
  exact .inl ⟨g, rfl⟩
theorem grow_change {A : Int} {wd : Str} {ds : List PyData} {s s' : LkS} {b : Int} {t : Tab} {r r' : PyData} (h : changeF s b t r = .ok r' s') (g : Grw A wd ds s t) : Grow A wd ds s s' := by
  unfold changeF at h
  cases e : weakN b t with
  | some W => rw [e] at h; cases h
  | none =>
    rw [e] at h
    exact grow_keep h g
theorem call_grow {A : Int} {wd : Str} {s s' : LkS} {ds : List PyData} {r : PyData} (G : Good s) (hA : ∀ i, PyData.int i ∈ ds → i ≤ A) (h0 : 0 ≤ A) (h : callF wd s ds = .ok r s') : Grow A wd ds s s' := by
  have B : ∀ {x : Ex} {v : PyData}, Out.bad x v = .ok r s' → Grow A wd ds s s' := fun e => nomatch e
  have b2 := G.now.b2
  unfold callF op1 op2 op3 at h
  split at h
  · rename_i ew
    split at h
    · rename_i dn db
      unfold enterF at h
      split at h
      · exact B h
      · rename_i n en
        obtain ⟨rfl, nn⟩ := nameD_ok en
        split at h
        · exact B h
        · rename_i hk
          split at h
          · exact B h
          · rename_i a ea
            obtain ⟨rfl, a0, a1⟩ := intIn_ok ea
            have aA := hA a (List.mem_cons_of_mem _ List.mem_cons_self)
            split at h
            · exact B h
            · refine grow_change h ⟨fun M h0 hM => (hM.mono (by omega)).put (by omega) n, fun m hm => ?_⟩
              rw [tput_new a hk] at hm
              unfold keysT at hm
              rw [List.map_append] at hm
              rcases List.mem_append.mp hm with z | z
              · exact .inl z
              · rw [List.mem_singleton.mp z]
                exact .inr ⟨ew, rfl⟩
    · exact B h
  split at h
  · split at h
    · unfold leaveF at h
      split at h
      · exact B h
      · rename_i n en
        exact grow_keep h ⟨fun M h0 hM => (hM.drop n).mono (by omega), fun m hm => .inl (tdrop_sub hm)⟩
    · exact B h
  split at h
  · split at h
    · unfold depositF at h
      split at h
      · exact B h
      · rename_i n en
        obtain ⟨hk, rfl⟩ := knownD_in en
        split at h
        · exact B h
        · rename_i a ea
          obtain ⟨rfl, a0, a1⟩ := intIn_ok ea
          have aA := hA a (List.mem_cons_of_mem _ List.mem_cons_self)
          refine grow_keep h ⟨fun M h0 hM => ?_, fun m hm => .inl (by rw [tput_keys _ hk] at hm; exact hm)⟩
          have := hM.val h0 n
          exact (hM.mono (by omega)).put (by omega) n
    · exact B h
  split at h
  · split at h
    · unfold withdrawF at h
      split at h
      · exact B h
      · rename_i n en
        obtain ⟨hk, rfl⟩ := knownD_in en
        split at h
        · exact B h
        · rename_i a ea
          obtain ⟨_, a0, a1⟩ := intIn_ok ea
          refine grow_change h ⟨fun M h0 hM => ?_, fun m hm => .inl (by rw [tput_keys _ hk] at hm; exact hm)⟩
          have := hM.val h0 n
          exact (hM.mono (by omega)).put (by omega) n
    · exact B h
  split at h
  · split at h
    · unfold transferF at h
      split at h
      · exact B h
      · rename_i g eg
        obtain ⟨hg, rfl⟩ := knownD_in eg
        split at h
        · exact B h
        · rename_i k ek
          obtain ⟨hk, rfl⟩ := knownD_in ek
          split at h
          · exact B h
          · rename_i a ea
            obtain ⟨rfl, a0, a1⟩ := intIn_ok ea
            have aA := hA a (List.mem_cons_of_mem _ (List.mem_cons_of_mem _ List.mem_cons_self))
            have e1 := tput_keys (tval s.t g - a) hg
            have hk2 : k ∈ keysT (tput s.t g (tval s.t g - a)) := by rw [e1]; exact hk
            refine grow_change h ⟨fun M h0 hM => ?_, fun m hm => .inl ?_⟩
            · have v1 := hM.val h0 g
              have m1 : TbM M (tput s.t g (tval s.t g - a)) := hM.put (by omega) g
              have v2 := m1.val h0 k
              exact (m1.mono (by omega)).put (by omega) k
            · unfold moveT at hm
              rw [tput_keys _ hk2, e1] at hm
              exact hm
    · exact B h
  split at h
  · split at h
    · unfold budgetF at h
      split at h
      · exact B h
      · exact grow_change h ⟨fun M h0 hM => hM.mono (by omega), fun m hm => .inl hm⟩
    · exact B h
  split at h
  · split at h
    · unfold tickF at h
      split at h
      · exact B h
      · rename_i l el
        obtain ⟨_, hl, _⟩ := spendsD_ok el
        split at h
        · exact B h
        · rename_i hf
          split at h
          · exact B h
          · have hk : ∀ p ∈ l, p.1 ∈ keysT s.t := fun p hp => by
              have := List.find?_eq_none.mp hf p hp
              by_cases z : p.1 ∈ keysT s.t
              · exact z
              · exact absurd (decide_eq_true z) this
            have ek := afterS_keys l s.t hk
            refine grow_keep h ⟨fun M h0 hM => ?_, fun m hm => .inl ?_⟩
            · have m1 : TbM M (afterS s.t l) := hM.after h0 fun p hp => (hl p hp).2
              unfold grantT
              split
              · exact m1.mono (by omega)
              · rename_i n e
                have := m1.val h0 n
                exact (m1.mono (by omega)).put (by omega) n
            · unfold grantT at hm
              split at hm
              · rw [ek] at hm; exact hm
              · rename_i n e
                rw [tput_keys _ (poorN_in' e), ek] at hm; exact hm
    · exact B h
  unfold undoF at h
  split at h
  · exact B h
  · rename_i p e
    cases h
    exact .inr ⟨p, e, rfl, rfl⟩
/-- few names, small values: now and before -/
def TbN (M : Int) (t : Tab) : Prop := TbM M t ∧ ∀ n ∈ keysT t, n ∈ wishN
structure SmN (M : Int) (s : LkS) : Prop where
  now : TbN M s.t
  old : ∀ p ∈ s.past, TbN M p.2
theorem TbN.mono {M M' : Int} {t : Tab} (h : TbN M t) (hm : M ≤ M') : TbN M' t := ⟨h.1.mono hm, h.2⟩
theorem SmN.mono {M M' : Int} {s : LkS} (h : SmN M s) (hm : M ≤ M') : SmN M' s := ⟨h.now.mono hm, fun p hp => (h.old p hp).mono hm⟩
theorem SmN.out {M : Int} {wd : Str} {s : LkS} {ds : List PyData} (S : SmN M s) (G : Good s) (h0 : 0 ≤ M) (hA : ∀ i, PyData.int i ∈ ds → i ≤ 4000000) (hn : wd = "enter" → ∃ n ∈ wishN, ds.head? = some (.str n)) : SmN (M + 5000000) (outS s (callF wd s ds)) := by
  cases e : callF wd s ds with
  | bad x v => exact S.mono (by omega)
  | ok r s' =>
    rcases call_grow G hA (by decide) e with ⟨g, ep⟩ | ⟨p, e1, e2, e3⟩
    · refine ⟨⟨(g.am M h0 S.now.1).mono (by omega), fun n hn2 => ?_⟩, fun p hp => ?_⟩
      · rcases g.nm n hn2 with z | ⟨z1, z2⟩
        · exact S.now.2 n z
        · obtain ⟨m, hm, em⟩ := hn z1
          rw [em] at z2
          cases z2
          exact hm
      · have hp : p ∈ s'.past := hp
        rw [ep] at hp
        rcases List.mem_append.mp hp with z | z
        · exact (S.old p z).mono (by omega)
        · rw [List.mem_singleton.mp z]
          exact S.now.mono (by omega)
    · refine ⟨?_, fun q hq => ?_⟩
      · show TbN _ s'.t
        rw [e2]
        exact (S.old p (List.mem_of_getLast? e1)).mono (by omega)
      · have hq : q ∈ s'.past := hq
        rw [e3] at hq
        exact (S.old q (List.dropLast_subset _ hq)).mono (by omega)
/-! ### drawn calls, told as texts -/
open TL
def slashS : Str := " / "
theorem lb_bound {b m : Int} {t : Tab} {n : Str} (G : GoodT b t) (h : n ∈ keysT t) (l : IsLB b (valsT (tdrop t n)) m) : 0 ≤ tval t n - m ∧ tval t n - m ≤ tval t n := by
  have s := G.safe
  rw [gap_congr (valsT_perm_head G.nd h)] at s
  have sd := safe_drop G.nd h G.safe
  have h1 := (l.safe sd).mp s
  have h2 := l.1 0 (Nat.zero_le _)
  rw [show R b (0 + 1) = b from R_one b] at h2
  have h3 : SS (valsT (tdrop t n)) 0 = 0 := rfl
  have := G.b1
  omega
noncomputable def lbZ (b : Int) (t : Tab) (n : Str) : Int := Classical.epsilon (fun m => IsLB b (valsT (tdrop t n)) m)
theorem lbZ_of {b m : Int} {t : Tab} {n : Str} (l : IsLB b (valsT (tdrop t n)) m) : m = lbZ b t n := l.uniq (Classical.epsilon_spec (p := fun m => IsLB b (valsT (tdrop t n)) m) ⟨m, l⟩)
/-- the text that a call's answer is told by -/
def tellR (wd : Str) (r : PyData) : Str :=
  if wd = "leave" then (match r with | .int i => tnum i | _ => "")
  else if wd = "tick" then (match r with | .str n => n | _ => "-") else "done"
def listS (s : LkS) : Str := Txt.replace (linkS s.b s.t) lineS slashS
def balF (s : LkS) (d : PyData) : Out := match knownD s.t d with
  | none => .bad .unknown d
  | some n => .ok (.str (tnum (tval s.t n))) s
noncomputable def spareF (s : LkS) (d : PyData) : Out := match knownD s.t d with
  | none => .bad .unknown d
  | some n => .ok (.str (tnum (tval s.t n - lbZ s.b s.t n))) s
def tellO (wd : Str) : Out → Out
  | .ok r s => .ok (.str (tellR wd r)) s
  | .bad x v => .bad x v
inductive ArA : Str → Nat → Prop
  | leave : ArA "leave" 1 | balance : ArA "balance" 1 | spare : ArA "spare" 1 | total : ArA "total" 0 | list : ArA "list" 0 | tick : ArA "tick" 1
inductive ArH : Str → Nat → Prop
  | enter : ArH "enter" 2 | deposit : ArH "deposit" 2 | withdraw : ArH "withdraw" 2 | transfer : ArH "transfer" 3 | budget : ArH "budget" 1 | undo : ArH "undo" 0
  | ask {w : Str} {n : Nat} : ArA w n → ArH w n
theorem h_leave_balance : ¬ (("leave" : Str) = "balance") ∧ ¬ (("leave" : Str) = "spare") ∧ ¬ (("leave" : Str) = "total") ∧ ¬ (("leave" : Str) = "list") := by decide +kernel
theorem h_tick : ¬ (("tick" : Str) = "balance") ∧ ¬ (("tick" : Str) = "spare") ∧ ¬ (("tick" : Str) = "total") ∧ ¬ (("tick" : Str) = "list") := by decide +kernel
theorem h_enter : ¬ (("enter" : Str) = "balance") ∧ ¬ (("enter" : Str) = "spare") ∧ ¬ (("enter" : Str) = "total") ∧ ¬ (("enter" : Str) = "list") := by decide +kernel
theorem h_deposit : ¬ (("deposit" : Str) = "balance") ∧ ¬ (("deposit" : Str) = "spare") ∧ ¬ (("deposit" : Str) = "total") ∧ ¬ (("deposit" : Str) = "list") := by decide +kernel
theorem h_withdraw : ¬ (("withdraw" : Str) = "balance") ∧ ¬ (("withdraw" : Str) = "spare") ∧ ¬ (("withdraw" : Str) = "total") ∧ ¬ (("withdraw" : Str) = "list") := by decide +kernel
theorem h_transfer : ¬ (("transfer" : Str) = "balance") ∧ ¬ (("transfer" : Str) = "spare") ∧ ¬ (("transfer" : Str) = "total") ∧ ¬ (("transfer" : Str) = "list") := by decide +kernel
theorem h_budget : ¬ (("budget" : Str) = "balance") ∧ ¬ (("budget" : Str) = "spare") ∧ ¬ (("budget" : Str) = "total") ∧ ¬ (("budget" : Str) = "list") := by decide +kernel
theorem h_undo : ¬ (("undo" : Str) = "balance") ∧ ¬ (("undo" : Str) = "spare") ∧ ¬ (("undo" : Str) = "total") ∧ ¬ (("undo" : Str) = "list") := by decide +kernel
noncomputable def doneF (wd : Str) (s : LkS) (ds : List PyData) : Out :=
  if wd = "balance" then op1 balF s ds else if wd = "spare" then op1 spareF s ds else if wd = "total" then .ok (.str (tnum (valsT s.t).sum)) s else if wd = "list" then .ok (.str (listS s)) s else tellO wd (callF wd s ds)
theorem done_call {wd : Str} {s : LkS} {ds : List PyData} (h : ¬ wd = "balance" ∧ ¬ wd = "spare" ∧ ¬ wd = "total" ∧ ¬ wd = "list") : doneF wd s ds = tellO wd (callF wd s ds) := by
  unfold doneF
  rw [if_neg h.1, if_neg h.2.1, if_neg h.2.2.1, if_neg h.2.2.2]
theorem outP_told {K : PySem.W.Frag} {C : Addr} {T : List (Addr × Str)} {X : LkX} {N : Addr → Prop} {H : Hp} {p q : Addr} {wd : Str} {o : Out} {Q Q' : VK} {E : XK} (h : OutP K C T X N H p q (tellO wd o) Q E)
    (g : ∀ r s' v H', o = .ok r s' → Db K N H' v r → Q (.str (tellR wd r)) H' → Q' v H') : OutP K C T X N H p q o Q' E := by
  cases o with
  | ok r s' => exact fun v H' k L d => g r s' v H' rfl d (h _ H' k L (.str _))
  | bad x v => cases x <;> exact h
theorem OutP.pre {K : PySem.W.Frag} {C : Addr} {T : List (Addr × Str)} {X : LkX} {N : Addr → Prop} {H H1 : Hp} {p q : Addr} {o : Out} {Q : VK} {E : XK} (h : OutP K C T X N H p q o Q E) (k : Kp [] H H1) : OutP K C T X N H1 p q o Q E := by
  cases o with
  | ok r s' => exact fun v H' k2 L d => h v H' ((Ks.of k.kt).trans k2) L d
  | bad x v => cases x <;> first | exact fun H' k2 => h H' (k.kt.trans k2) | exact fun u d H' k2 => h u d H' (k.kt.trans k2)
/-- what a link shows of itself is small -/
structure Shn (s : LkS) : Prop where
  val : ∀ n, 0 ≤ tval s.t n ∧ tval s.t n < 10000000000000000000000
  sum : 0 ≤ (valsT s.t).sum ∧ (valsT s.t).sum < 10000000000000000000000
def sp_l_link_text (K : PySem.W.Frag) (C : Addr) : Sp := fun vs H Q _ => ∃ (p q : Addr) (s : LkS), vs = [.ref p] ∧ LkAt C H p q s ∧ Good s ∧ (∀ n, 0 ≤ tval s.t n ∧ tval s.t n < 10000000000000000000000) ∧ ∀ H', Kp [] H H' → Q (.str (linkS s.b s.t)) H'
theorem link_len {s : LkS} (G : Good s) (hv : ∀ n, 0 ≤ tval s.t n ∧ tval s.t n < 10000000000000000000000) : ((headS s.b :: (nsT s.t).map fun n => rowS n (tval s.t n)).map fun x => x.length).sum + (headS s.b :: (nsT s.t).map fun n => rowS n (tval s.t n)).length * lineS.length ≤ 3000 := by
  have b1 := G.now.b1
  have b2 := G.now.b2
  have lN := nsT_len s.t
  have lG := G.now.len
  have lb := num_len (x := s.b) (by omega) (by omega)
  have lh : ("budget " : Str).length = 7 := by decide +kernel
  have h7 : ((headS s.b :: (nsT s.t).map fun n => rowS n (tval s.t n)).map fun x => x.length).sum ≤ (headS s.b :: (nsT s.t).map fun n => rowS n (tval s.t n)).length * 31 := by
    refine sum_len fun y hy => ?_
    rcases List.mem_cons.mp hy with e | hy
    · rw [e]
      unfold headS
      rw [len_app]
      omega
    · obtain ⟨n, hn, rfl⟩ := List.mem_map.mp hy
      have l8 := isNm_len (G.now.nm n ((srtN_perm _).mem_iff.mp hn))
      have lt := num_len (hv n).1 (hv n).2
      have l1 : (" " : Str).length = 1 := by decide +kernel
      unfold rowS
      rw [len_app, len_app]
      omega
  have h8 : (headS s.b :: (nsT s.t).map fun n => rowS n (tval s.t n)).length ≤ 41 := by
    rw [List.length_cons, List.length_map]
    omega
  have h9 : lineS.length = 1 := by decide +kernel
  rw [h9]
  omega
theorem ok__law_link_text {f C : Addr} {fd : FuncData} {k : Nat} {X : LkX} (F : Fun K "_law_link_text" "_law_link_text" s__law_link_text f fd) (LC : LinkC K C) (m_str : mg "str" = none) (m_sorted : mg "sorted" = none)
    (M_names : ClM P w K mg base CX0 1 C "names" (sp_Link_names K C)) (M_current_budget : ClM P w K mg base CX0 1 C "current_budget" (sp_Link_current_budget C)) (M_balance_of : ClM P w K mg base (L2.CX P w) 4 C "balance_of" (sp_Link_balance_of K C X)) :
    FnG P w K mg base CX0 (k + 5) f fd ["_law_link"] (sp_l_link_text K C) := by
  refine ok0 F sc__law_link_text (fun vs H Q E h => ?_) (fun cdv A outer s H vs Q E gd hr h => ?_)
  · obtain ⟨p, q, s, rfl, _⟩ := h
    rfl
  · obtain ⟨p, q, s, rfl, L, G, hv, out⟩ := h
    refine ⟨_, (pss_cons (ps_set (i := 1) sc__law_link_text.nd rfl (.inl rfl) (pe_la (pa_cons (pe_op op_add_str pe_str (pe_callTy call_str_int (by rfl) m_str (by decide +kernel) (pa_cons (pe_clM0 (E := fun _ _ _ _ => False) LC.cls M_current_budget (hr.mono (by omega)) gd passG (pv 0)) pa_nil))) pa_nil)))
      (pss_cons (ps_forW PassesOwn.never rfl (pi_list (pe_callB (cr_sortTS (K := K) rfl) (by rfl) m_sorted (by decide +kernel) (pa_cons (pe_clM0 (E := fun _ _ _ _ => False) LC.cls M_names (hr.mono (by omega)) gd passG (pv 0)) pa_nil))) (pg_name (i := 2) sc__law_link_text.nd rfl (.inl rfl))
      (pss_one (ps_expr (pe_bm PySem.F.plainAttrs_list PySem.F.slot_list_append PySem.F.type_list_append mt_app (pv 1) (pa_cons (pe_op op_add_str (pe_op op_add_str (pv 2) pe_str) (pe_callTy call_str_int (by rfl) m_str (by decide +kernel) (pa_cons (pe_clM (E := fun _ _ _ _ => False) LC.cls M_balance_of (hr.mono (by omega)) gd passFS (pv 0) (pa_cons (pv 2) pa_nil)) pa_nil))) pa_nil)))))
      (pss_one (ps_ret (pe_join pe_str (pv 1)))))), ?_⟩
    have lG := G.now.len
    have lN := nsT_len s.t
    have b1 := G.now.b1
    have b2 := G.now.b2
    have lb := num_len (x := s.b) (by omega) (by omega)
    have lh : ("budget " : Str).length = 7 := by decide +kernel
    refine ⟨_, rfl, at_z L z_current_budget ⟨p, q, s, rfl, L, ?_⟩⟩
    refine ⟨_, rfl, log_num (by omega) (by omega), ?_⟩
    have e1 : (Str.ofString (toString s.b)).length = (tnum s.b).length := rfl
    refine ⟨_, _, rfl, rfl, by rw [sizeLine_eq]; omega, ?_⟩
    refine ⟨Nat.le_of_ble_eq_true rfl, fun R H1 nR k1 hR => ?_⟩
    refine ⟨_, rfl, at_z (L.kp k1) z_names ⟨p, q, s, rfl, L.kp k1, lG, fun u H2 k2 hu => ?_⟩⟩
    refine ⟨u, nsT s.t, rfl, hu, fun ms pm so S H3 n3 k3 h3 => ?_⟩
    obtain rfl : ms = nsT s.t := srtN_of (pm.trans (srtN_perm _)) so
    have k13 := k2.trans k3
    have k03 := k1.trans k13
    have nSR : S ≠ R := fun z => by rw [z, k2.at0 hR] at n3; cases n3
    refine ⟨S, rfl, ⟨_, sqL h3⟩, _, _, _, walk_list (xs := (nsT s.t).map V.str), ?_⟩
    refine ⟨fun i σ H' => ∃ y2, σ = [some (.ref p), some (.ref R), y2] ∧ Kp [] H H' ∧ H' S = some (.lst ((nsT s.t).map V.str)) ∧ H' R = some (.lst ((headS s.b :: ((nsT s.t).take i).map fun n => rowS n (tval s.t n)).map V.str)), ⟨_, rfl, k03, h3, k13.at0 hR⟩, fun _ _ _ _ ⟨_, _, _, kk, _⟩ => sqL kk, ?_, ?_⟩
    · rintro i x σ _ H4 hi ⟨y2, rfl, k4, k34, hR4⟩ ⟨rfl, hx⟩
      obtain ⟨hi2, rfl⟩ := strs_get hx
      have hk := ns_in (t := s.t) (i := i) (by omega)
      have hv2 := hv ((nsT s.t).getD i default)
      have nm := G.now.nm _ hk
      have l8 := isNm_len nm
      have lt := num_len hv2.1 hv2.2
      have l1 : (" " : Str).length = 1 := by decide +kernel
      have L4 := L.kp k4
      refine ⟨_, rfl, .inl ⟨rfl, _, sqL hR4⟩, ?_⟩
      refine ⟨_, rfl, _, _, rfl, rfl, by rw [sizeLine_eq]; omega, ?_⟩
      refine ⟨_, rfl, at_z L4 z_balance_of ⟨_, rfl, tnil_z ?_⟩⟩
      refine bal_z nm hk L4 fun H5 k5 => ⟨_, rfl, log_num hv2.1 hv2.2, _, _, rfl, rfl, ?_, ?_⟩
      · rw [len_app, sizeLine_eq]
        have e : (Str.ofString (toString (tval s.t ((nsT s.t).getD i default)))).length = (tnum (tval s.t ((nsT s.t).getD i default))).length := rfl
        omega
      have nRf : H R = none := nR
      refine ⟨R, _, _, rfl, rfl, k5.at0 hR4, ?_, fun H6 m6 h6 => ?_⟩
      · rw [List.length_map, List.length_cons, List.length_map, List.length_take, sizeLine_eq]
        omega
      refine ⟨_, rfl, (k4.trans k5).md (.inl nR) m6, (m6 S nSR).trans (k5.at0 k34), ?_⟩
      rw [List.take_add_one, List.getElem?_eq_getElem hi2, h6, List.map_append]
      have e : (nsT s.t).getD i default = (nsT s.t)[i] := by rw [List.getD_eq_getElem?_getD, List.getElem?_eq_getElem hi2]; rfl
      rw [e, List.map_cons, List.map_cons, List.map_append]
      rfl
    rintro σ H4 ⟨y2, rfl, k4, k34, hR4⟩
    rw [List.length_map, List.take_of_length_le (Nat.le_refl _)] at hR4
    have le := link_len G hv
    have le1 : ("\n" : Str).length = lineS.length := rfl
    refine ⟨(⟨_, rfl⟩ : ∃ a, V.str "\n" = V.str a), ?_⟩
    refine ⟨_, rfl, _, R, _, rfl, rfl, .inl (sqL hR4), ?_, out H4 k4⟩
    rw [le1]
    omega
/-! ### drawn calls: what is asked -/
theorem joinL_len {s : List Nat} : ∀ ps : List (List Nat), (TL.joinL s ps).length ≤ (ps.map (·.length)).sum + ps.length * s.length
  | [] => Nat.zero_le _
  | [p] => by
    show p.length ≤ p.length + 0 + 1 * s.length
    omega
  | p :: q :: r => by
    have ih := joinL_len (s := s) (q :: r)
    show (p ++ (s ++ TL.joinL s (q :: r))).length ≤ p.length + ((q :: r).map (·.length)).sum + ((q :: r).length + 1) * s.length
    rw [List.length_append, List.length_append, Nat.add_mul]
    omega
theorem join_le (a : Str) (ys : List Str) : (Txt.join a ys).length ≤ (ys.map (·.length)).sum + ys.length * a.length := by
  have h := joinL_len (s := TL.tl a) (ys.map TL.tl)
  rw [len_tl, TL.join_eq, TL.tl_join]
  rw [List.length_map, List.map_map] at h
  rw [len_tl a]
  have e : ys.map (fun x => x.length) = ys.map ((fun x : List Nat => x.length) ∘ TL.tl) := List.map_congr_left fun y _ => len_tl y
  rw [e]
  exact h
theorem leave_ok {s s' : LkS} {d r : PyData} (h : op1 leaveF s [d] = .ok r s') : ∃ n, r = .int (tval s.t n) := by
  have h : leaveF s d = .ok r s' := h
  unfold leaveF at h
  split at h
  · cases h
  · rename_i n _
    unfold keepF at h
    cases h
    exact ⟨n, rfl⟩
theorem tick_ok {s s' : LkS} {d r : PyData} (h : op1 tickF s [d] = .ok r s') : r = .none ∨ ∃ n, r = .str n := by
  have h : tickF s d = .ok r s' := h
  unfold tickF at h
  repeat' split at h
  all_goals first
    | cases h; done
    | skip
  all_goals
    unfold keepF at h
    cases h
    unfold optS
    split
    all_goals first
      | exact .inr ⟨_, rfl⟩
      | exact .inl rfl
def sp_l_asked (K : PySem.W.Frag) (C : Addr) (T : List (Addr × Str)) (X : LkX) : Sp := fun vs H Q E => ∃ (p q a : Addr) (s : LkS) (wd : Str) (us : List V) (ds : List PyData) (N : Addr → Prop), vs = [.ref p, .str wd, .ref a] ∧ LkAt C H p q s ∧ Good s ∧ s.past.length ≤ 10000 ∧ Shn s ∧ Tabs T H ∧ SqT K H a us ∧ DbAll K N H us ds ∧ szA ds ≤ 1000000 ∧ N q ∧ ArA wd us.length ∧ OutP K C T X N H p q (doneF wd s ds) Q E
theorem a_balance_leave : ¬ (("balance" : Str) = "leave") := by decide +kernel
theorem a_spare_leave : ¬ (("spare" : Str) = "leave") := by decide +kernel
theorem a_spare_balance : ¬ (("spare" : Str) = "balance") := by decide +kernel
theorem a_total_leave : ¬ (("total" : Str) = "leave") := by decide +kernel
theorem a_total_balance : ¬ (("total" : Str) = "balance") := by decide +kernel
theorem a_total_spare : ¬ (("total" : Str) = "spare") := by decide +kernel
theorem a_list_leave : ¬ (("list" : Str) = "leave") := by decide +kernel
theorem a_list_balance : ¬ (("list" : Str) = "balance") := by decide +kernel
theorem a_list_spare : ¬ (("list" : Str) = "spare") := by decide +kernel
theorem a_list_total : ¬ (("list" : Str) = "total") := by decide +kernel
theorem a_tick_leave : ¬ (("tick" : Str) = "leave") := by decide +kernel
theorem ok__law_asked {f C : Addr} {fd : FuncData} {k : Nat} {T : List (Addr × Str)} {X : LkX} (F : Fun K "_law_asked" "_law_asked" s__law_asked f fd) (LC : LinkC K C) (m_str : mg "str" = none)
    (M_leave : ClM P w K mg base (L2.CX P w) 4 C "leave" (sp_op K C T X 1 (op1 leaveF))) (M_tick : ClM P w K mg base (L2.CX P w) 5 C "tick" (sp_op K C T X 1 (op1 tickF)))
    (M_balance_of : ClM P w K mg base (L2.CX P w) 4 C "balance_of" (sp_Link_balance_of K C X)) (M_spare_of : ClM P w K mg base (L2.CX P w) 4 C "spare_of" (sp_Link_spare_of K C X)) (M_total : ClM P w K mg base CX0 1 C "total" (sp_Link_total C)) (C_l_link_text : Cl P w K mg base CX0 5 "_law_link_text" 1 (sp_l_link_text K C)) :
    FnG P w K mg base (L2.CX P w) (k + 9) f fd ["_law_link", "_law_word", "_law_parts"] (sp_l_asked K C T X) := by
  refine okX F sc__law_asked (fun vs H Q E h => ?_) (fun cdv A outer s H vs Q E gd hr h => ?_)
  · obtain ⟨p, q, a, s, wd, us, ds, N, rfl, _⟩ := h
    rfl
  · obtain ⟨p, q, a, s0, wd, us, ds, N, rfl, L, G, hps, sh, hT, ha, hA, hz, nq, ar, out⟩ := h
    refine ⟨_, (pss_ifK (ptk_cmp op_eq (pv 1) (nomark _))
      (pss_one (ps_ret (pe_callTy call_str_int (by rfl) m_str (by decide +kernel) (pa_cons (pe_clM (E := fun _ => E) LC.cls M_leave (hr.mono (by omega)) gd (fun σ => passAt (W := fun cls d _ H => E cls d H) (takes_of rfl rfl rfl rfl) σ) (pv 0) (pa_cons (pe_ix (ix_taN (K := K) rfl) (pv 2) pe_int (fun _ _ => rfl)) pa_nil)) pa_nil))))
      pss_nil
      (L2.psst_cons (L2.PST.of (ps_if (pt_cmpR op_eq (pv 1) pe_str (nomark _))
      (pss_one (ps_ret (pe_callTy call_str_int (by rfl) m_str (by decide +kernel) (pa_cons (pe_clM (E := fun _ => E) LC.cls M_balance_of (hr.mono (by omega)) gd (fun σ => passAt (W := fun cls d _ H => E cls d H) (takes_of rfl rfl rfl rfl) σ) (pv 0) (pa_cons (pe_ix (ix_taN (K := K) rfl) (pv 2) pe_int (fun _ _ => rfl)) pa_nil)) pa_nil))))
      pss_nil))
      (L2.psst_cons (L2.PST.of (ps_if (pt_cmpR op_eq (pv 1) pe_str (nomark _))
      (pss_one (ps_ret (pe_callTy call_str_int (by rfl) m_str (by decide +kernel) (pa_cons (pe_clM (E := fun _ => E) LC.cls M_spare_of (hr.mono (by omega)) gd (fun σ => passAt (W := fun cls d _ H => E cls d H) (takes_of rfl rfl rfl rfl) σ) (pv 0) (pa_cons (pe_ix (ix_taN (K := K) rfl) (pv 2) pe_int (fun _ _ => rfl)) pa_nil)) pa_nil))))
      pss_nil))
      (L2.psst_cons (L2.PST.of (ps_if (pt_cmpR op_eq (pv 1) pe_str (nomark _))
      (pss_one (ps_ret (pe_callTy call_str_int (by rfl) m_str (by decide +kernel) (pa_cons (pe_clM0 (E := fun _ _ _ _ => False) LC.cls M_total (hr.mono (by omega)) gd passG (pv 0)) pa_nil))))
      pss_nil))
      (L2.psst_cons (CwR.pst_if (pt_cmpR op_eq (pv 1) pe_str (nomark _)) (CwR.psst_one (CwR.pst_ret (CwR.pet_replC (pe_cl C_l_link_text (hr.mono (by omega)) gd pass0 (by rfl) (pa_cons (pv 0) pa_nil))))) (L2.PSsT.of pss_nil))
      (L2.PSsT.of (pss_cons (ps_set (i := 3) sc__law_asked.nd rfl (.inl rfl) (pe_clM (E := fun _ => E) LC.cls M_tick (hr.mono (by omega)) gd (fun σ => passAt (W := fun cls d _ H => E cls d H) (takes_of rfl rfl rfl rfl) σ) (pv 0) (pa_cons (pe_ix (ix_taN (K := K) rfl) (pv 2) pe_int (fun _ _ => rfl)) pa_nil)))
      (pss_one (ps_ret (pe_ifP (pt_cmpR op_isN (pv 3) pe_non (nomark _)) pe_str (pv 3))))))))))), ?_⟩
    generalize hn : us.length = n at ar
    cases ar with
    | leave =>
      obtain ⟨x, dx, rfl, rfl, hx⟩ := one_of hn hA
      rw [done_call h_leave_balance, call_leave] at out
      refine ⟨_, rfl, rfl, _, rfl, ifYes rfl ?_⟩
      refine ⟨_, rfl, at_z L z_leave ⟨_, rfl, a, _, 0, _, rfl, rfl, ha, rfl, tnil_z ?_⟩⟩
      refine ⟨p, q, s0, N, _, _, rfl, rfl, L, G, hps, hT, hA, hz, nq, outP_told out fun r s' v H' e d w => ?_⟩
      obtain ⟨n, rfl⟩ := leave_ok e
      cases d
      exact ⟨_, rfl, log_num (sh.val n).1 (sh.val n).2, w⟩
    | balance =>
      obtain ⟨x, dx, rfl, rfl, hx⟩ := one_of hn hA
      rw [show doneF "balance" s0 [dx] = balF s0 dx from if_pos rfl] at out
      simp only [szA] at hz
      refine ⟨_, rfl, rfl, _, rfl, ifNo (ns a_balance_leave) ?_⟩
      refine ⟨_, rfl, rfl, _, rfl, ifYes rfl ?_⟩
      refine ⟨_, rfl, at_z L z_balance_of ⟨_, rfl, a, _, 0, _, rfl, rfl, ha, rfl, tnil_z ?_⟩⟩
      unfold balF at out
      refine ⟨p, q, s0, x, dx, N, rfl, L, hx, by omega, fun n en H1 k1 => ?_, fun en e H1 k1 ne => ?_⟩
      · rw [en] at out
        exact ⟨_, rfl, log_num (sh.val n).1 (sh.val n).2, out _ H1 (.of k1.kt) (L.kp k1) (.str _)⟩
      · rw [en] at out
        exact out x e H1 k1.kt (hx.stay k1.stay) ne
    | spare =>
      obtain ⟨x, dx, rfl, rfl, hx⟩ := one_of hn hA
      rw [show doneF "spare" s0 [dx] = spareF s0 dx from (if_neg a_spare_balance).trans (if_pos rfl)] at out
      simp only [szA] at hz
      refine ⟨_, rfl, rfl, _, rfl, ifNo (ns a_spare_leave) ?_⟩
      refine ⟨_, rfl, rfl, _, rfl, ifNo (ns a_spare_balance) ?_⟩
      refine ⟨_, rfl, rfl, _, rfl, ifYes rfl ?_⟩
      refine ⟨_, rfl, at_z L z_spare_of ⟨_, rfl, a, _, 0, _, rfl, rfl, ha, rfl, tnil_z ?_⟩⟩
      unfold spareF at out
      refine ⟨p, q, s0, x, dx, N, rfl, L, G, hx, by omega, fun n en m H1 k1 lb => ?_, fun en e H1 k1 ne => ?_⟩
      · rw [en] at out
        obtain ⟨hk, _⟩ := knownD_in en
        have b := lb_bound G.now hk lb
        have := (sh.val n).2
        refine ⟨_, rfl, log_num b.1 (by omega), ?_⟩
        have o := out (.str (tnum (tval s0.t n - lbZ s0.b s0.t n))) H1 (.of k1.kt) (L.kp k1) (.str _)
        rw [← lbZ_of lb] at o
        exact o
      · rw [en] at out
        exact out x e H1 k1.kt (hx.stay k1.stay) ne
    | total =>
      rw [show doneF "total" s0 ds = .ok (.str (tnum (valsT s0.t).sum)) s0 from (if_neg a_total_balance).trans ((if_neg a_total_spare).trans (if_pos rfl))] at out
      refine ⟨_, rfl, rfl, _, rfl, ifNo (ns a_total_leave) ?_⟩
      refine ⟨_, rfl, rfl, _, rfl, ifNo (ns a_total_balance) ?_⟩
      refine ⟨_, rfl, rfl, _, rfl, ifNo (ns a_total_spare) ?_⟩
      refine ⟨_, rfl, rfl, _, rfl, ifYes rfl ?_⟩
      refine ⟨_, rfl, at_z L z_total ⟨p, q, s0, rfl, L, G.now.nd, G.now.len, fun H1 k1 => ?_⟩⟩
      exact ⟨_, rfl, log_num sh.sum.1 sh.sum.2, out _ H1 (.of k1.kt) (L.kp k1) (.str _)⟩
    | list =>
      rw [show doneF "list" s0 ds = .ok (.str (listS s0)) s0 from (if_neg a_list_balance).trans ((if_neg a_list_spare).trans ((if_neg a_list_total).trans (if_pos rfl)))] at out
      refine ⟨_, rfl, rfl, _, rfl, ifNo (ns a_list_leave) ?_⟩
      refine ⟨_, rfl, rfl, _, rfl, ifNo (ns a_list_balance) ?_⟩
      refine ⟨_, rfl, rfl, _, rfl, ifNo (ns a_list_spare) ?_⟩
      refine ⟨_, rfl, rfl, _, rfl, ifNo (ns a_list_total) ?_⟩
      refine ⟨_, rfl, rfl, _, rfl, ifYes rfl ?_⟩
      refine ⟨_, rfl, p, q, s0, rfl, L, G, sh.val, fun H1 k1 => ⟨_, rfl, ?_, ?_⟩⟩
      · have le := link_len G sh.val
        have e1 : (linkS s0.b s0.t).length ≤ 3000 := Nat.le_trans (join_le lineS _) le
        have e2 : slashS.length = 3 := by decide +kernel
        have e3 : (" / " : Str).length = slashS.length := rfl
        rw [e3, e2]
        omega
      · exact out _ H1 (.of k1.kt) (L.kp k1) (.str _)
    | tick =>
      obtain ⟨x, dx, rfl, rfl, hx⟩ := one_of hn hA
      rw [done_call h_tick, call_tick] at out
      refine ⟨_, rfl, rfl, _, rfl, ifNo (ns a_tick_leave) ?_⟩
      refine ⟨_, rfl, rfl, _, rfl, ifNo (ns h_tick.1) ?_⟩
      refine ⟨_, rfl, rfl, _, rfl, ifNo (ns h_tick.2.1) ?_⟩
      refine ⟨_, rfl, rfl, _, rfl, ifNo (ns h_tick.2.2.1) ?_⟩
      refine ⟨_, rfl, rfl, _, rfl, ifNo (ns h_tick.2.2.2) ?_⟩
      refine ⟨_, rfl, at_z L z_tick ⟨_, rfl, a, _, 0, _, rfl, rfl, ha, rfl, tnil_z ?_⟩⟩
      refine ⟨p, q, s0, N, _, _, rfl, rfl, L, G, hps, hT, hA, hz, nq, outP_told out fun r s' v H' e d w => ?_⟩
      rcases tick_ok e with rfl | ⟨n, rfl⟩
      · cases d
        exact ⟨Q, ⟨_, rfl, rfl, _, rfl, ifYes rfl w⟩, fun _ _ z => z⟩
      · cases d
        exact ⟨Q, ⟨_, rfl, rfl, _, rfl, ifNo (fun z => nomatch z) ⟨_, rfl, w⟩⟩, fun _ _ z => z⟩
/-! ### drawn calls: done -/
structure Away (w : Str) : Prop where
  a : ¬ w = "enter"
  b : ¬ w = "deposit"
  c : ¬ w = "withdraw"
  d : ¬ w = "transfer"
  e : ¬ w = "budget"
  f : ¬ w = "undo"
theorem ArA.away {w : Str} {n : Nat} (h : ArA w n) : Away w := by
  cases h <;> exact ⟨by decide +kernel, by decide +kernel, by decide +kernel, by decide +kernel, by decide +kernel, by decide +kernel⟩
theorem tell_done {wd : Str} (h1 : ¬ wd = "leave") (h2 : ¬ wd = "tick") (r : PyData) : tellR wd r = "done" := by
  unfold tellR
  rw [if_neg h1, if_neg h2]
def sp_l_done (K : PySem.W.Frag) (C : Addr) (T : List (Addr × Str)) (X : LkX) : Sp := fun vs H Q E => ∃ (p q u : Addr) (s : LkS) (wd : Str) (us : List V) (ds : List PyData) (N : Addr → Prop), vs = [.ref p, .ref u] ∧ LkAt C H p q s ∧ Good s ∧ s.past.length ≤ 10000 ∧ Shn s ∧ Tabs T H ∧ SqT K H u (.str wd :: us) ∧ DbAll K N H us ds ∧ szA ds ≤ 1000000 ∧ N q ∧ ArH wd us.length ∧ OutP K C T X N H p q (doneF wd s ds) Q E
theorem ok__law_done {f C : Addr} {fd : FuncData} {k : Nat} {T : List (Addr × Str)} {X : LkX} (F : Fun K "_law_done" "_law_done" s__law_done f fd) (LC : LinkC K C)
    (M_enter : ClM P w K mg base (L2.CX P w) 8 C "enter" (sp_op K C T X 2 (op2 enterF))) (M_deposit : ClM P w K mg base (L2.CX P w) 5 C "deposit" (sp_op K C T X 2 (op2 depositF))) (M_withdraw : ClM P w K mg base (L2.CX P w) 8 C "withdraw" (sp_op K C T X 2 (op2 withdrawF))) (M_transfer : ClM P w K mg base (L2.CX P w) 8 C "transfer" (sp_op K C T X 3 (op3 transferF)))
    (M_set_budget : ClM P w K mg base (L2.CX P w) 8 C "set_budget" (sp_op K C T X 1 (op1 budgetF))) (M_undo : ClM P w K mg base (L2.CX P w) 1 C "undo" (sp_op K C T X 0 (fun s _ => undoF s))) (C_l_asked : Cl P w K mg base (L2.CX P w) 9 "_law_asked" 3 (sp_l_asked K C T X)) :
    FnG P w K mg base (L2.CX P w) (k + 10) f fd ["_law_link", "_law_wish_here"] (sp_l_done K C T X) := by
  refine okX F sc__law_done (fun vs H Q E h => ?_) (fun cdv A outer s H vs Q E gd hr h => ?_)
  · obtain ⟨p, q, u, s, wd, us, ds, N, rfl, _⟩ := h
    rfl
  · obtain ⟨p, q, u, s0, wd, us, ds, N, rfl, L, G, hps, sh, hT, hu, hA, hz, nq, ar, out⟩ := h
    refine ⟨_, (pss_cons (ps_par (by rfl) sc__law_done.nd (i := 2) (j := 3) rfl rfl (by decide) rfl rfl (pa_cons (pe_ix (ix_taN (K := K) rfl) (pv 1) pe_int (fun _ _ => rfl)) (pa_cons (pe_slice (sl_taFrom (K := K) rfl) (pv 1) (po_some pe_int) po_none) pa_nil)) (by rfl))
      (pss_cons (ps_if (pt_cmpR op_eq (pv 2) pe_str (nomark _))
      (pss_one (ps_expr (pe_clM (E := fun _ => E) LC.cls M_enter (hr.mono (by omega)) gd (fun σ => passAt (W := fun cls d _ H => E cls d H) (takes_of rfl rfl rfl rfl) σ) (pv 0) (pa_cons (pe_ix (ix_taN (K := K) rfl) (pv 3) pe_int (fun _ _ => rfl)) (pa_cons (pe_ix (ix_taN (K := K) rfl) (pv 3) pe_int (fun _ _ => rfl)) pa_nil)))))
      (pss_one (ps_if (pt_cmpR op_eq (pv 2) pe_str (nomark _))
      (pss_one (ps_expr (pe_clM (E := fun _ => E) LC.cls M_deposit (hr.mono (by omega)) gd (fun σ => passAt (W := fun cls d _ H => E cls d H) (takes_of rfl rfl rfl rfl) σ) (pv 0) (pa_cons (pe_ix (ix_taN (K := K) rfl) (pv 3) pe_int (fun _ _ => rfl)) (pa_cons (pe_ix (ix_taN (K := K) rfl) (pv 3) pe_int (fun _ _ => rfl)) pa_nil)))))
      (pss_one (ps_if (pt_cmpR op_eq (pv 2) pe_str (nomark _))
      (pss_one (ps_expr (pe_clM (E := fun _ => E) LC.cls M_withdraw (hr.mono (by omega)) gd (fun σ => passAt (W := fun cls d _ H => E cls d H) (takes_of rfl rfl rfl rfl) σ) (pv 0) (pa_cons (pe_ix (ix_taN (K := K) rfl) (pv 3) pe_int (fun _ _ => rfl)) (pa_cons (pe_ix (ix_taN (K := K) rfl) (pv 3) pe_int (fun _ _ => rfl)) pa_nil)))))
      (pss_one (ps_if (pt_cmpR op_eq (pv 2) pe_str (nomark _))
      (pss_one (ps_expr (pe_clM (E := fun _ => E) LC.cls M_transfer (hr.mono (by omega)) gd (fun σ => passAt (W := fun cls d _ H => E cls d H) (takes_of rfl rfl rfl rfl) σ) (pv 0) (pa_cons (pe_ix (ix_taN (K := K) rfl) (pv 3) pe_int (fun _ _ => rfl)) (pa_cons (pe_ix (ix_taN (K := K) rfl) (pv 3) pe_int (fun _ _ => rfl)) (pa_cons (pe_ix (ix_taN (K := K) rfl) (pv 3) pe_int (fun _ _ => rfl)) pa_nil))))))
      (pss_one (ps_if (pt_cmpR op_eq (pv 2) pe_str (nomark _))
      (pss_one (ps_expr (pe_clM (E := fun _ => E) LC.cls M_set_budget (hr.mono (by omega)) gd (fun σ => passAt (W := fun cls d _ H => E cls d H) (takes_of rfl rfl rfl rfl) σ) (pv 0) (pa_cons (pe_ix (ix_taN (K := K) rfl) (pv 3) pe_int (fun _ _ => rfl)) pa_nil))))
      (pss_one (ps_if (pt_cmpR op_eq (pv 2) pe_str (nomark _))
      (pss_one (ps_expr (pe_clM0 (E := fun _ => E) LC.cls M_undo (hr.mono (by omega)) gd (fun σ => passAt (W := fun cls d _ H => E cls d H) (takes_of rfl rfl rfl rfl) σ) (pv 0))))
      (pss_one (ps_ret (pe_clS (E := fun _ => E) C_l_asked (hr.mono (by omega)) gd (fun σ => passAt (W := fun cls d _ H => E cls d H) (takes_of rfl rfl rfl rfl) σ) (by rfl) (pa_cons (pv 0) (pa_cons (pv 2) (pa_cons (pv 3) pa_nil)))))))))))))))))
      (pss_one (ps_ret pe_str)))), ?_⟩
    refine ⟨_, rfl, u, _, 0, _, rfl, rfl, hu, rfl, ?_⟩
    refine ⟨_, rfl, 1, rfl, u, _, 1, rfl, rfl, rfl, hu, Nat.le_refl _, Nat.zero_lt_succ _, fun A1 H1 nA k1 hA1 => ?_⟩
    have ha : SqT K H1 A1 us := sqT hA1
    have L1 := L.kp k1
    have hT1 := k1.kt.tab hT
    have hA := hA.stay k1.stay
    have out := out.pre k1
    refine ⟨_, _, rfl, ?_⟩
    generalize hn : us.length = n at ar
    cases ar with
    | enter =>
      obtain ⟨x, y, dx, dy, rfl, rfl, hx, hy⟩ := two_of hn hA
      rw [done_call h_enter, call_enter] at out
      refine ⟨_, rfl, rfl, _, rfl, ifYes rfl ?_⟩
      refine ⟨_, rfl, at_z L1 z_enter ⟨_, rfl, A1, _, 0, _, rfl, rfl, ha, rfl, _, rfl, A1, _, 1, _, rfl, rfl, ha, rfl, tnil_z ?_⟩⟩
      refine ⟨p, q, s0, N, _, _, rfl, rfl, L1, G, hps, hT1, hA, hz, nq, outP_told out fun r s' v H' e d w => ?_⟩
      rw [tell_done (by decide +kernel) (by decide +kernel)] at w
      exact w
    | deposit =>
      obtain ⟨x, y, dx, dy, rfl, rfl, hx, hy⟩ := two_of hn hA
      rw [done_call h_deposit, call_deposit] at out
      refine ⟨_, rfl, rfl, _, rfl, ifNo (ns w_deposit_enter) ?_⟩
      refine ⟨_, rfl, rfl, _, rfl, ifYes rfl ?_⟩
      refine ⟨_, rfl, at_z L1 z_deposit ⟨_, rfl, A1, _, 0, _, rfl, rfl, ha, rfl, _, rfl, A1, _, 1, _, rfl, rfl, ha, rfl, tnil_z ?_⟩⟩
      refine ⟨p, q, s0, N, _, _, rfl, rfl, L1, G, hps, hT1, hA, hz, nq, outP_told out fun r s' v H' e d w => ?_⟩
      rw [tell_done (by decide +kernel) (by decide +kernel)] at w
      exact w
    | withdraw =>
      obtain ⟨x, y, dx, dy, rfl, rfl, hx, hy⟩ := two_of hn hA
      rw [done_call h_withdraw, call_withdraw] at out
      refine ⟨_, rfl, rfl, _, rfl, ifNo (ns w_withdraw_enter) ?_⟩
      refine ⟨_, rfl, rfl, _, rfl, ifNo (ns w_withdraw_deposit) ?_⟩
      refine ⟨_, rfl, rfl, _, rfl, ifYes rfl ?_⟩
      refine ⟨_, rfl, at_z L1 z_withdraw ⟨_, rfl, A1, _, 0, _, rfl, rfl, ha, rfl, _, rfl, A1, _, 1, _, rfl, rfl, ha, rfl, tnil_z ?_⟩⟩
      refine ⟨p, q, s0, N, _, _, rfl, rfl, L1, G, hps, hT1, hA, hz, nq, outP_told out fun r s' v H' e d w => ?_⟩
      rw [tell_done (by decide +kernel) (by decide +kernel)] at w
      exact w
    | transfer =>
      obtain ⟨x, y, z, dx, dy, dz, rfl, rfl, hx, hy, hz3⟩ := three_of hn hA
      rw [done_call h_transfer, call_transfer] at out
      refine ⟨_, rfl, rfl, _, rfl, ifNo (ns w_transfer_enter) ?_⟩
      refine ⟨_, rfl, rfl, _, rfl, ifNo (ns w_transfer_deposit) ?_⟩
      refine ⟨_, rfl, rfl, _, rfl, ifNo (ns w_transfer_withdraw) ?_⟩
      refine ⟨_, rfl, rfl, _, rfl, ifYes rfl ?_⟩
      refine ⟨_, rfl, at_z L1 z_transfer ⟨_, rfl, A1, _, 0, _, rfl, rfl, ha, rfl, _, rfl, A1, _, 1, _, rfl, rfl, ha, rfl, _, rfl, A1, _, 2, _, rfl, rfl, ha, rfl, tnil_z ?_⟩⟩
      refine ⟨p, q, s0, N, _, _, rfl, rfl, L1, G, hps, hT1, hA, hz, nq, outP_told out fun r s' v H' e d w => ?_⟩
      rw [tell_done (by decide +kernel) (by decide +kernel)] at w
      exact w
    | budget =>
      obtain ⟨x, dx, rfl, rfl, hx⟩ := one_of hn hA
      rw [done_call h_budget, call_budget] at out
      refine ⟨_, rfl, rfl, _, rfl, ifNo (ns w_budget_enter) ?_⟩
      refine ⟨_, rfl, rfl, _, rfl, ifNo (ns w_budget_deposit) ?_⟩
      refine ⟨_, rfl, rfl, _, rfl, ifNo (ns w_budget_withdraw) ?_⟩
      refine ⟨_, rfl, rfl, _, rfl, ifNo (ns w_budget_transfer) ?_⟩
      refine ⟨_, rfl, rfl, _, rfl, ifYes rfl ?_⟩
      refine ⟨_, rfl, at_z L1 z_set_budget ⟨_, rfl, A1, _, 0, _, rfl, rfl, ha, rfl, tnil_z ?_⟩⟩
      refine ⟨p, q, s0, N, _, _, rfl, rfl, L1, G, hps, hT1, hA, hz, nq, outP_told out fun r s' v H' e d w => ?_⟩
      rw [tell_done (by decide +kernel) (by decide +kernel)] at w
      exact w
    | undo =>
      rw [done_call h_undo, call_undo] at out
      refine ⟨_, rfl, rfl, _, rfl, ifNo (ns w_undo_enter) ?_⟩
      refine ⟨_, rfl, rfl, _, rfl, ifNo (ns w_undo_deposit) ?_⟩
      refine ⟨_, rfl, rfl, _, rfl, ifNo (ns w_undo_withdraw) ?_⟩
      refine ⟨_, rfl, rfl, _, rfl, ifNo (ns w_undo_transfer) ?_⟩
      refine ⟨_, rfl, rfl, _, rfl, ifNo (ns w_undo_budget) ?_⟩
      refine ⟨_, rfl, rfl, _, rfl, ifYes rfl ?_⟩
      refine ⟨_, rfl, at_z L1 z_undo ?_⟩
      refine ⟨p, q, s0, N, [], [], rfl, rfl, L1, G, hps, hT1, .nil, Nat.zero_le _, nq, outP_told out fun r s' v H' e d w => ?_⟩
      rw [tell_done (by decide +kernel) (by decide +kernel)] at w
      exact w
    | ask ar =>
      have aw := ar.away
      refine ⟨_, rfl, rfl, _, rfl, ifNo (ns aw.a) ?_⟩
      refine ⟨_, rfl, rfl, _, rfl, ifNo (ns aw.b) ?_⟩
      refine ⟨_, rfl, rfl, _, rfl, ifNo (ns aw.c) ?_⟩
      refine ⟨_, rfl, rfl, _, rfl, ifNo (ns aw.d) ?_⟩
      refine ⟨_, rfl, rfl, _, rfl, ifNo (ns aw.e) ?_⟩
      refine ⟨_, rfl, rfl, _, rfl, ifNo (ns aw.f) ?_⟩
      exact ⟨_, rfl, _, rfl, _, rfl, tnil_z ⟨p, q, A1, s0, wd, us, ds, N, rfl, L1, G, hps, sh, hT1, ha, hA, hz, nq, by rw [hn]; exact ar, out⟩⟩
/-! ### drawn calls: an error, told -/
structure XCmd (K : PySem.W.Frag) (mg : Str → Option Value) (X : LkX) (CM BT : Addr) : Prop where
  gC : mg "BadCommand" = some (.ref CM)
  gT : mg "BadText" = some (.ref BT)
  no : ∀ x : Ex, PySem.W.kitOne K (.ref (X.at_ x)) (.ref CM) = some false ∧ PySem.W.kitOne K (.ref (X.at_ x)) (.ref BT) = some false
def bitsY (x : Ex) : List Bool := [x.num == 1, x.num == 2, x.num == 7, x.num == 6, x.num == 9, false, false]
def erI : Ex → Nat
  | .taken => 0 | .unknown => 1 | .refused => 2 | .over => 3 | .undo => 4 | _ => 7
def erWs : List Str := ["taken", "unknown", "refused", "over", "nothing", "command", "text"]
def erW (x : Ex) : Str := if erI x < 5 then (erWs[erI x]?).getD "another" else "another"
def erV (x : Ex) (d : PyData) : PyData := if erI x < 4 then d else .none
theorem bitsY_count (x : Ex) : (((bitsY x).map V.bl).countP fun z => eqV z (.bl true)) = if erI x < 5 then 1 else 0 := by cases x <;> rfl
theorem bitsY_get (x : Ex) (h : erI x < 5) : (bitsY x)[erI x]? = some true := by cases x <;> first | rfl | exact absurd h (by decide)
theorem bitsY_no (x : Ex) (h : erI x < 5) : ∀ (i : Nat) (c : Bool), i < erI x → (bitsY x)[i]? = some c → c ≠ true := by
  intro i c hi e z
  subst z
  have h2 : ∀ y : Ex, erI y < 5 → ∀ n : Fin 5, n.val < erI y → (bitsY y)[n.val]? ≠ some true := by
    intro y
    cases y <;> decide
  exact h2 x h ⟨i, by omega⟩ hi e
theorem erW_get (x : Ex) (h : erI x < 5) : erWs[erI x]? = some (erW x) := by cases x <;> first | rfl | exact absurd h (by decide)
theorem erI_num (x : Ex) (h : erI x < 4) : x.num < 8 := by cases x <;> first | decide | exact absurd h (by decide)
theorem erW_no (x : Ex) (h : erI x < 5) : (erW x = "nothing" ↔ erI x = 4) := by
  cases x <;> first | exact absurd h (by decide) | exact ⟨fun z => absurd z (by decide +kernel), fun z => absurd z (by decide)⟩ | exact ⟨fun _ => rfl, fun _ => rfl⟩
theorem KeptO.md {H H' : Hp} {a D L : Addr} {d : Option Addr} {fs : List (Str × V)} (h : KeptO H a D d fs) (m : Md L H H') (n : ∀ xs, H L = some (.lst xs) → True) (hl : ∃ xs, H L = some (.lst xs)) : KeptO H' a D d fs := by
  obtain ⟨xs, e⟩ := hl
  refine ⟨(m a fun z => ?_).trans h.ob, fun q z => (m q fun w => ?_).trans (h.di q z)⟩
  · have := h.ob
    rw [z, e] at this
    cases this
  · have := h.di q z
    rw [w, e] at this
    cases this
def sp_l_err (K : PySem.W.Frag) (X : LkX) : Sp := fun vs H Q _ => ∃ (a : Addr) (x : Ex) (d : Option Addr) (fs : List (Str × V)) (v : V) (dv : PyData) (N : Addr → Prop), vs = [.ref a] ∧ KeptO H a (X.at_ x) d fs ∧ (x.num < 8 → (∃ q, d = some q) ∧ fs = [(("value" : Str), v)]) ∧ Db K N H v dv ∧
  ∀ v' H', Kp [] H H' → Db K N H' v' (.tuple [.str (erW x), erV x dv]) → Q v' H'
theorem ok__law_error {f CE CM BT : Addr} {fd : FuncData} {k : Nat} {X : LkX} (F : Fun K "_law_error" "_law_error" s__law_error f fd) (m_isinstance : mg "isinstance" = none) (m_ValueError : mg "ValueError" = none) (UX : XAll K mg X CE) (XC : XCmd K mg X CM BT) :
    FnG P w K mg base CX0 (k + 1) f fd ["_law_caught"] (sp_l_err K X) := by
  refine ok0 F sc__law_error (fun vs H Q E h => ?_) (fun cdv A outer s H vs Q E gd hr h => ?_)
  · obtain ⟨a, _, _, _, _, _, _, rfl, _⟩ := h
    rfl
  · obtain ⟨a, x, d, fs, v, dv, N, rfl, ko, hv, hd, q⟩ := h
    refine ⟨_, (pss_cons (ps_set (i := 1) sc__law_error.nd rfl (.inl rfl) (pe_la (pa_cons (pe_callB (call_isKO (K := K) rfl) (by rfl) m_isinstance (by decide +kernel) (pa_cons (pv 0) (pa_cons (pe_glob (v := .ref X.taken) (by rfl) UX.gTa rfl) pa_nil))) (pa_cons (pe_callB (call_isKO (K := K) rfl) (by rfl) m_isinstance (by decide +kernel) (pa_cons (pv 0) (pa_cons (pe_glob (v := .ref X.unknown) (by rfl) UX.gUn rfl) pa_nil))) (pa_cons (pe_callB (call_isKO (K := K) rfl) (by rfl) m_isinstance (by decide +kernel) (pa_cons (pv 0) (pa_cons (pe_glob (v := .ref X.refused) (by rfl) UX.gRe rfl) pa_nil))) pa_nil)))))
      (pss_cons (ps_set (i := 1) sc__law_error.nd rfl (.inl rfl) (pe_op op_catLA (pv 1) (pe_la (pa_cons (pe_callB (call_isKO (K := K) rfl) (by rfl) m_isinstance (by decide +kernel) (pa_cons (pv 0) (pa_cons (pe_glob (v := .ref X.over) (by rfl) UX.gOv rfl) pa_nil))) (pa_cons (pe_callB (call_isKO (K := K) rfl) (by rfl) m_isinstance (by decide +kernel) (pa_cons (pv 0) (pa_cons (pe_glob (v := .ref X.undo) (by rfl) UX.gUd rfl) pa_nil))) (pa_cons (pe_callB (call_isKO (K := K) rfl) (by rfl) m_isinstance (by decide +kernel) (pa_cons (pv 0) (pa_cons (pe_glob (v := .ref CM) (by rfl) XC.gC rfl) pa_nil))) pa_nil))))))
      (pss_cons (ps_expr (pe_bm PySem.F.plainAttrs_list PySem.F.slot_list_append PySem.F.type_list_append mt_app (pv 1) (pa_cons (pe_callB (call_isKO (K := K) rfl) (by rfl) m_isinstance (by decide +kernel) (pa_cons (pv 0) (pa_cons (pe_glob (v := .ref BT) (by rfl) XC.gT rfl) pa_nil))) pa_nil)))
      (pss_cons (ps_if (PW.pt (pw_or (pt_cmpR op_ne (pe_bm PySem.F.plainAttrs_list PySem.F.slot_list_count PySem.F.type_list_count (mt_countF (K := K) rfl) (pv 1) (pa_cons pe_bl pa_nil)) pe_int (nomark _)) (pw_or1 (pt_not (pt_val (pe_callB (call_isKO (K := K) rfl) (by rfl) m_isinstance (by decide +kernel) (pa_cons (pv 0) (pa_cons (pe_bltn (v := .ty "ValueError") (by rfl) m_ValueError rfl rfl) pa_nil))))))))
      (pss_one (ps_ret (pe_ta (pa_cons pe_str (pa_cons pe_non pa_nil)))))
      pss_nil)
      (pss_cons (ps_set (i := 2) sc__law_error.nd rfl (.inl rfl) (pe_ix (ix_la (K := K) rfl) (pe_la (pa_cons pe_str (pa_cons pe_str (pa_cons pe_str (pa_cons pe_str (pa_cons pe_str (pa_cons pe_str (pa_cons pe_str pa_nil)))))))) (pe_bm PySem.F.plainAttrs_list PySem.F.slot_list_index PySem.F.type_list_index (mt_indexB (K := K) rfl) (pv 1) (pa_cons pe_bl pa_nil)) (fun _ _ => rfl)))
      (pss_one (ps_ret (pe_ta (pa_cons (pv 2) (pa_cons (pe_ifP (pt_cmpR op_eq (pv 2) pe_str (nomark _)) pe_non (pe_kf (K := K) rfl (pv 0))) pa_nil)))))))))), ?_⟩
    have O := UX.one x
    have OC := XC.no x
    refine ⟨_, rfl, a, _, d, fs, .ref X.taken, .ref X.taken, _, O.e, ko, rfl, (fun _ r => r), O.kit .taken, ?_⟩
    refine ⟨_, rfl, a, _, d, fs, .ref X.unknown, .ref X.unknown, _, O.e, ko, rfl, (fun _ r => r), O.kit .unknown, ?_⟩
    refine ⟨_, rfl, a, _, d, fs, .ref X.refused, .ref X.refused, _, O.e, ko, rfl, (fun _ r => r), O.kit .refused, ?_⟩
    refine ⟨Nat.le_of_ble_eq_true rfl, fun L1 H2 n2 k2 hL1 => ?_⟩
    have ko2 := ko.kp k2
    refine ⟨_, rfl, _, rfl, a, _, d, fs, .ref X.over, .ref X.over, _, O.e, ko2, rfl, (fun _ r => r), O.kit .over, ?_⟩
    refine ⟨_, rfl, a, _, d, fs, .ref X.undo, .ref X.undo, _, O.e, ko2, rfl, (fun _ r => r), O.kit .undo, ?_⟩
    refine ⟨_, rfl, a, _, d, fs, .ref CM, .ref CM, _, O.e, ko2, rfl, (fun _ r => r), OC.1, ?_⟩
    refine ⟨Nat.le_of_ble_eq_true rfl, fun L2 H3 n3 k3 hL2 => ?_⟩
    refine ⟨L1, L2, _, _, rfl, rfl, k3.at0 hL1, hL2, Nat.le_of_ble_eq_true rfl, fun L3 H4 n4 k4 hL3 => ?_⟩
    have ko4 := (ko2.kp k3).kp k4
    refine ⟨_, rfl, .inl ⟨rfl, _, sqL hL3⟩, ?_⟩
    refine ⟨_, rfl, a, _, d, fs, .ref BT, .ref BT, _, O.e, ko4, rfl, (fun _ r => r), OC.2, ?_⟩
    refine ⟨L3, _, _, rfl, rfl, hL3, Nat.lt_of_lt_of_le (by decide : 6 < 7) (by rw [sizeLine_eq]; decide), fun H5 m5 h5 => ?_⟩
    have ko5 := ko4.md m5 (fun _ _ => trivial) ⟨_, hL3⟩
    have hL : H5 L3 = some (.lst ((bitsY x).map V.bl)) := h5
    have k05 : Kp [] H H5 := (k2.trans (k3.trans k4)).md (.inl ((k2.trans k3).free0 n4)) m5
    refine ⟨_, rfl, .inl ⟨rfl, _, sqL hL⟩, L3, _, .bl true, rfl, rfl, sqL hL, rfl, rfl, ?_⟩
    rw [bitsY_count]
    by_cases h5 : erI x < 5
    · rw [if_pos h5]
      refine ⟨rfl, _, rfl, ifNe rfl ?_⟩
      refine ⟨_, rfl, a, _, d, _, .ty "ValueError", .type "ValueError", true, O.e, ko5, rfl, (fun _ r => r), O.kv, _, rfl, ?_⟩
      refine (show if (!true) = true then _ else _ from iteF ?_)
      refine ⟨Nat.le_of_ble_eq_true rfl, fun W H6 n6 k6 hW => ?_⟩
      have hL6 := k6.at0 hL
      refine ⟨_, rfl, .inl ⟨rfl, _, sqL hL6⟩, L3, bitsY x, true, erI x, rfl, rfl, sqL hL6, bitsY_get x h5, bitsY_no x h5, ?_⟩
      refine ⟨W, _, erI x, .str (erW x), rfl, rfl, sqL hW, ?_, ?_⟩
      · show (erWs.map V.str)[erI x]? = _
        rw [List.getElem?_map, erW_get x h5]
        rfl
      have ko6 := ko5.kp k6
      have hd6 : Db K N H6 v dv := hd.stay (k05.trans k6).stay
      refine ⟨_, rfl, fun v1 H1 => H1 = H6 ∧ Db K N H6 v1 (erV x dv), ⟨_, rfl, rfl, _, rfl, ?_⟩, ?_⟩
      · by_cases h4 : erI x = 4
        · refine ifYes (congrArg V.str ((erW_no x h5).mpr h4)) ⟨rfl, ?_⟩
          rw [show erV x dv = .none from if_neg (by omega)]
          exact .non
        · have h8 := erI_num x (by omega)
          obtain ⟨⟨dd, rfl⟩, rfl⟩ := hv h8
          refine ifNo (fun z => h4 ((erW_no x h5).mp (V.str.inj z))) ⟨_, rfl, a, _, dd, _, v, rfl, ⟨O.e.hg, O.e.hk, O.e.hs, O.e.hd⟩, O.no h8, ko6.kept, rfl, rfl, ?_⟩
          rw [show erV x dv = dv from if_pos (by omega)]
          exact hd6
      · rintro v1 _ ⟨rfl, e1⟩
        refine ⟨Nat.le_of_ble_eq_true rfl, fun t H7 nt k7 h7 => ?_⟩
        exact q (.ref t) H7 ((k05.trans k6).trans k7) (.tup (sqT h7) (.cons (.str _) (.cons (e1.stay k7.stay) .nil)))
    · rw [if_neg h5]
      refine ⟨rfl, _, rfl, ifNeY (by decide) ?_⟩
      refine ⟨Nat.le_of_ble_eq_true rfl, fun t H7 nt k7 h7 => ?_⟩
      have e := q (.ref t) H7 (k05.trans k7)
      rw [show erW x = "another" from if_neg h5, show erV x dv = .none from if_neg (by omega)] at e
      exact e (.tup (sqT h7) (.cons (.str _) (.cons .non .nil)))
/-! ### drawn calls: met -/
def CauM (K : PySem.W.Frag) (X : LkX) (Q : VK) : XK := fun cls d H' => ∃ (x : Ex) (v : V) (dv : PyData) (N : Addr → Prop), cls = .ref (X.at_ x) ∧ (x.num < 8 → ∃ dd, d = some dd ∧ H' dd = some (.xd [("value", v)])) ∧ (8 ≤ x.num → d = none) ∧ Db K N H' v dv ∧
  ∀ v3 H3, Kp [] H' H3 → Db K N H3 v3 (.tuple [.str (erW x), erV x dv]) → Q v3 H3
def TTmet (K : PySem.W.Frag) (X : LkX) : (XK → Hp → VK → Prop) → Hp → VK → Prop := fun tl H Q => tl (CauM K X Q) H (fun v H1 => ∀ u H2, Kp [] H1 H2 → H2 u = some (.tup [.str "returns", v]) → Q (.ref u) H2)
theorem hands__law_met {k : Nat} {CE : Addr} {X : LkX} (UX : XAll K mg X CE) (C_l_error : Cl P w K mg base CX0 1 "_law_error" 1 (sp_l_err K X)) :
    Hands P w K mg base (k + 1) "_law_met" "_law_ask" ["_law_ask", "_law_caught", "error"] s__law_met (TTmet K X) := by
  intro g cdg A outer s H Q f c' q tl hgd room act hc h
  refine ⟨_, pss_cons (ps_set (i := 1) sc__law_met.nd rfl (.inl rfl) pe_non) (pss_cons (ps_try_keep (i := 2) rfl rfl rfl sc__law_met.nd rfl rfl (by rfl) UX.gE (by decide)
      (fun W pn xe tk _ => pss_one (ps_ret (pe_ta (pa_cons pe_str (pa_cons (act W pn xe _ _ tk) pa_nil)))))
      (fun a oe cls d pn hz hf => pss_one (ps_set (i := 1) sc__law_met.nd rfl (.inl rfl) (pv 2))))
    (pss_one (ps_ret (pe_cl C_l_error (room.mono (by omega)) hgd pass0 (by rfl) (pa_cons (pv 1) pa_nil))))), ?_⟩
  refine ⟨rfl, hc, CauM K X Q, (fun v H1 => ∀ u H2, Kp [] H1 H2 → H2 u = some (.tup [.str "returns", v]) → Q (.ref u) H2), ?_, fun v H1 qq => ⟨Nat.le_of_ble_eq_true rfl, fun L H2 n k h2 => qq L H2 k h2⟩, h⟩
  rintro cls d H' ⟨x, v, dv, N, rfl, hv, hn, hd, wv⟩
  have O := UX.one x
  refine ⟨O.te, fun a ha => ?_⟩
  refine ⟨_, rfl, fun ha2 => ?_⟩
  have k2 : Kp [] H' (upd H' a (ExK (.ref (X.at_ x)) d a)) := Kp.new ha2
  by_cases h8 : x.num < 8
  · obtain ⟨dd, rfl, hdd⟩ := hv h8
    have nda : dd ≠ a := ne_of_none hdd ha2
    have hk : KeptO (upd H' a (ExK (.ref (X.at_ x)) (some dd) a)) a (X.at_ x) (some dd) [(("value" : Str), v)] := ⟨upd_same, fun q z => by cases z; exact (upd_ne nda).trans hdd⟩
    exact ⟨_, rfl, a, x, _, _, v, dv, N, rfl, hk, (fun _ => ⟨⟨_, rfl⟩, rfl⟩), hd.stay k2.stay, fun v3 H3 k3 d3 => wv v3 H3 (k2.trans k3) d3⟩
  · obtain rfl := hn (by omega)
    have hk : KeptO (upd H' a (ExK (.ref (X.at_ x)) none a)) a (X.at_ x) none [] := ⟨upd_same, fun q z => nomatch z⟩
    exact ⟨_, rfl, a, x, _, _, v, dv, N, rfl, hk, (fun z => absurd z h8), hd.stay k2.stay, fun v3 H3 k3 d3 => wv v3 H3 (k2.trans k3) d3⟩
/-! ### drawn calls: the draws -/
def drawN : List Str := ["a", "b", "c", "dd", "e", "abcdefgh"]
theorem drawN_nm : ∀ x ∈ drawN, isNm x = true := by decide +kernel
/-- a word and its parts, as a call takes them -/
structure WishH (K : PySem.W.Frag) (H : Hp) (u : Addr) (wd : Str) (us : List V) (ds : List PyData) : Prop where
  pair : SqT K H u (.str wd :: us)
  db : ∀ N, DbAll K N H us ds
  ar : ArH wd us.length
  ok : ArgsOk 5 20000 ds
  few : ∀ es, PyData.tuple es ∈ ds → es.length ≤ 60
  sz : szA ds ≤ 1000000
  amt : ∀ i, PyData.int i ∈ ds → i ≤ 10000000000
  new : wd = "enter" → ∃ n ∈ drawN, ds.head? = some (.str n)
def sp_l_name (K : PySem.W.Frag) : Sp := fun vs H Q _ => ∃ (a : Addr) (n : Nat), vs = [.ref a] ∧ Hand H a n ∧ n ≤ 2 ^ 47 ∧ ∀ x H', Kp [a] H H' → Hand H' a (n + 1) → x ∈ drawN → Q (.str x) H'
theorem ok__law_name {f : Addr} {fd : FuncData} {k : Nat} (F : Fun K "_law_name" "_law_name" s__law_name f fd) (C_l_of : Cl P w K mg base CX0 2 "_law_of" 2 (sp_l_of K)) :
    FnG P w K mg base CX0 (k + 3) f fd ["_law_hand_here"] (sp_l_name K) := by
  refine ok0 F sc__law_name (fun vs H Q E h => ?_) (fun cdv A outer s H vs Q E gd hr h => ?_)
  · obtain ⟨a, n, rfl, _⟩ := h
    rfl
  · obtain ⟨a, n, rfl, hd, hn, q⟩ := h
    refine ⟨_, (pss_one (ps_ret (pe_cl C_l_of (hr.mono (by omega)) gd pass0 (by rfl) (pa_cons (pv 0) (pa_cons (pe_la (pa_cons pe_str (pa_cons pe_str (pa_cons pe_str (pa_cons pe_str (pa_cons pe_str (pa_cons pe_str pa_nil))))))) pa_nil))))), ?_⟩
    refine ⟨_, rfl, Nat.le_of_ble_eq_true rfl, fun S H1 nS k1 hS => ?_⟩
    have nSa : S ≠ a := fun z => hd.ne nS z.symm
    refine ⟨a, S, n, drawN.map V.str, rfl, hd.kp0 k1, by omega, nSa, .inl (sqL hS), by decide, by decide, fun v H2 k2 hd2 hv => ?_⟩
    obtain ⟨x, hx, rfl⟩ := List.mem_map.mp hv
    exact q x H2 (k1.wide.trans k2) hd2 hx
def sp_l_amount (K : PySem.W.Frag) : Sp := fun vs H Q _ => ∃ (a : Addr) (n : Nat), vs = [.ref a] ∧ Hand H a n ∧ n ≤ 2 ^ 47 ∧ ∀ i H', Kp [a] H H' → Hand H' a (n + 2) → 0 ≤ i → i ≤ 10000000000 → Q (.int i) H'
theorem ok__law_amount {f : Addr} {fd : FuncData} {k : Nat} (F : Fun K "_law_amount" "_law_amount" s__law_amount f fd) (C_l_take : Cl P w K mg base CX0 1 "_law_take" 2 (sp_l_take K)) (C_l_of : Cl P w K mg base CX0 2 "_law_of" 2 (sp_l_of K)) :
    FnG P w K mg base CX0 (k + 3) f fd ["_law_hand_here"] (sp_l_amount K) := by
  refine ok0 F sc__law_amount (fun vs H Q E h => ?_) (fun cdv A outer s H vs Q E gd hr h => ?_)
  · obtain ⟨a, n, rfl, _⟩ := h
    rfl
  · obtain ⟨a, n, rfl, hd, hn, q⟩ := h
    refine ⟨_, (pss_one (ps_ret (pe_cl C_l_of (hr.mono (by omega)) gd pass0 (by rfl) (pa_cons (pv 0) (pa_cons (pe_li (pa_cons pe_int (pa_cons pe_int (pa_cons pe_int (pa_cons pe_int (pa_cons pe_int (pa_cons pe_int (pa_cons pe_int (pa_cons pe_int (pa_cons (pe_cl C_l_take (hr.mono (by omega)) gd pass0 (by rfl) (pa_cons (pv 0) (pa_cons pe_int pa_nil))) (pa_cons (pe_op op_pow pe_int pe_int) pa_nil))))))))))) pa_nil))))), ?_⟩
    refine ⟨_, rfl, _, rfl, a, n, 60, rfl, hd, by omega, by decide, by decide, fun d H1 k1 hd1 d0 d1 => ?_⟩
    refine ⟨_, _, rfl, rfl, ⟨by decide, by decide⟩, [0, 1, 2, 3, 5, 8, 13, 20, d, 10 ^ (10 : Int).toNat], rfl, Nat.le_of_ble_eq_true rfl, fun S H2 nS k2 hS => ?_⟩
    have nSa : S ≠ a := fun z => hd1.ne nS z.symm
    refine ⟨a, S, n + 1, _, rfl, hd1.kp0 k2, by omega, nSa, .inl (sqL hS), Nat.le_of_ble_eq_true rfl, Nat.le_of_ble_eq_true rfl, fun v H3 k3 hd3 hv => ?_⟩
    obtain ⟨x, hx, rfl⟩ := List.mem_map.mp hv
    have e : (10 : Int) ^ (10 : Int).toNat = 10000000000 := by decide +kernel
    have b : 0 ≤ x ∧ x ≤ 10000000000 := by
      rw [e] at hx
      simp only [List.mem_cons, List.not_mem_nil, or_false] at hx
      omega
    exact q x H3 (k1.trans (k2.wide.trans k3)) hd3 b.1 b.2
def sp_l_spends (K : PySem.W.Frag) : Sp := fun vs H Q _ => ∃ (a : Addr) (n : Nat) (b : Int), vs = [.ref a, .int b] ∧ Hand H a n ∧ n ≤ 2 ^ 46 ∧ 1 ≤ b ∧ b ≤ 1000000 ∧
  ∀ u H' xs l, Kp [a] H H' → Hand H' a (n + 100) → SqT K H' u xs → SpL K H' xs l → l.length ≤ 6 → (∀ p ∈ l, isNm p.1 = true ∧ 0 ≤ p.2 ∧ p.2 ≤ 1000001) → Q (.ref u) H'
def spN : List Str := ["a", "abcdefgh", "b", "c", "dd", "e"]
theorem spN_nm : ∀ x ∈ spN, isNm x = true := by decide +kernel
theorem ok__law_spends {f : Addr} {fd : FuncData} {k : Nat} (F : Fun K "_law_spends" "_law_spends" s__law_spends f fd) (m_max : mg "max" = none) (m_tuple : mg "tuple" = none) (C_l_take : Cl P w K mg base CX0 1 "_law_take" 2 (sp_l_take K)) (C_l_of : Cl P w K mg base CX0 2 "_law_of" 2 (sp_l_of K)) :
    FnG P w K mg base CX0 (k + 3) f fd ["_law_hand_here", "_law_budget"] (sp_l_spends K) := by
  refine ok0 F sc__law_spends (fun vs H Q E h => ?_) (fun cdv A outer s H vs Q E gd hr h => ?_)
  · obtain ⟨a, n, b, rfl, _⟩ := h
    rfl
  · obtain ⟨a, n, b, rfl, hd, hn, b1, b2, q⟩ := h
    refine ⟨_, (pss_cons (ps_par (by rfl) sc__law_spends.nd (i := 2) (j := 3) rfl rfl (by decide) rfl rfl (pa_cons (pe_li pa_nil) (pa_cons (pv 1) pa_nil)) (by rfl))
      (pss_cons (ps_forW PassesOwn.never rfl (pi_list (pe_la (pa_cons pe_str (pa_cons pe_str (pa_cons pe_str (pa_cons pe_str (pa_cons pe_str (pa_cons pe_str pa_nil)))))))) (pg_name (i := 4) sc__law_spends.nd rfl (.inl rfl))
      (pss_one (ps_if (pt_cmpR op_eq (pe_cl C_l_take (hr.mono (by omega)) gd pass0 (by rfl) (pa_cons (pv 0) (pa_cons pe_int pa_nil))) pe_int (nomark _))
      (pss_cons (ps_set (i := 5) sc__law_spends.nd rfl (.inl rfl) (pe_cl C_l_of (hr.mono (by omega)) gd pass0 (by rfl) (pa_cons (pv 0) (pa_cons (pe_li (pa_cons pe_int (pa_cons pe_int (pa_cons (pv 3) (pa_cons (pe_cl C_l_take (hr.mono (by omega)) gd pass0 (by rfl) (pa_cons (pv 0) (pa_cons (pe_op op_add (pv 3) pe_int) pa_nil))) (pa_cons (pe_op op_add (pv 1) pe_int) pa_nil)))))) pa_nil))))
      (pss_cons (ps_expr (pe_bm PySem.F.plainAttrs_list PySem.F.slot_list_append PySem.F.type_list_append mt_app (pv 2) (pa_cons (pe_ta (pa_cons (pv 4) (pa_cons (pv 5) pa_nil))) pa_nil)))
      (pss_one (ps_set (i := 3) sc__law_spends.nd rfl (.inl rfl) (pe_callB (call_max2 rfl) (by rfl) m_max (by decide +kernel) (pa_cons pe_int (pa_cons (pe_op op_sub (pv 3) (pv 5)) pa_nil)))))))
      pss_nil)))
      (pss_one (ps_ret (pe_callTy (call_tupLK (K := K) rfl) (by rfl) m_tuple (by decide +kernel) (pa_cons (pv 2) pa_nil)))))), ?_⟩
    refine ⟨[], rfl, Nat.zero_le _, fun FO H1 n1 k1 h1 => ?_⟩
    refine ⟨_, rfl, _, _, rfl, ?_⟩
    refine ⟨Nat.le_of_ble_eq_true rfl, fun S H2 n2 k2 hS => ?_⟩
    have hS : H2 S = some (.lst (spN.map V.str)) := hS
    have k02 := k1.trans k2
    have nFa : FO ≠ a := fun z => hd.ne n1 z.symm
    have nSa : S ≠ a := fun z => (hd.kp0 k1).ne n2 z.symm
    have nSF : S ≠ FO := fun z => by rw [z, h1] at n2; cases n2
    refine ⟨S, rfl, ⟨_, sqL hS⟩, _, _, _, walk_list (xs := spN.map V.str), ?_⟩
    refine ⟨fun i σ H' => ∃ (y4 y5 : Option V) (xs : List V) (l : List (Str × Int)) (lf : Int), σ = [some (.ref a), some (.int b), some (.ref FO), some (.int lf), y4, y5] ∧ Kp [a] H H' ∧ Hand H' a (n + i * 10) ∧ H' FO = some (.lst xs) ∧ H' S = some (.lst (spN.map V.str)) ∧ SpL K H' xs l ∧ l.length ≤ i ∧ (∀ p ∈ l, isNm p.1 = true ∧ 0 ≤ p.2 ∧ p.2 ≤ 1000001) ∧ 0 ≤ lf ∧ lf ≤ b,
      ⟨_, _, [], [], b, rfl, k02.wide, (hd.kp0 k02).mono (by omega), k2.at0 h1, hS, .nil, Nat.zero_le _, (fun _ z => nomatch z), by omega, by omega⟩, fun _ _ _ _ ⟨_, _, _, _, _, _, _, _, _, z, _⟩ => sqL z, ?_, ?_⟩
    · rintro i x σ _ H3 hi ⟨y4, y5, xs, l, lf, rfl, k3, hd3, hF3, hS3, sp3, ll, bl, f0, f1⟩ ⟨rfl, hx⟩
      obtain ⟨hi2, rfl⟩ := strs_get hx
      have hi6 : i < 6 := hi2
      have xm : spN.getD i default ∈ spN := by
        rw [List.getD_eq_getElem?_getD, List.getElem?_eq_getElem hi2]
        exact List.getElem_mem _
      generalize spN.getD i default = nm at xm
      refine ⟨_, rfl, a, _, 3, rfl, hd3, by omega, by decide, by decide, fun d H4 k4 hd4 d0 d1 => ?_⟩
      have hF4 := k4.at1 nFa hF3
      have hS4 := k4.at1 nSa hS3
      have sp4 := sp3.keepS fun p ys h => hd3.tup k4 h
      refine ⟨rfl, _, rfl, ?_⟩
      by_cases hz : d = 0
      · refine ifYes (congrArg V.int hz) ?_
        refine ⟨_, rfl, _, rfl, _, rfl, _, rfl, _, _, rfl, rfl, tnil_z ?_⟩
        refine ⟨a, _, lf + 1, rfl, hd4, by omega, by omega, by omega, fun e H5 k5 hd5 e0 e1 => ?_⟩
        refine ⟨_, rfl, _, _, rfl, rfl, [0, 1, lf, e, b + 1], rfl, Nat.le_of_ble_eq_true rfl, fun D H6 n6 k6 hD => tnil_z ?_⟩
        have nDa : D ≠ a := fun z => hd5.ne n6 z.symm
        have hF5 := k5.at1 nFa hF4
        have hS5 := k5.at1 nSa hS4
        have sp5 := sp4.keepS fun p ys h => hd4.tup k5 h
        have hF6 := k6.at0 hF5
        have hS6 := k6.at0 hS5
        have sp6 := sp5.keepS fun p ys h => k6.tup0 h
        have hd6 := hd5.kp0 k6
        refine ⟨a, D, _, _, rfl, hd6, by omega, nDa, .inl (sqL hD), Nat.le_of_ble_eq_true rfl, Nat.le_of_ble_eq_true rfl, fun v H7 k7 hd7 hv => ?_⟩
        obtain ⟨am, hx, rfl⟩ := List.mem_map.mp hv
        have ab : 0 ≤ am ∧ am ≤ 1000001 := by
          simp only [List.mem_cons, List.not_mem_nil, or_false] at hx
          omega
        have hF7 := k7.at1 nFa hF6
        have hS7 := k7.at1 nSa hS6
        have sp7 := sp6.keepS fun p ys h => hd6.tup k7 h
        refine ⟨_, rfl, .inl ⟨rfl, _, sqL hF7⟩, ?_⟩
        refine ⟨_, rfl, _, rfl, Nat.le_of_ble_eq_true rfl, fun t H8 nt k8 ht => ?_⟩
        have hF8 := k8.at0 hF7
        have hS8 := k8.at0 hS7
        have sp8 := sp7.keepS fun p ys h => k8.tup0 h
        have hd8 := hd7.kp0 k8
        have lx := sp8.len
        refine ⟨FO, xs, _, rfl, rfl, hF8, by rw [sizeLine_eq]; omega, fun H9 m9 h9 => ?_⟩
        have hd9 := hd8.md m9 nFa.symm
        have hS9 := (m9 S nSF).trans hS8
        have k9 : Kp [a] H H9 := (((k3.trans (k4.trans k5)).trans (k6.wide.trans k7)).trans k8.wide).md (.inl n1) m9
        have sp9 : SpL K H9 (xs ++ [.ref t]) (l ++ [(nm, am)]) := SpL.snoc (m9.kp.tup1 hF8 (sqT ht)) (spN_nm nm xm) ab.1 (sp8.keepS fun p ys h => m9.kp.tup1 hF8 h)
        refine ⟨_, rfl, _, rfl, _, _, rfl, rfl, tnil_z ⟨_, _, rfl, ?_⟩⟩
        refine ⟨_, _, xs ++ [.ref t], l ++ [(nm, am)], _, rfl, k9, hd9.mono (by omega), h9, hS9, sp9, by rw [List.length_append]; exact Nat.succ_le_succ ll, ?_, ?_, ?_⟩
        · intro p hp
          rcases List.mem_append.mp hp with w | w
          · exact bl p w
          · rw [List.mem_singleton.mp w]
            exact ⟨spN_nm nm xm, ab⟩
        · split <;> omega
        · split <;> omega
      · refine ifNo (fun z => hz (V.int.inj z)) ?_
        exact ⟨_, _, xs, l, lf, rfl, k3.trans k4, hd4.mono (by omega), hF4, hS4, sp4, by omega, bl, f0, f1⟩
    rintro σ H3 ⟨y4, y5, xs, l, lf, rfl, k3, hd3, hF3, hS3, sp3, ll, bl, f0, f1⟩
    have hi : (spN.map V.str).length = 6 := rfl
    refine ⟨_, rfl, FO, xs, rfl, sqL hF3, fun u H4 nu k4 hu => ?_⟩
    exact q u H4 xs l (k3.trans k4.wide) ((hd3.kp0 k4).mono (by omega)) (sqT hu) (sp3.keepS fun p ys h => k4.tup0 h) (by omega) bl
def sp_l_wish (K : PySem.W.Frag) (C : Addr) : Sp := fun vs H Q _ => ∃ (a p q : Addr) (s : LkS) (n : Nat), vs = [.ref a, .ref p] ∧ LkAt C H p q s ∧ Good s ∧ Hand H a n ∧ n ≤ 2 ^ 45 ∧ q ≠ a ∧
  ∀ u H' wd us ds, Kp [a] H H' → Hand H' a (n + 300) → WishH K H' u wd us ds → Q (.ref u) H'
def wordsH : List Str := ["enter", "enter", "tick", "tick", "tick", "deposit", "withdraw", "transfer", "budget", "undo", "leave", "balance", "spare", "total", "list"]
def wA : List Str := ["enter", "deposit", "withdraw"]
def wB : List Str := ["leave", "balance", "spare"]
def wC : List Str := ["undo", "total", "list"]
theorem words_cases {x : Str} (h : x ∈ wordsH) : x = "tick" ∨ x ∈ wA ∨ x = "transfer" ∨ x = "budget" ∨ x ∈ wB ∨ x ∈ wC := by
  have e : ∀ x ∈ wordsH, x = "tick" ∨ x ∈ wA ∨ x = "transfer" ∨ x = "budget" ∨ x ∈ wB ∨ x ∈ wC := by decide +kernel
  exact e x h
theorem ifD {p : Prop} [Decidable p] {A B : Prop} (h : p) (a : A) : if decide p = true then A else B := by
  rw [if_pos (decide_eq_true h)]
  exact a
theorem ifDn {p : Prop} [Decidable p] {A B : Prop} (h : ¬ p) (b : B) : if decide p = true then A else B := by
  rw [if_neg (by rw [decide_eq_false h]; exact Bool.false_ne_true)]
  exact b
theorem am_tup' (l : List PyData) : ∀ i, PyData.int i ∈ [PyData.tuple l] → i ≤ 10000000000 := fun i hi => by
  have e := List.mem_singleton.mp hi
  cases e
theorem ok__law_wish {f C : Addr} {fd : FuncData} {k : Nat} (F : Fun K "_law_wish" "_law_wish" s__law_wish f fd) (LC : LinkC K C) (m_tuple : mg "tuple" = none) (C_l_take : Cl P w K mg base CX0 1 "_law_take" 2 (sp_l_take K)) (C_l_of : Cl P w K mg base CX0 2 "_law_of" 2 (sp_l_of K))
    (C_l_name : Cl P w K mg base CX0 3 "_law_name" 1 (sp_l_name K)) (C_l_amount : Cl P w K mg base CX0 3 "_law_amount" 1 (sp_l_amount K)) (C_l_spends : Cl P w K mg base CX0 3 "_law_spends" 2 (sp_l_spends K)) (M_names : ClM P w K mg base CX0 1 C "names" (sp_Link_names K C)) (M_current_budget : ClM P w K mg base CX0 1 C "current_budget" (sp_Link_current_budget C)) :
    FnG P w K mg base CX0 (k + 4) f fd ["_law_hand_here", "_law_link"] (sp_l_wish K C) := by
  refine ok0 F sc__law_wish (fun vs H Q E h => ?_) (fun cdv A outer s H vs Q E gd hr h => ?_)
  · obtain ⟨a, p, q, s, n, rfl, _⟩ := h
    rfl
  · obtain ⟨a, p, q, s, n, rfl, L, G, hd, hn, qa, out⟩ := h
    refine ⟨_, (pss_cons (ps_set (i := 2) sc__law_wish.nd rfl (.inl rfl) (pe_la (pa_cons pe_str (pa_cons pe_str (pa_cons pe_str (pa_cons pe_str (pa_cons pe_str (pa_cons pe_str (pa_cons pe_str (pa_cons pe_str (pa_cons pe_str (pa_cons pe_str (pa_cons pe_str pa_nil)))))))))))))
      (pss_cons (ps_set (i := 3) sc__law_wish.nd rfl (.inl rfl) (pe_cl C_l_of (hr.mono (by omega)) gd pass0 (by rfl) (pa_cons (pv 0) (pa_cons (pe_op op_catLA (pv 2) (pe_la (pa_cons pe_str (pa_cons pe_str (pa_cons pe_str (pa_cons pe_str pa_nil)))))) pa_nil))))
      (pss_cons (ps_if (pt_cmpR op_eq (pv 3) pe_str (nomark _))
      (pss_cons (ps_set (i := 4) sc__law_wish.nd rfl (.inl rfl) (pe_cl C_l_spends (hr.mono (by omega)) gd pass0 (by rfl) (pa_cons (pv 0) (pa_cons (pe_clM0 (E := fun _ _ _ _ => False) LC.cls M_current_budget (hr.mono (by omega)) gd passG (pv 1)) pa_nil))))
      (pss_cons (ps_if (pt_cmpR op_gt (pe_cl C_l_take (hr.mono (by omega)) gd pass0 (by rfl) (pa_cons (pv 0) (pa_cons pe_int pa_nil))) pe_int (nomark _))
      (pss_one (ps_set (i := 4) sc__law_wish.nd rfl (.inl rfl) (pe_callTy (call_tupLK (K := K) rfl) (by rfl) m_tuple (by decide +kernel) (pa_cons (pe_lcW (own := [("_law_pair", 5)]) (g := (gName 5)) rfl sc__law_wish.nd (pi_tup (pv 4)) (blkOk_by (own := [("_law_pair", 5)]) (N := ["_law_hand_here", "_law_link", "_law_words", "_law_word", "_law_some", "_law_pair"]) (sc := defScope s__law_wish) (by decide +kernel)) (fun _ _ _ _ _ => (pg_name (i := 5) sc__law_wish.nd rfl (.inl rfl))) (fun _ _ _ _ _ => (pts_one (pt_cmpR (op_inS (K := K) rfl) (pe_ix (ix_taN (K := K) rfl) (pv 5) pe_int (fun _ _ => rfl)) (pe_clM0 (E := fun _ _ _ _ => False) LC.cls M_names (hr.mono (by omega)) gd passG (pv 1)) rfl))) (fun _ _ _ _ _ => (pv 5))) pa_nil))))
      pss_nil)
      (pss_one (ps_ret (pe_ta (pa_cons (pv 3) (pa_cons (pv 4) pa_nil)))))))
      pss_nil)
      (pss_cons (ps_if (pt_cmpR (op_inS (K := K) rfl) (pv 3) (pe_ta (pa_cons pe_str (pa_cons pe_str (pa_cons pe_str pa_nil)))) rfl)
      (pss_one (ps_ret (pe_ta (pa_cons (pv 3) (pa_cons (pe_cl C_l_name (hr.mono (by omega)) gd pass0 (by rfl) (pa_cons (pv 0) pa_nil)) (pa_cons (pe_cl C_l_amount (hr.mono (by omega)) gd pass0 (by rfl) (pa_cons (pv 0) pa_nil)) pa_nil))))))
      pss_nil)
      (pss_cons (ps_if (pt_cmpR op_eq (pv 3) pe_str (nomark _))
      (pss_one (ps_ret (pe_ta (pa_cons (pv 3) (pa_cons (pe_cl C_l_name (hr.mono (by omega)) gd pass0 (by rfl) (pa_cons (pv 0) pa_nil)) (pa_cons (pe_cl C_l_name (hr.mono (by omega)) gd pass0 (by rfl) (pa_cons (pv 0) pa_nil)) (pa_cons (pe_cl C_l_amount (hr.mono (by omega)) gd pass0 (by rfl) (pa_cons (pv 0) pa_nil)) pa_nil)))))))
      pss_nil)
      (pss_cons (ps_if (pt_cmpR op_eq (pv 3) pe_str (nomark _))
      (pss_one (ps_ret (pe_ta (pa_cons (pv 3) (pa_cons (pe_cl C_l_of (hr.mono (by omega)) gd pass0 (by rfl) (pa_cons (pv 0) (pa_cons (pe_li (pa_cons pe_int (pa_cons pe_int (pa_cons pe_int (pa_cons pe_int (pa_cons pe_int (pa_cons (pe_op op_pow pe_int pe_int) pa_nil))))))) pa_nil))) pa_nil)))))
      pss_nil)
      (pss_one (ps_ret (pe_ifP (pt_cmpR (op_inS (K := K) rfl) (pv 3) (pe_ta (pa_cons pe_str (pa_cons pe_str (pa_cons pe_str pa_nil)))) rfl) (pe_ta (pa_cons (pv 3) (pa_cons (pe_cl C_l_name (hr.mono (by omega)) gd pass0 (by rfl) (pa_cons (pv 0) pa_nil)) pa_nil))) (pe_ta (pa_cons (pv 3) pa_nil))))))))))), ?_⟩
    refine ⟨Nat.le_of_ble_eq_true rfl, fun W H1 nW k1 hW => ?_⟩
    have hd1 := hd.kp0 k1
    refine ⟨_, rfl, _, rfl, Nat.le_of_ble_eq_true rfl, fun W2 H2 nW2 k2 hW2 => ?_⟩
    refine ⟨W, W2, _, _, rfl, rfl, k2.at0 hW, hW2, Nat.le_of_ble_eq_true rfl, fun W3 H3 nW3 k3 hW3 => tnil_z ?_⟩
    have hW3 : H3 W3 = some (.lst (wordsH.map V.str)) := hW3
    have k03 := k1.trans (k2.trans k3)
    have hd3 := hd.kp0 k03
    have n3a : W3 ≠ a := fun z => (hd.kp0 (k1.trans k2)).ne nW3 z.symm
    refine ⟨a, W3, _, _, rfl, hd3, by omega, n3a, .inl (sqL hW3), Nat.le_of_ble_eq_true rfl, Nat.le_of_ble_eq_true rfl, fun v H4 k4 hd4 hv => ?_⟩
    obtain ⟨wd, hw, rfl⟩ := List.mem_map.mp hv
    have k04 := k03.wide.trans k4
    have L4 := L.hand (K := K) hd qa k04
    rcases words_cases hw with rfl | hw | rfl | rfl | hw | hw
    · refine ⟨_, rfl, rfl, _, rfl, ifYes rfl ?_⟩
      refine ⟨_, rfl, _, rfl, at_z L4 z_current_budget ⟨p, q, s, rfl, L4, tnil_z ⟨a, n + 1, s.b, rfl, hd4, by omega, G.now.b1, G.now.b2, fun u5 H5 xs l k5 hd5 hu5 sp5 ll bl => ?_⟩⟩⟩
      have k05 := k04.trans k5
      have L5 := L4.hand (K := K) hd4 qa k5
      have fin : ∀ (u : Addr) (H' : Hp) (xs : List V) (l : List (Str × Int)) (r : Addr) (H8 : Hp), Kp [a] H5 H' → Hand H' a (n + 250) → SqT K H' u xs → SpL K H' xs l → l.length ≤ 6 → (∀ p ∈ l, isNm p.1 = true ∧ 0 ≤ p.2 ∧ p.2 ≤ 1000001) → Kp [] H' H8 → H8 r = some (.tup [.str "tick", .ref u]) → Q (.ref r) H8 := by
        intro u H' xs l r H8 k6 hd6 hu sp ll bl k8 hr8
        have ok := rows_ok (l := l) (by omega) bl
        refine out r H8 "tick" [.ref u] [.tuple (l.map spRow)] (k05.trans (k6.trans k8.wide)) ((hd6.kp0 k8).mono (by omega)) ⟨sqT hr8, fun N => .cons (.tup (k8.tup0 hu) (sp.keepS fun p ys h => k8.tup0 h).db) .nil, .ask .tick, ok, ?_, Nat.le_trans (szA_z (n := 1) (fun d hd => ok.sz d hd) (Nat.le_refl _)) (by decide), am_tup' _, fun z => absurd z (by decide +kernel)⟩
        intro es he
        cases (List.mem_singleton.mp he)
        rw [List.length_map]
        omega
      refine ⟨_, rfl, a, _, 8, rfl, hd5, by omega, by decide, by decide, fun d H6 k6 hd6 d0 d1 => ⟨_, _, rfl, rfl, _, rfl, ?_⟩⟩
      have hu6 := hd5.tup k6 hu5
      have sp6 := sp5.keepS fun p ys h => hd5.tup k6 h
      by_cases hz : 0 < d
      · refine ifD hz ?_
        refine ⟨_, rfl, u5, rfl, ⟨_, hu6⟩, _, _, _, walk_tup (xs := xs), small1000 (by rw [sp6.len]; omega), fun D H7 nD k7 hD => ?_⟩
        have L6 := L5.hand (K := K) hd5 qa k6
        refine ⟨fun i acc H' => ∃ l', Kp [] H6 H' ∧ SpL K H' acc l' ∧ l'.length ≤ i ∧ ∀ p ∈ l', isNm p.1 = true ∧ 0 ≤ p.2 ∧ p.2 ≤ 1000001, ⟨[], k7, .nil, Nat.zero_le _, fun _ z => nomatch z⟩, fun _ _ _ _ ⟨_, kk, _⟩ => kk.tup0 hu6, ?_, ?_⟩
        · rintro i acc x H8 _ hi ⟨l', k8, sp8, ll8, bl8⟩ hD8 ⟨rfl, hx⟩
          obtain ⟨t, nm, v, rfl, ht, hl⟩ := sp6.get hx
          have ht8 := k8.tup0 ht
          have L8 := L6.kp k8
          have lm := bl _ (List.mem_of_getElem? hl)
          refine ⟨rfl, ?_⟩
          refine ⟨_, rfl, t, _, 0, _, rfl, rfl, ht8, rfl, _, rfl, at_z L8 z_names ⟨p, q, s, rfl, L8, G.now.len, fun u9 H9 k9 hu9 => ⟨u9, nsT s.t, nm, rfl, rfl, .inr hu9, _, rfl, ?_⟩⟩⟩
          by_cases hin : nm ∈ nsT s.t
          · rw [decide_eq_true hin]
            refine (show if true = true then _ else _ from iteT ⟨_, rfl, k9.at0 hD8, fun H10 m10 h10 => ?_⟩)
            refine ⟨l' ++ [(nm, v)], (k8.trans k9).md (.inl nD) m10, ?_, by rw [List.length_append]; exact Nat.succ_le_succ ll8, ?_⟩
            · exact SpL.snoc (m10.kp.tup1 (k9.at0 hD8) (k9.tup0 ht8)) lm.1 lm.2.1 (sp8.keepS fun p ys h => m10.kp.tup1 (k9.at0 hD8) (k9.tup0 h))
            · intro p hp
              rcases List.mem_append.mp hp with w | w
              · exact bl8 p w
              · rw [List.mem_singleton.mp w]
                exact lm
          · rw [decide_eq_false hin]
            exact (show if false = true then _ else _ from iteF ⟨k9.at0 hD8, l', k8.trans k9, sp8.kp k9, by omega, bl8⟩)
        rintro acc H8 _ hD8 ⟨l', k8, sp8, ll8, bl8⟩
        have lx := sp6.len
        refine tnil_z ⟨D, acc, rfl, sqL hD8, fun u H9 nu k9 hu => ?_⟩
        refine ⟨_, rfl, _, rfl, Nat.le_of_ble_eq_true rfl, fun r H10 nr k10 hr10 => ?_⟩
        exact fin u H9 acc l' r H10 (k6.trans (k8.trans k9).wide) ((hd6.kp0 (k8.trans k9)).mono (by omega)) (sqT hu) (sp8.kp k9) (by omega) bl8 k10 hr10
      · refine ifDn hz ?_
        refine ⟨_, rfl, _, rfl, Nat.le_of_ble_eq_true rfl, fun r H8 nr k8 hr8 => ?_⟩
        exact fin u5 H6 xs l r H8 k6 (hd6.mono (by omega)) hu6 sp6 ll bl k8 hr8
    · have e1 : ¬ wd = "tick" := fun z => by rw [z] at hw; exact absurd hw (by decide +kernel)
      refine ⟨_, rfl, rfl, _, rfl, ifNo (ns e1) ?_⟩
      refine ⟨_, rfl, Nat.le_of_ble_eq_true rfl, fun t1 H5 n5 k5 ht1 => ⟨t1, wA, wd, rfl, rfl, .inr (sqT ht1), _, rfl, ifD hw ?_⟩⟩
      have k05 := k04.trans k5.wide
      have hd5 := hd4.kp0 k5
      refine ⟨_, rfl, _, rfl, a, _, rfl, hd5, by omega, fun x H6 k6 hd6 hx => ?_⟩
      refine ⟨_, rfl, a, _, rfl, hd6, by omega, fun i H7 k7 hd7 i0 i1 => ?_⟩
      refine ⟨Nat.le_of_ble_eq_true rfl, fun u H8 nu k8 hu => ?_⟩
      have fl : ∀ d ∈ [PyData.str x, .int i], Flat1 d := fun d hd => by
        rcases List.mem_cons.mp hd with rfl | hd
        · exact .str (drawN_nm x hx)
        · rw [List.mem_singleton.mp hd]
          exact .int (by omega)
      refine out u H8 wd [.str x, .int i] [.str x, .int i] (k05.trans (k6.trans (k7.trans k8.wide))) ((hd7.kp0 k8).mono (by omega)) ⟨sqT hu, fun N => .cons (.str _) (.cons (.int _) .nil), ?_, flat_ok fl, flat_few fl, Nat.le_trans (szA_z (n := 2) (fun d hd => (fl d hd).sz) (Nat.le_refl _)) (by decide), ?_, fun _ => ⟨x, hx, rfl⟩⟩
      · show ArH wd 2
        unfold wA at hw
        simp only [List.mem_cons, List.not_mem_nil, or_false] at hw
        rcases hw with rfl | rfl | rfl
        · exact .enter
        · exact .deposit
        · exact .withdraw
      · intro j hj
        rcases List.mem_cons.mp hj with w | w
        · cases w
        · cases (List.mem_singleton.mp w)
          exact i1
    · have e1 : ¬ (("transfer" : Str) = "tick") := by decide +kernel
      have e2 : ¬ (("transfer" : Str) ∈ wA) := by decide +kernel
      refine ⟨_, rfl, rfl, _, rfl, ifNo (ns e1) ?_⟩
      refine ⟨_, rfl, Nat.le_of_ble_eq_true rfl, fun t1 H5 n5 k5 ht1 => ⟨t1, wA, _, rfl, rfl, .inr (sqT ht1), _, rfl, ifDn e2 ?_⟩⟩
      have k05 := k04.trans k5.wide
      have hd5 := hd4.kp0 k5
      refine ⟨_, rfl, rfl, _, rfl, ifYes rfl ?_⟩
      refine ⟨_, rfl, _, rfl, a, _, rfl, hd5, by omega, fun x H6 k6 hd6 hx => ?_⟩
      refine ⟨_, rfl, a, _, rfl, hd6, by omega, fun y H6' k6' hd6' hy => ?_⟩
      refine ⟨_, rfl, a, _, rfl, hd6', by omega, fun i H7 k7 hd7 i0 i1 => ?_⟩
      refine ⟨Nat.le_of_ble_eq_true rfl, fun u H8 nu k8 hu => ?_⟩
      have fl : ∀ d ∈ [PyData.str x, .str y, .int i], Flat1 d := fun d hd => by
        rcases List.mem_cons.mp hd with rfl | hd
        · exact .str (drawN_nm x hx)
        · rcases List.mem_cons.mp hd with rfl | hd
          · exact .str (drawN_nm y hy)
          · rw [List.mem_singleton.mp hd]
            exact .int (by omega)
      refine out u H8 "transfer" [.str x, .str y, .int i] [.str x, .str y, .int i] (k05.trans (k6.trans (k6'.trans (k7.trans k8.wide)))) ((hd7.kp0 k8).mono (by omega)) ⟨sqT hu, fun N => .cons (.str _) (.cons (.str _) (.cons (.int _) .nil)), .transfer, flat_ok fl, flat_few fl, Nat.le_trans (szA_z (n := 3) (fun d hd => (fl d hd).sz) (Nat.le_refl _)) (by decide), ?_, fun z => absurd z (by decide +kernel)⟩
      intro j hj
      rcases List.mem_cons.mp hj with w | w
      · cases w
      · rcases List.mem_cons.mp w with w | w
        · cases w
        · cases (List.mem_singleton.mp w)
          exact i1
    · have e1 : ¬ (("budget" : Str) = "tick") := by decide +kernel
      have e2 : ¬ (("budget" : Str) ∈ wA) := by decide +kernel
      refine ⟨_, rfl, rfl, _, rfl, ifNo (ns e1) ?_⟩
      refine ⟨_, rfl, Nat.le_of_ble_eq_true rfl, fun t1 H5 n5 k5 ht1 => ⟨t1, wA, _, rfl, rfl, .inr (sqT ht1), _, rfl, ifDn e2 ?_⟩⟩
      have k05 := k04.trans k5.wide
      have hd5 := hd4.kp0 k5
      refine ⟨_, rfl, rfl, _, rfl, ifNo (ns (by decide +kernel)) ?_⟩
      refine ⟨_, rfl, rfl, _, rfl, ifYes rfl ?_⟩
      refine ⟨_, rfl, _, rfl, _, _, rfl, rfl, ⟨by decide, by decide⟩, [1, 2, 3, 4, 7, 10 ^ (6 : Int).toNat], rfl, Nat.le_of_ble_eq_true rfl, fun D H6 n6 k6 hD => tnil_z ?_⟩
      have nDa : D ≠ a := fun z => hd5.ne n6 z.symm
      refine ⟨a, D, _, _, rfl, hd5.kp0 k6, by omega, nDa, .inl (sqL hD), Nat.le_of_ble_eq_true rfl, Nat.le_of_ble_eq_true rfl, fun v H7 k7 hd7 hv => ?_⟩
      obtain ⟨i, hx, rfl⟩ := List.mem_map.mp hv
      have e : (10 : Int) ^ (6 : Int).toNat = 1000000 := by decide +kernel
      have ib : 0 ≤ i ∧ i ≤ 1000000 := by
        rw [e] at hx
        simp only [List.mem_cons, List.not_mem_nil, or_false] at hx
        omega
      refine ⟨Nat.le_of_ble_eq_true rfl, fun u H8 nu k8 hu => ?_⟩
      have fl : ∀ d ∈ [PyData.int i], Flat1 d := fun d hd => by
        rw [List.mem_singleton.mp hd]
        exact .int (by omega)
      refine out u H8 "budget" [.int i] [.int i] (k05.trans (k6.wide.trans (k7.trans k8.wide))) ((hd7.kp0 k8).mono (by omega)) ⟨sqT hu, fun N => .cons (.int _) .nil, .budget, flat_ok fl, flat_few fl, Nat.le_trans (szA_z (n := 1) (fun d hd => (fl d hd).sz) (Nat.le_refl _)) (by decide), ?_, fun z => absurd z (by decide +kernel)⟩
      intro j hj
      cases (List.mem_singleton.mp hj)
      omega
    · have e1 : ¬ wd = "tick" := fun z => by rw [z] at hw; exact absurd hw (by decide +kernel)
      have e2 : ¬ wd ∈ wA := fun z => absurd hw ((by decide +kernel : ∀ x ∈ wA, ¬ x ∈ wB) wd z)
      refine ⟨_, rfl, rfl, _, rfl, ifNo (ns e1) ?_⟩
      refine ⟨_, rfl, Nat.le_of_ble_eq_true rfl, fun t1 H5 n5 k5 ht1 => ⟨t1, wA, _, rfl, rfl, .inr (sqT ht1), _, rfl, ifDn e2 ?_⟩⟩
      have k05 := k04.trans k5.wide
      have hd5 := hd4.kp0 k5
      refine ⟨_, rfl, rfl, _, rfl, ifNo (ns fun z => by rw [z] at hw; exact absurd hw (by decide +kernel)) ?_⟩
      refine ⟨_, rfl, rfl, _, rfl, ifNo (ns fun z => by rw [z] at hw; exact absurd hw (by decide +kernel)) ?_⟩
      refine ⟨Q, ⟨_, rfl, Nat.le_of_ble_eq_true rfl, fun t2 H6 n6 k6 ht2 => ⟨t2, wB, wd, rfl, rfl, .inr (sqT ht2), _, rfl, ifD hw ?_⟩⟩, fun _ _ z => z⟩
      refine ⟨_, rfl, _, rfl, a, _, rfl, hd5.kp0 k6, by omega, fun x H7 k7 hd7 hx => ?_⟩
      refine ⟨Nat.le_of_ble_eq_true rfl, fun u H8 nu k8 hu => ?_⟩
      have fl : ∀ d ∈ [PyData.str x], Flat1 d := fun d hd => by
        rw [List.mem_singleton.mp hd]
        exact .str (drawN_nm x hx)
      refine out u H8 wd [.str x] [.str x] (k05.trans (k6.wide.trans (k7.trans k8.wide))) ((hd7.kp0 k8).mono (by omega)) ⟨sqT hu, fun N => .cons (.str _) .nil, ?_, flat_ok fl, flat_few fl, Nat.le_trans (szA_z (n := 1) (fun d hd => (fl d hd).sz) (Nat.le_refl _)) (by decide), ?_, fun z => ?_⟩
      · show ArH wd 1
        unfold wB at hw
        simp only [List.mem_cons, List.not_mem_nil, or_false] at hw
        rcases hw with rfl | rfl | rfl
        · exact .ask .leave
        · exact .ask .balance
        · exact .ask .spare
      · intro j hj
        cases (List.mem_singleton.mp hj)
      · rw [z] at hw
        exact absurd hw (by decide +kernel)
    · have e1 : ¬ wd = "tick" := fun z => by rw [z] at hw; exact absurd hw (by decide +kernel)
      have e2 : ¬ wd ∈ wA := fun z => absurd hw ((by decide +kernel : ∀ x ∈ wA, ¬ x ∈ wC) wd z)
      have e3 : ¬ wd ∈ wB := fun z => absurd hw ((by decide +kernel : ∀ x ∈ wB, ¬ x ∈ wC) wd z)
      refine ⟨_, rfl, rfl, _, rfl, ifNo (ns e1) ?_⟩
      refine ⟨_, rfl, Nat.le_of_ble_eq_true rfl, fun t1 H5 n5 k5 ht1 => ⟨t1, wA, _, rfl, rfl, .inr (sqT ht1), _, rfl, ifDn e2 ?_⟩⟩
      have k05 := k04.trans k5.wide
      have hd5 := hd4.kp0 k5
      refine ⟨_, rfl, rfl, _, rfl, ifNo (ns fun z => by rw [z] at hw; exact absurd hw (by decide +kernel)) ?_⟩
      refine ⟨_, rfl, rfl, _, rfl, ifNo (ns fun z => by rw [z] at hw; exact absurd hw (by decide +kernel)) ?_⟩
      refine ⟨Q, ⟨_, rfl, Nat.le_of_ble_eq_true rfl, fun t2 H6 n6 k6 ht2 => ⟨t2, wB, wd, rfl, rfl, .inr (sqT ht2), _, rfl, ifDn e3 ?_⟩⟩, fun _ _ z => z⟩
      refine ⟨_, rfl, Nat.le_of_ble_eq_true rfl, fun u H8 nu k8 hu => ?_⟩
      refine out u H8 wd [] [] (k05.trans (k6.wide.trans k8.wide)) (((hd5.kp0 k6).kp0 k8).mono (by omega)) ⟨sqT hu, fun N => .nil, ?_, flat_ok (fun _ z => nomatch z), flat_few (fun _ z => nomatch z), Nat.zero_le _, (fun _ z => nomatch z), fun z => ?_⟩
      · show ArH wd 0
        unfold wC at hw
        simp only [List.mem_cons, List.not_mem_nil, or_false] at hw
        rcases hw with rfl | rfl | rfl
        · exact .undo
        · exact .ask .total
        · exact .ask .list
      · rw [z] at hw
        exact absurd hw (by decide +kernel)
/-! ### drawn calls: a history -/
theorem SmS.out {M : Int} {wd : Str} {s : LkS} {ds : List PyData} (S : SmS M s) (G : Good s) (h0 : 0 ≤ M) (hA : ∀ i, PyData.int i ∈ ds → i ≤ 10000000000) : SmS (M + 10001000000) (outS s (callF wd s ds)) := by
  cases e : callF wd s ds with
  | bad x v => exact ⟨S.now.mono (by omega), fun q hq => (S.old q hq).mono (by omega)⟩
  | ok r s' =>
    rcases call_grow G hA (by decide) e with ⟨g, ep⟩ | ⟨p, e1, e2, e3⟩
    · refine ⟨(g.am M h0 S.now).mono (by omega), fun p hp => ?_⟩
      have hp : p ∈ s'.past := hp
      rw [ep] at hp
      rcases List.mem_append.mp hp with z | z
      · exact (S.old p z).mono (by omega)
      · rw [List.mem_singleton.mp z]
        exact S.now.mono (by omega)
    · refine ⟨?_, fun q hq => ?_⟩
      · show TbM _ s'.t
        rw [e2]
        exact (S.old p (List.mem_of_getLast? e1)).mono (by omega)
      · have hq : q ∈ s'.past := hq
        rw [e3] at hq
        exact (S.old q (List.dropLast_subset _ hq)).mono (by omega)
theorem outS_told (wd : Str) (s : LkS) (o : Out) : outS s (tellO wd o) = outS s o := by cases o <;> rfl
theorem done_out {wd : Str} {s : LkS} {ds : List PyData} {n : Nat} (h : ArH wd n) (hd : ds.length = n) : outS s (doneF wd s ds) = s ∨ outS s (doneF wd s ds) = outS s (callF wd s ds) := by
  unfold doneF
  split
  · rename_i e
    subst e
    left
    cases h with
    | ask h =>
      cases h
      match ds, hd with
      | [d], _ =>
        show outS s (balF s d) = s
        unfold balF
        split <;> rfl
  split
  · rename_i e
    subst e
    left
    cases h with
    | ask h =>
      cases h
      match ds, hd with
      | [d], _ =>
        show outS s (spareF s d) = s
        unfold spareF
        split <;> rfl
  split
  · exact .inl rfl
  split
  · exact .inl rfl
  · exact .inr (outS_told _ _ _)
theorem vals_nn {b : Int} {t : Tab} (G : GoodT b t) : (∀ n, 0 ≤ tval t n) ∧ ∀ x ∈ valsT t, 0 ≤ x := by
  have h1 : ∀ n, 0 ≤ tval t n := fun n => by
    by_cases h : n ∈ keysT t
    · have := val_ge G h
      have := G.b1
      omega
    · unfold tval
      rw [tget_none.mpr h]
      exact Int.le_refl _
  refine ⟨h1, fun x hx => ?_⟩
  obtain ⟨p, hp, rfl⟩ := List.mem_map.mp hx
  have e : tval t p.1 = p.2 := by
    unfold tval
    rw [tget_of G.nd (show (p.1, p.2) ∈ t from hp)]
    rfl
  rw [← e]
  exact h1 _
theorem shn_of {M : Int} {s : LkS} (G : Good s) (S : SmS M s) (h0 : 0 ≤ M) (h : M ≤ 1000000000000000) : Shn s := by
  have v := vals_nn G.now
  refine ⟨fun n => ⟨v.1 n, by have := S.now.val h0 n; omega⟩, ?_⟩
  have b := sum_bd (M := M) (l := valsT s.t) fun x hx => ⟨v.2 x hx, by
    obtain ⟨p, hp, rfl⟩ := List.mem_map.mp hx
    exact S.now p hp⟩
  have l := G.now.len
  have e : (valsT s.t).length = s.t.length := List.length_map _
  rw [e] at b
  have : M * (s.t.length : Int) ≤ M * 40 := Int.mul_le_mul_of_nonneg_left (by omega) h0
  omega
theorem head_app {α : Type} : ∀ (l : List α) {m : List α}, l ≠ [] → (l ++ m).head? = l.head?
  | [], _, h => absurd rfl h
  | _ :: _, _, _ => rfl
/-- a link that began without senders -/
def Bot (s : LkS) : Prop := ((s.past ++ [(s.b, s.t)]).head?).map (·.2) = some []
theorem Next.bot {s s' : LkS} {r : PyData} (h : Next s r s') (B : Bot s) : Bot s' := by
  unfold Bot at B ⊢
  obtain ⟨_, ⟨p, e, rfl⟩ | ⟨b, t, c, rfl⟩⟩ := h
  · have e2 : s.past.dropLast ++ [p] = s.past := by
      have ne : s.past ≠ [] := fun z => by rw [z] at e; cases e
      rw [List.getLast?_eq_some_getLast ne] at e
      cases e
      exact List.dropLast_concat_getLast ne
    have ne : s.past ≠ [] := fun z => by rw [z] at e; cases e
    show ((s.past.dropLast ++ [(p.1, p.2)]).head?).map (·.2) = some []
    rw [show ((p.1, p.2) : Int × Tab) = p from rfl, e2]
    rw [head_app _ ne] at B
    exact B
  · show (((s.past ++ [(s.b, s.t)]) ++ [(b, t)]).head?).map (·.2) = some []
    rw [head_app _ (by simp)]
    exact B
theorem bot_out {wd : Str} {s : LkS} {ds : List PyData} (G : Good s) (B : Bot s) : Bot (outS s (callF wd s ds)) := by
  cases e : callF wd s ds with
  | ok r s' => exact (call_next G e).bot B
  | bad x v => exact B
/-! ### drawn calls: a history, led -/
theorem hand_ks {T : List (Addr × Str)} {H H' : Hp} {a : Addr} {n : Nat} (h : Hand H a n) (k : Kp [a] H H') : Ks T (fun x => x = a) H H' := by
  obtain ⟨g, x, c, e, _⟩ := h
  have e : H a = some (.lst [.int g, .int x, .int c]) := e
  exact Ks.md .refl e k (.inl rfl)
theorem hand_two {T : List (Addr × Str)} {S : Addr → Prop} {H H' : Hp} {a : Addr} {n : Nat} (h : Hand H a n) (k : Ks T S H H') (na : ¬ S a) : Hand H' a n := h.at fun o e => by
  obtain ⟨g, x, c, e2, _⟩ := h
  have e2 : H a = some (.lst [.int g, .int x, .int c]) := e2
  rw [e2] at e
  cases e
  exact k.atL na e2
def sp_l_history (C : Addr) (T : List (Addr × Str)) : Sp := fun vs H Q _ => ∃ (a : Addr) (n m : Nat) (b : Int), vs = [.ref a, .int b, .int (m : Int)] ∧ Hand H a n ∧ n ≤ 2 ^ 40 ∧ 1 ≤ b ∧ b ≤ 1000000 ∧ m ≤ 40 ∧ Tabs T H ∧
  ∀ p q s H', Ks T (fun x => x = a) H H' → H p = none → H q = none → LkAt C H' p q s → Good s → SmS 600000000000 s → s.past.length ≤ m → Bot s → Hand H' a (n + m * 400) → Q (.ref p) H'
theorem ok__law_history {f c pt C : Addr} {fd : FuncData} {k : Nat} {T : List (Addr × Str)} {X : LkX} (F : Fun K "_law_history" "_law_history" s__law_history f fd) (hcd : fd.code = .ref c) (TB : TabB base mg c pt) (hmT : (pt, qLam "_law_history") ∈ T) (huT : ∀ r ∈ T, r.1 = pt → r.2 = qLam "_law_history") (m_range : mg "range" = none)
    (N_Link : ClN P w K mg base (L2.CX P w) 5 "Link" C (sp_Link___init__ K C X)) (C_l_wish : Cl P w K mg base CX0 4 "_law_wish" 2 (sp_l_wish K C)) (X_l_met : ClH P w K mg base 12 "_law_met" (TTmet K X)) (X_l_done : Cl P w K mg base (L2.CX P w) 10 "_law_done" 2 (sp_l_done K C T X)) :
    FnG P w K mg base CX0 (k + 14) f fd ["_law_hand_here", "_law_budget", "_law_many"] (sp_l_history C T) := by
  refine okC F hcd sc__law_history (fun vs H Q E h => ?_) (fun A outer s H vs Q E gd hr h => ?_)
  · obtain ⟨a, n, m, b, rfl, _⟩ := h
    rfl
  · obtain ⟨a, n, m, b, rfl, hd, hn, b1, b2, hm, hT, out⟩ := h
    refine ⟨_, (pss_cons (ps_set (i := 4) sc__law_history.nd rfl (.inr rfl) (pe_clN (E := fun _ _ _ _ => False) N_Link (hr.mono (by omega)) gd passFS (by rfl) (pa_cons (pv 1) pa_nil)))
      (pss_cons (ps_forW PassesOwn.never rfl (pi_range1 (by rfl) m_range (pa_cons (pv 2) pa_nil)) (pg_name (i := 3) sc__law_history.nd rfl (.inl rfl))
      (pss_cons (ps_set (i := 5) sc__law_history.nd rfl (.inr rfl) (pe_cl C_l_wish (hr.mono (by omega)) gd pass0 (by rfl) (pa_cons (pv 0) (pa_cons (pv 4) pa_nil))))
      (pss_one (ps_expr (pe_hand X_l_met (by rfl) TB rfl hmT huT (hr.mono (by omega)) gd (LamX.lamS_by (sc := defScope s__law_history) (by decide +kernel)) rfl (fun _ _ _ _ _ => rfl) (fun _ _ _ _ _ _ _ gd hr => (pe_clS X_l_done (hr.mono (by omega)) gd (fun σ => passAt (takes_of rfl rfl rfl rfl) σ) (by rfl) (pa_cons (pv 4) (pa_cons (pv 5) pa_nil)))))))))
      (pss_one (ps_ret (pv 4))))), ?_⟩
    refine ⟨_, rfl, fun p dx np nd ndp => ?_⟩
    refine link_new np nd ndp b1 b2 fun q H1 k1 nq L1 => ⟨rfl, ?_⟩
    have G0 : Good ⟨b, [], []⟩ := good_new b1 b2 [] rfl
    have hd1 := hd.kp0 k1
    have pa : p ≠ a := fun z => hd.ne np z.symm
    have qa : q ≠ a := fun z => hd.ne nq z.symm
    have Sq : SmS 0 (⟨b, [], []⟩ : LkS) := ⟨(fun _ z => nomatch z), fun _ z => nomatch z⟩
    refine ⟨_, rfl, _, rfl, by omega, by omega, _, _, _, walk_rg, fun v σ H3 => ∃ (y3 y5 : Option V) (s : LkS), σ = [some (.ref a), some (.int b), some (.int (m : Int)), y3, some (.ref p), y5] ∧ Ks T (fun x => x = a) H H3 ∧ LkAt C H3 p q s ∧ Good s ∧ SmS ((v : Int) * 10001000000) s ∧ s.past.length ≤ v ∧ Bot s ∧ Hand H3 a (n + v * 400),
      ⟨_, _, _, rfl, .of k1.kt, L1, G0, by rw [show ((0 : Nat) : Int) * 10001000000 = 0 from rfl]; exact Sq, Nat.zero_le _, rfl, hd1.mono (by omega)⟩, fun _ _ _ _ _ => trivial, ?_, ?_⟩
    · rintro v x σ _ H3 hv ⟨y3, y5, s, rfl, k3, L3, G, S, pl, bo, hd3⟩ ⟨rfl, rfl⟩
      have hv : v < m := by omega
      refine ⟨_, rfl, _, rfl, tnil_z ⟨a, p, q, s, _, rfl, L3, G, hd3, by omega, qa, fun u H4 wd us ds k4 hd4 W => ?_⟩⟩
      have L4 := L3.hand (K := K) hd3 qa k4
      have k04 := k3.trans (hand_ks hd3 k4)
      refine ⟨k04.tab hT, fun H5 e5 hT5 => ?_⟩
      have x45 : Kt T H4 H5 := ⟨e5, fun _ => hT5⟩
      have k05 := k04.kt x45
      have L5 := L4.kt x45
      have hd5 := hd4.kt x45
      have M0 : (0 : Int) ≤ (v : Int) * 10001000000 := by omega
      have fin : ∀ H6, Ks T (Two p q) H5 H6 → LkAt C H6 p q (outS s (doneF wd s ds)) → ∃ (y3 y5 : Option V) (s : LkS), [some (V.ref a), some (.int b), some (.int (m : Int)), some (.int (0 + (v : Int))), some (.ref p), some (.ref u)] = [some (.ref a), some (.int b), some (.int (m : Int)), y3, some (.ref p), y5] ∧ Ks T (fun x => x = a) H H6 ∧ LkAt C H6 p q s ∧ Good s ∧ SmS (((v + 1 : Nat) : Int) * 10001000000) s ∧ s.past.length ≤ v + 1 ∧ Bot s ∧ Hand H6 a (n + (v + 1) * 400) := by
        intro H6 k6 L6
        have nS : ¬ Two p q a := fun z => z.elim (fun w => pa w.symm) (fun w => qa w.symm)
        have dl := DbAll.len (W.db fun _ => True)
        have o := done_out (s := s) W.ar (dl.symm)
        have g : Good (outS s (doneF wd s ds)) ∧ SmS (((v : Int)) * 10001000000 + 10001000000) (outS s (doneF wd s ds)) ∧ (outS s (doneF wd s ds)).past.length ≤ v + 1 ∧ Bot (outS s (doneF wd s ds)) := by
          rcases o with e | e
          · rw [e]
            exact ⟨G, ⟨S.now.mono (by omega), fun r hr => (S.old r hr).mono (by omega)⟩, by omega, bo⟩
          · rw [e]
            have := out_len (wd := wd) (ds := ds) G
            exact ⟨out_good G, S.out G M0 W.amt, by omega, bot_out G bo⟩
        refine ⟨_, _, _, rfl, k05.thn k6 (fun z hz => .inr (hz.elim (fun w => by rw [w]; exact nt0 np) (fun w => by rw [w]; exact nt0 nq))), L6, g.1, ?_, g.2.2.1, g.2.2.2, (hand_two hd5 k6 nS).mono (by omega)⟩
        rw [show (((v + 1 : Nat) : Int) * 10001000000) = (v : Int) * 10001000000 + 10001000000 by omega]
        exact g.2.1
      have W5 : SqT K H5 u (.str wd :: us) := x45.tup0 W.pair
      have sh := shn_of G S M0 (by omega)
      refine ⟨_, rfl, _, rfl, ?_⟩
      refine tnil_z ⟨p, q, u, s, wd, us, ds, (fun z => z = q), rfl, L5, G, by omega, sh, hT5, W5, (W.db _).stay x45.stay, W.sz, rfl, W.ar, ?_⟩
      cases ho : doneF wd s ds with
      | ok r s' =>
        rw [ho] at fin
        exact fun v6 H6 k6 L6 d6 u2 H7 k7 h7 => fin H7 (k6.kp k7) (L6.kp k7)
      | bad x dv =>
        rw [ho] at fin
        refine outP_bad (fun h8 H6 k6 => ?_) (fun h8 u6 d6 H6 k6 hu6 nd6 => ?_)
        · exact ⟨x, .non, .none, (fun _ => True), rfl, (fun z => absurd z (by omega)), (fun _ => rfl), .non, fun v3 H7 k7 d7 => fin H7 (.of (k6.kp k7)) ((L5.kt k6).kp k7)⟩
        · exact ⟨x, u6, dv, _, rfl, (fun _ => ⟨d6, rfl, upd_same⟩), (fun z => absurd z (by omega)), hu6.stay (Kp.new nd6).stay, fun v3 H7 k7 d7 => fin H7 (.of (k6.kp ((Kp.new nd6).trans k7))) ((L5.kt k6).kp ((Kp.new nd6).trans k7))⟩
    rintro σ H3 ⟨y3, y5, s, rfl, k3, L3, G, S, pl, bo, hd3⟩
    rw [show ((m : Int)).toNat = m by omega] at S pl hd3
    refine ⟨_, rfl, out p q s H3 k3 np nq L3 G ⟨S.now.mono (by omega), fun r hr => (S.old r hr).mono (by omega)⟩ pl bo hd3⟩
/-! ### the letters of a name -/
theorem nm_free {n : Str} (h : isNm n = true) {c : Nat} (hc : c < 97) : c ∉ n.cps.toList := fun z => by
  unfold isNm at h
  rw [Bool.and_eq_true] at h
  have := List.all_eq_true.mp h.2 c z
  have := of_decide_eq_true this
  have low : ∀ x ∈ lettersS.cps.toList, 97 ≤ x := by decide +kernel
  have := low c this
  omega
/-! ### what was written, read -/
open TL
theorem head_join (b : Int) : headS b = Txt.join " " ["budget", tnum b] := by
  rw [join_two]
  unfold headS
  exact ext_tl (by rw [tl_append, tl_append, tl_append]; congr 1)
theorem row_join (n : Str) (b : Int) : rowS n b = Txt.join " " [n, tnum b] := by
  rw [join_two]
  rfl
theorem le_empty {n : Str} (h : isNm n = true) : leS n "" = false := by
  unfold isNm at h
  rw [Bool.and_eq_true] at h
  have h1 := of_decide_eq_true h.1
  have e : ("" : Str).cps.toList = [] := by decide +kernel
  unfold leS
  rw [e]
  cases en : n.cps.toList with
  | nil =>
    have : n.length = 0 := by rw [len_tl]; show n.cps.toList.length = 0; rw [en]; rfl
    omega
  | cons c r => rfl
theorem budRow_of {b : Int} (h1 : 1 ≤ b) (h2 : b ≤ 1000000) : budRow (headS b) = some b := by
  unfold budRow
  rw [head_join, split_blank (by simp) fun p hp => by
    rcases List.mem_cons.mp hp with rfl | hp
    · decide +kernel
    · rw [List.mem_singleton.mp hp]
      exact tnum_free (by omega) (.inl (by decide))]
  show (if ("budget" : Str) = "budget" then _ else _) = _
  rw [if_pos rfl]
  exact numF_of (by omega) h1 h2 (by omega)
theorem sndRow_of {n : Str} {b : Int} (hn : isNm n = true) (h1 : 0 ≤ b) (h2 : b ≤ 1000000000000) : sndRow (rowS n b) = some (n, b) := by
  unfold sndRow
  rw [row_join, split_blank (by simp) fun p hp => by
    rcases List.mem_cons.mp hp with rfl | hp
    · exact nm_free hn (by decide)
    · rw [List.mem_singleton.mp hp]
      exact tnum_free (by omega) (.inl (by decide))]
  show (if isNm n = true then _ else _) = _
  rw [if_pos hn, numF_of h1 h1 h2 (by omega)]
  rfl
theorem sndsF_of : ∀ {ps : List (Str × Int)} {i : Nat} {bf : Str}, (∀ p ∈ ps, isNm p.1 = true ∧ 0 ≤ p.2 ∧ p.2 ≤ 1000000000000) → (∀ p ∈ ps, leS p.1 bf = false) → (ps.Pairwise fun a b => leS b.1 a.1 = false) → i + ps.length ≤ 41 → sndsF i bf (ps.map fun p => rowS p.1 p.2) = .ok ps
  | [], _, _, _, _, _, _ => rfl
  | p :: r, i, bf, h1, h2, h3, h4 => by
    have a := h1 p List.mem_cons_self
    have b := h2 p List.mem_cons_self
    rw [List.length_cons] at h4
    have c := List.pairwise_cons.mp h3
    have ih := sndsF_of (ps := r) (i := i + 1) (bf := p.1) (fun q hq => h1 q (List.mem_cons_of_mem _ hq)) c.1 c.2 (by omega)
    show sndsF i bf (rowS p.1 p.2 :: r.map fun p => rowS p.1 p.2) = _
    unfold sndsF
    rw [sndRow_of a.1 a.2.1 a.2.2]
    show (if (leS p.1 bf || decide (40 < i)) = true then _ else _) = _
    rw [b, decide_eq_false (by omega), if_neg (by decide), ih]
/-- the table as it is read: in order -/
def srtT (t : Tab) : Tab := (nsT t).map fun n => (n, tval t n)
theorem srtT_asc {t : Tab} (nd : (keysT t).Nodup) : (srtT t).Pairwise fun a b => leS b.1 a.1 = false := by
  unfold srtT
  rw [List.pairwise_map]
  exact srtN_lt nd
theorem tval_mem {t : Tab} (nd : (keysT t).Nodup) {p : Str × Int} (hp : p ∈ t) : tval t p.1 = p.2 := by
  unfold tval
  rw [tget_of nd (show (p.1, p.2) ∈ t from hp)]
  rfl
theorem vals_map {t : Tab} (nd : (keysT t).Nodup) : valsT t = (keysT t).map (tval t) := by
  unfold valsT keysT
  rw [List.map_map]
  exact List.map_congr_left fun p hp => (tval_mem nd hp).symm
theorem srtT_vals (t : Tab) : valsT (srtT t) = (nsT t).map (tval t) := by
  unfold valsT srtT
  rw [List.map_map]
  exact List.map_congr_left fun _ _ => rfl
theorem srtT_perm {t : Tab} (nd : (keysT t).Nodup) : (valsT (srtT t)).Perm (valsT t) := by
  rw [srtT_vals, vals_map nd]
  exact (srtN_perm _).map _
theorem readL_of {b : Int} {t : Tab} (G : GoodT b t) (v : ∀ n, 0 ≤ tval t n ∧ tval t n ≤ 1000000000000) : readL (some (linkS b t)) = .ok (b, srtT t) := by
  have b1 := G.b1
  have b2 := G.b2
  have lG := G.len
  have lN := nsT_len t
  have nm : ∀ n ∈ nsT t, isNm n = true := fun n hn => G.nm n ((srtN_perm _).mem_iff.mp hn)
  have er : (nsT t).map (fun n => rowS n (tval t n)) = (srtT t).map fun p => rowS p.1 p.2 := by
    unfold srtT
    rw [List.map_map]
    exact List.map_congr_left fun _ _ => rfl
  have e1 : Txt.split (linkS b t) "\n" = headS b :: (srtT t).map fun p => rowS p.1 p.2 := by
    unfold linkS
    rw [er]
    refine split_join (y := lineS) line_tl (by decide +kernel) (by simp) fun p hp => ?_
    rcases List.mem_cons.mp hp with rfl | hp
    · unfold headS
      show 10 ∉ tl _
      rw [tl_append, List.mem_append]
      rintro (z | z)
      · exact absurd z (by decide +kernel)
      · exact tnum_free (by omega) (.inl (by decide)) z
    · obtain ⟨q, hq, rfl⟩ := List.mem_map.mp hp
      obtain ⟨n, hn, rfl⟩ := List.mem_map.mp hq
      unfold rowS
      show 10 ∉ tl _
      rw [tl_append, tl_append, List.mem_append, List.mem_append]
      rintro ((z | z) | z)
      · exact nm_free (nm n hn) (by decide) z
      · exact absurd z (by decide +kernel)
      · exact tnum_free (v n).1 (.inl (by decide)) z
  show readRows (Txt.split (linkS b t) "\n") = _
  rw [e1]
  unfold readRows
  rw [show (headS b :: (srtT t).map fun p => rowS p.1 p.2).headD "" = headS b from rfl, budRow_of b1 b2]
  show (match sndsF 1 "" ((srtT t).map fun p => rowS p.1 p.2) with | .error i => _ | .ok l => _) = _
  rw [sndsF_of (ps := srtT t) (fun p hp => by
    obtain ⟨n, hn, rfl⟩ := List.mem_map.mp hp
    exact ⟨nm n hn, v n⟩) (fun p hp => by
    obtain ⟨n, hn, rfl⟩ := List.mem_map.mp hp
    exact le_empty (nm n hn)) (srtT_asc G.nd) (by
    show 1 + (List.map _ _).length ≤ 41
    rw [List.length_map]
    omega)]
  show (if gapOf b (valsT (srtT t)) = none then _ else _) = _
  rw [gap_congr (srtT_perm G.nd), if_pos G.safe]
theorem joinL_in {s : Nat} : ∀ {ps : List (List Nat)} {c : Nat}, c ∈ TL.joinL [s] ps → c = s ∨ ∃ p ∈ ps, c ∈ p
  | [], _, h => nomatch h
  | [p], _, h => .inr ⟨p, List.mem_cons_self, h⟩
  | p :: q :: r, c, h => by
    have h : c ∈ p ++ ([s] ++ TL.joinL [s] (q :: r)) := h
    rcases List.mem_append.mp h with h | h
    · exact .inr ⟨p, List.mem_cons_self, h⟩
    · rcases List.mem_append.mp h with h | h
      · exact .inl (List.mem_singleton.mp h)
      · rcases joinL_in h with e | ⟨z, hz, e⟩
        · exact .inl e
        · exact .inr ⟨z, List.mem_cons_of_mem _ hz, e⟩
theorem num_asc {n : Int} (h : 0 ≤ n) : Asc (tnum n) := fun c hc => by
  by_cases z : c < 48 ∨ 57 < c
  · exact absurd hc (tnum_free h z)
  · omega
theorem app_asc {x y : Str} (h : Asc x) (g : Asc y) : Asc (x ++ y) := fun c hc => by
  have hc : c ∈ tl (x ++ y) := hc
  rw [tl_append] at hc
  rcases List.mem_append.mp hc with z | z
  · exact h c z
  · exact g c z
theorem link_asc {b : Int} {t : Tab} (G : GoodT b t) (v : ∀ n, 0 ≤ tval t n) : Asc (linkS b t) := fun c hc => by
  have b1 := G.b1
  have hc : c ∈ tl (linkS b t) := hc
  unfold linkS at hc
  rw [TL.join_eq, TL.tl_join, show TL.tl "\n" = [10] from line_tl] at hc
  rcases joinL_in hc with rfl | ⟨p, hp, hc⟩
  · decide
  · obtain ⟨x, hx, rfl⟩ := List.mem_map.mp hp
    have : Asc x := by
      rcases List.mem_cons.mp hx with rfl | hx
      · exact app_asc (ascB (by decide +kernel)) (num_asc (by omega))
      · obtain ⟨n, hn, rfl⟩ := List.mem_map.mp hx
        exact app_asc (app_asc (nm_asc (G.nm n ((srtN_perm _).mem_iff.mp hn))) (ascB (by decide +kernel))) (num_asc (v n))
    exact this c hc
/-! ### two links alike -/
theorem perm_keys {t u : Tab} (p : t.Perm u) : (keysT t).Perm (keysT u) := p.map _
theorem perm_vals {t u : Tab} (p : t.Perm u) : (valsT t).Perm (valsT u) := p.map _
theorem perm_in {t u : Tab} (p : t.Perm u) (n : Str) : n ∈ keysT t ↔ n ∈ keysT u := (perm_keys p).mem_iff
theorem perm_ord {t u : Tab} (p : t.Perm u) : ordP t = ordP u := ordP_eq ((ordP_perm t).trans (p.map _)) (ordP_sorted t)
theorem perm_poor {t u : Tab} (p : t.Perm u) : poorN t = poorN u := by
  unfold poorN
  rw [perm_ord p]
theorem perm_weak {t u : Tab} (p : t.Perm u) (b : Int) : weakN b t = weakN b u := by
  unfold weakN
  rw [perm_ord p, gap_congr (perm_vals p)]
theorem perm_nd {t u : Tab} (p : t.Perm u) (nd : (keysT t).Nodup) : (keysT u).Nodup := (perm_keys p).nodup_iff.mp nd
theorem perm_get {t u : Tab} (p : t.Perm u) (nd : (keysT t).Nodup) (n : Str) : tget t n = tget u n := by
  by_cases h : n ∈ keysT t
  · obtain ⟨q, hq, rfl⟩ := List.mem_map.mp h
    rw [tget_of nd (show (q.1, q.2) ∈ t from hq), tget_of (perm_nd p nd) (show (q.1, q.2) ∈ u from p.mem_iff.mp hq)]
  · rw [tget_none.mpr h, tget_none.mpr fun z => h ((perm_in p n).mpr z)]
theorem perm_val {t u : Tab} (p : t.Perm u) (nd : (keysT t).Nodup) (n : Str) : tval t n = tval u n := by
  unfold tval
  rw [perm_get p nd]
theorem perm_put {t u : Tab} (p : t.Perm u) (n : Str) (v : Int) : (tput t n v).Perm (tput u n v) := by
  by_cases h : n ∈ keysT t
  · rw [tput_old v h, tput_old v ((perm_in p n).mp h)]
    exact p.map _
  · rw [tput_new v h, tput_new v fun z => h ((perm_in p n).mpr z)]
    exact p.append_right _
theorem perm_drop {t u : Tab} (p : t.Perm u) (n : Str) : (tdrop t n).Perm (tdrop u n) := p.filter _
theorem perm_known {t u : Tab} (p : t.Perm u) (d : PyData) : knownD t d = knownD u d := by
  unfold knownD
  cases nameD d with
  | none => rfl
  | some n =>
    show (if n ∈ keysT t then some n else none) = (if n ∈ keysT u then some n else none)
    by_cases h : n ∈ keysT t
    · rw [if_pos h, if_pos ((perm_in p n).mp h)]
    · rw [if_neg h, if_neg fun z => h ((perm_in p n).mpr z)]
theorem perm_after : ∀ (l : List (Str × Int)) {t u : Tab}, t.Perm u → (keysT t).Nodup → (afterS t l).Perm (afterS u l) ∧ (keysT (afterS t l)).Nodup
  | [], _, _, p, nd => ⟨p, nd⟩
  | q :: r, t, u, p, nd => by
    show (afterS (tput t q.1 (tval t q.1 - q.2)) r).Perm (afterS (tput u q.1 (tval u q.1 - q.2)) r) ∧ _
    rw [← perm_val p nd]
    exact perm_after r (perm_put p q.1 (tval t q.1 - q.2)) (tput_nd _ nd)
theorem perm_grant {t u : Tab} (p : t.Perm u) (nd : (keysT t).Nodup) (g : Int) : (grantT g t).Perm (grantT g u) := by
  unfold grantT
  rw [perm_poor p]
  cases poorN u with
  | none => exact p
  | some n =>
    show (tput t n (tval t n + g)).Perm (tput u n (tval u n + g))
    rw [perm_val p nd]
    exact perm_put p _ _
theorem perm_ns {t u : Tab} (p : t.Perm u) : nsT t = nsT u := srtN_eq ((srtN_perm _).trans (perm_keys p)) (srtN_sorted _)
theorem perm_linkS {t u : Tab} (p : t.Perm u) (nd : (keysT t).Nodup) (b : Int) : linkS b t = linkS b u := by
  unfold linkS
  rw [perm_ns p]
  congr 2
  exact List.map_congr_left fun n _ => by rw [perm_val p nd]
def PairP (a b : Int × Tab) : Prop := a.1 = b.1 ∧ a.2.Perm b.2
/-- the shorter past lies within the longer, from its end -/
inductive PX : List (Int × Tab) → List (Int × Tab) → Prop
  | nil (l : List (Int × Tab)) : PX l []
  | cons {a b : Int × Tab} {l m : List (Int × Tab)} : PairP a b → PX l m → PX (a :: l) (b :: m)
/-- s went on beside r, r began later -/
structure Alike (s r : LkS) : Prop where
  b : s.b = r.b
  t : s.t.Perm r.t
  past : PX s.past.reverse r.past.reverse
inductive OutA : Out → Out → Prop
  | ok {d : PyData} {s r : LkS} : Alike s r → OutA (.ok d s) (.ok d r)
  | bad (x : Ex) (v : PyData) : OutA (.bad x v) (.bad x v)
theorem alike_keep {s r : LkS} (h : Alike s r) {b : Int} {t u : Tab} (p : t.Perm u) (d : PyData) : OutA (keepF s b t d) (keepF r b u d) := by
  unfold keepF
  refine .ok ⟨rfl, p, ?_⟩
  show PX (s.past ++ [(s.b, s.t)]).reverse (r.past ++ [(r.b, r.t)]).reverse
  rw [List.reverse_append, List.reverse_append]
  exact .cons ⟨h.b, h.t⟩ h.past
theorem alike_change {s r : LkS} (h : Alike s r) {b : Int} {t u : Tab} (p : t.Perm u) (d : PyData) : OutA (changeF s b t d) (changeF r b u d) := by
  unfold changeF
  rw [perm_weak p]
  cases weakN b u with
  | none => exact alike_keep h p d
  | some W => exact .bad _ _
theorem alike_undo {s r : LkS} (h : Alike s r) (hr : r.past ≠ []) : OutA (undoF s) (undoF r) := by
  obtain ⟨sb, st, sp⟩ := s
  obtain ⟨rb, rt, rp⟩ := r
  have hp : PX sp.reverse rp.reverse := h.past
  have e1 : sp = sp.reverse.reverse := sp.reverse_reverse.symm
  have e2 : rp = rp.reverse.reverse := rp.reverse_reverse.symm
  have hr : rp ≠ [] := hr
  generalize sp.reverse = x at *
  generalize rp.reverse = y at *
  subst e1 e2
  cases hp with
  | nil => exact absurd rfl hr
  | cons a b =>
    rename_i p l q m
    unfold undoF
    dsimp only
    rw [List.reverse_cons, List.reverse_cons, List.getLast?_concat, List.getLast?_concat, List.dropLast_concat, List.dropLast_concat]
    exact .ok ⟨a.1, a.2, by show PX (List.reverse (List.reverse _)) (List.reverse (List.reverse _)); rw [List.reverse_reverse, List.reverse_reverse]; exact b⟩
theorem alike_call {s r : LkS} (h : Alike s r) (nd : (keysT s.t).Nodup) (hl : s.t.length = r.t.length) (wd : Str) (ds : List PyData) (hu : wd = "undo" → r.past ≠ []) (hk : ∃ n, ArC wd n ∧ ds.length = n) : OutA (callF wd s ds) (callF wd r ds) := by
  obtain ⟨n, ar, hn⟩ := hk
  cases ar with
  | enter =>
    rw [call_enter, call_enter]
    match ds, hn with
    | [a, b], _ =>
      show OutA (enterF s a b) (enterF r a b)
      unfold enterF
      cases nameD a with
      | none => exact .bad _ _
      | some n =>
        show OutA (if n ∈ keysT s.t then _ else _) (if n ∈ keysT r.t then _ else _)
        by_cases c : n ∈ keysT s.t
        · rw [if_pos c, if_pos ((perm_in h.t n).mp c)]
          exact .bad _ _
        · rw [if_neg c, if_neg fun z => c ((perm_in h.t n).mpr z)]
          cases amtD b with
          | none => exact .bad _ _
          | some v =>
            show OutA (if 40 ≤ s.t.length then _ else _) (if 40 ≤ r.t.length then _ else _)
            rw [hl]
            by_cases c2 : 40 ≤ r.t.length
            · rw [if_pos c2, if_pos c2]
              exact .bad _ _
            · rw [if_neg c2, if_neg c2, h.b]
              exact alike_change h (perm_put h.t _ _) _
  | leave =>
    rw [call_leave, call_leave]
    match ds, hn with
    | [a], _ =>
      show OutA (leaveF s a) (leaveF r a)
      unfold leaveF
      rw [perm_known h.t]
      cases knownD r.t a with
      | none => exact .bad _ _
      | some n =>
        dsimp only
        rw [perm_val h.t nd, h.b]
        exact alike_keep h (perm_drop h.t _) _
  | deposit =>
    rw [call_deposit, call_deposit]
    match ds, hn with
    | [a, b], _ =>
      show OutA (depositF s a b) (depositF r a b)
      unfold depositF
      rw [perm_known h.t]
      cases knownD r.t a with
      | none => exact .bad _ _
      | some n =>
        dsimp only
        cases amtD b with
        | none => exact .bad _ _
        | some v =>
          dsimp only
          rw [perm_val h.t nd, h.b]
          exact alike_keep h (perm_put h.t _ _) _
  | withdraw =>
    rw [call_withdraw, call_withdraw]
    match ds, hn with
    | [a, b], _ =>
      show OutA (withdrawF s a b) (withdrawF r a b)
      unfold withdrawF
      rw [perm_known h.t]
      cases knownD r.t a with
      | none => exact .bad _ _
      | some n =>
        dsimp only
        cases amtD b with
        | none => exact .bad _ _
        | some v =>
          dsimp only
          rw [perm_val h.t nd, h.b]
          exact alike_change h (perm_put h.t _ _) _
  | transfer =>
    rw [call_transfer, call_transfer]
    match ds, hn with
    | [a, b, c], _ =>
      show OutA (transferF s a b c) (transferF r a b c)
      unfold transferF
      rw [perm_known h.t, perm_known h.t]
      cases knownD r.t a with
      | none => exact .bad _ _
      | some n =>
        dsimp only
        cases knownD r.t b with
        | none => exact .bad _ _
        | some m =>
          dsimp only
          cases amtD c with
          | none => exact .bad _ _
          | some v =>
            dsimp only
            rw [h.b]
            refine alike_change h ?_ _
            unfold moveT
            have p1 := perm_put h.t n (tval s.t n - v)
            rw [perm_val p1 (tput_nd _ nd), perm_val h.t nd]
            rw [perm_val h.t nd] at p1
            exact perm_put p1 _ _
  | budget =>
    rw [call_budget, call_budget]
    match ds, hn with
    | [a], _ =>
      show OutA (budgetF s a) (budgetF r a)
      unfold budgetF
      cases budD a with
      | none => exact .bad _ _
      | some v => exact alike_change h h.t _
  | tick =>
    rw [call_tick, call_tick]
    match ds, hn with
    | [a], _ =>
      show OutA (tickF s a) (tickF r a)
      unfold tickF
      cases spendsD a with
      | none => exact .bad _ _
      | some l =>
        dsimp only
        have e : (l.find? fun p => decide (p.1 ∉ keysT s.t)) = l.find? fun p => decide (p.1 ∉ keysT r.t) := by
          congr 1
          funext p
          exact decide_eq_decide.mpr (not_congr (perm_in h.t p.1))
        rw [e]
        cases l.find? fun p => decide (p.1 ∉ keysT r.t) with
        | some p => exact .bad _ _
        | none =>
          dsimp only
          rw [h.b]
          by_cases c : r.b < totS l
          · rw [if_pos c, if_pos c]
            exact .bad _ _
          · rw [if_neg c, if_neg c]
            have pa := perm_after l h.t nd
            rw [perm_poor pa.1]
            exact alike_keep h (perm_grant pa.1 pa.2 _) _
  | undo =>
    rw [call_undo, call_undo]
    exact alike_undo h (hu rfl)
theorem lb_congr {g m : Int} {a b : List Int} (p : a.Perm b) : IsLB g a m ↔ IsLB g b m := ⟨fun h => h.congr p, fun h => h.congr p.symm⟩
theorem lbZ_perm {b : Int} {t u : Tab} (p : t.Perm u) (n : Str) : lbZ b t n = lbZ b u n := by
  unfold lbZ
  congr 1
  funext m
  exact propext (lb_congr (perm_vals (perm_drop p n)))
theorem alike_done {s r : LkS} (h : Alike s r) (nd : (keysT s.t).Nodup) {wd : Str} {ds : List PyData} (hu : wd = "undo" → r.past ≠ []) (ar : ArH wd ds.length) : OutA (doneF wd s ds) (doneF wd r ds) := by
  have told : ∀ {o o' : Out}, OutA o o' → OutA (tellO wd o) (tellO wd o') := fun z => by
    cases z with
    | ok a => exact .ok a
    | bad x v => exact .bad x v
  have call : (∃ n, ArC wd n ∧ ds.length = n) → (¬ wd = "balance" ∧ ¬ wd = "spare" ∧ ¬ wd = "total" ∧ ¬ wd = "list") → OutA (doneF wd s ds) (doneF wd r ds) := fun hk hn => by
    rw [done_call hn, done_call hn]
    exact told (alike_call h nd h.t.length_eq wd ds hu hk)
  generalize hn : ds.length = n at ar
  cases ar with
  | enter => exact call ⟨_, .enter, hn⟩ h_enter
  | deposit => exact call ⟨_, .deposit, hn⟩ h_deposit
  | withdraw => exact call ⟨_, .withdraw, hn⟩ h_withdraw
  | transfer => exact call ⟨_, .transfer, hn⟩ h_transfer
  | budget => exact call ⟨_, .budget, hn⟩ h_budget
  | undo => exact call ⟨_, .undo 0, hn⟩ h_undo
  | ask ar =>
    cases ar with
    | leave => exact call ⟨_, .leave, hn⟩ h_leave_balance
    | tick => exact call ⟨_, .tick, hn⟩ h_tick
    | balance =>
      match ds, hn with
      | [d], _ =>
        rw [show doneF "balance" s [d] = balF s d from if_pos rfl, show doneF "balance" r [d] = balF r d from if_pos rfl]
        unfold balF
        rw [perm_known h.t]
        cases knownD r.t d with
        | none => exact .bad _ _
        | some n =>
          dsimp only
          rw [perm_val h.t nd]
          exact .ok h
    | spare =>
      match ds, hn with
      | [d], _ =>
        rw [show doneF "spare" s [d] = spareF s d from (if_neg a_spare_balance).trans (if_pos rfl), show doneF "spare" r [d] = spareF r d from (if_neg a_spare_balance).trans (if_pos rfl)]
        unfold spareF
        rw [perm_known h.t]
        cases knownD r.t d with
        | none => exact .bad _ _
        | some n =>
          dsimp only
          rw [perm_val h.t nd, h.b, lbZ_perm h.t]
          exact .ok h
    | total =>
      rw [show doneF "total" s ds = .ok (.str (tnum (valsT s.t).sum)) s from (if_neg a_total_balance).trans ((if_neg a_total_spare).trans (if_pos rfl)), show doneF "total" r ds = .ok (.str (tnum (valsT r.t).sum)) r from (if_neg a_total_balance).trans ((if_neg a_total_spare).trans (if_pos rfl)), perm_sum (perm_vals h.t)]
      exact .ok h
    | list =>
      have e : listS s = listS r := by
        unfold listS
        rw [h.b, perm_linkS h.t nd]
      rw [show doneF "list" s ds = .ok (.str (listS s)) s from (if_neg a_list_balance).trans ((if_neg a_list_spare).trans ((if_neg a_list_total).trans (if_pos rfl))), show doneF "list" r ds = .ok (.str (listS r)) r from (if_neg a_list_balance).trans ((if_neg a_list_spare).trans ((if_neg a_list_total).trans (if_pos rfl))), e]
      exact .ok h
/-! ### what a drawn call tells is shown -/
open TL
theorem in_joinL {S : List Nat} : ∀ {ps : List (List Nat)} {p : List Nat} {c : Nat}, p ∈ ps → c ∈ p → c ∈ TL.joinL S ps
  | [q], p, c, h, hc => by
    rw [List.mem_singleton.mp h] at hc
    exact hc
  | a :: b :: r, p, c, h, hc => by
    show c ∈ a ++ (S ++ TL.joinL S (b :: r))
    rcases List.mem_cons.mp h with rfl | h
    · exact List.mem_append_left _ hc
    · exact List.mem_append_right _ (List.mem_append_right _ (in_joinL h hc))
theorem of_joinL {S : List Nat} : ∀ {ps : List (List Nat)} {c : Nat}, c ∈ TL.joinL S ps → c ∈ S ∨ ∃ p ∈ ps, c ∈ p
  | [], _, h => nomatch h
  | [p], _, h => .inr ⟨p, List.mem_cons_self, h⟩
  | p :: q :: r, c, h => by
    have h : c ∈ p ++ (S ++ TL.joinL S (q :: r)) := h
    rcases List.mem_append.mp h with h | h
    · exact .inr ⟨p, List.mem_cons_self, h⟩
    · rcases List.mem_append.mp h with h | h
      · exact .inl h
      · rcases of_joinL h with e | ⟨z, hz, e⟩
        · exact .inl e
        · exact .inr ⟨z, List.mem_cons_of_mem _ hz, e⟩
theorem slash_asc {x : Str} (h : Asc x) : Asc (Txt.replace x lineS slashS) := fun c hc => by
  have el : lineS = (⟨#[10]⟩ : Str) := ext_tl line_tl
  have hc : c ∈ tl (Txt.replace x lineS slashS) := hc
  rw [el, StrLaws.replace_one, TL.tl_join] at hc
  rcases of_joinL hc with z | ⟨p, hp, z⟩
  · have : ∀ c ∈ tl slashS, c < 128 := by decide +kernel
    exact this c z
  · obtain ⟨y, hy, rfl⟩ := List.mem_map.mp hp
    refine h c ?_
    have back := line_back x
    rw [show ("\n" : Str) = (⟨#[10]⟩ : Str) from el] at back
    show c ∈ tl x
    rw [← back, TL.join_eq, TL.tl_join]
    exact in_joinL (List.mem_map_of_mem hy) z
theorem slash_len (x : Str) : (Txt.replace x lineS slashS).length ≤ x.length + (x.length + 1) * 3 := by
  have h := TK.replace_len x lineS slashS
  rw [show slashS.length = 3 by decide +kernel] at h
  exact h
theorem lb_ex (g : Int) (ns : List Int) : ∃ m, IsLB g ns m := by
  have go : ∀ n : Nat, ∃ m : Int, (∀ k, k ≤ n → R g (k + 1) ≤ SS ns k + m) ∧ ∃ k, k ≤ n ∧ R g (k + 1) = SS ns k + m := by
    intro n
    induction n with
    | zero =>
      refine ⟨R g (0 + 1) - SS ns 0, fun k hk => ?_, 0, Nat.le_refl _, by omega⟩
      have : k = 0 := by omega
      subst this
      omega
    | succ n ih =>
      obtain ⟨m, h1, k, hk, ek⟩ := ih
      by_cases c : R g (n + 1 + 1) ≤ SS ns (n + 1) + m
      · refine ⟨m, fun j hj => ?_, k, by omega, ek⟩
        by_cases z : j = n + 1
        · subst z
          exact c
        · exact h1 j (by omega)
      · refine ⟨R g (n + 1 + 1) - SS ns (n + 1), fun j hj => ?_, n + 1, Nat.le_refl _, by omega⟩
        by_cases z : j = n + 1
        · subst z
          omega
        · have := h1 j (by omega)
          omega
  exact go ns.length
def outY : Out → PyData
  | .ok r _ => .tuple [.str "returns", r]
  | .bad x v => .tuple [.str (erW x), erV x v]
theorem OutA.outY {o o' : Out} (h : OutA o o') : outY o = outY o' := by
  cases h with
  | ok a => rfl
  | bad x v => rfl
theorem OutA.outS {s r : LkS} {o o' : Out} (h : OutA o o') (a : Alike s r) : Alike (outS s o) (outS r o') := by
  cases h with
  | ok a => exact a
  | bad x v => exact a
theorem erW_asc (x : Ex) : Asc (erW x) ∧ (erW x).length ≤ 8 := by cases x <;> exact ⟨ascB (by decide +kernel), by decide +kernel⟩
theorem num_le {n : Int} (h0 : 0 ≤ n) (h1 : n < 10000000000000000000000) : (tnum n).length ≤ 22 := num_len h0 h1
theorem done_shows {wd : Str} {s : LkS} {ds : List PyData} (G : Good s) (sh : Shn s) (A : ArgsOk 5 20000 ds) (ar : ArH wd ds.length) : Shows (outY (doneF wd s ds)) := by
  have F : ∀ {x : Str} {v : PyData}, Asc x → x.length ≤ 8 → Shw 5 v → szD v ≤ 1000000 → Shows (.tuple [.str x, v]) := fun hx hl hv hz => by
    refine (shw_two (by omega) hx hv).shows (by omega) ?_
    simp only [szD, szA]
    omega
  have R : ∀ {x : Str} {s' : LkS}, Asc x → x.length ≤ 20000 → Shows (outY (.ok (.str x) s')) := fun hx hl => F (ascB (by decide +kernel)) (by decide +kernel) ((shw_str hx).mono (by decide)) (by simp only [szD]; omega)
  have B : ∀ {x : Ex} {v : PyData}, Shw 5 v → szD v ≤ 1000000 → Shows (outY (.bad x v)) := fun {x v} hv hz => by
    refine F (erW_asc x).1 (erW_asc x).2 ?_ ?_
    · unfold erV
      split
      · exact hv
      · exact shw_none.mono (by decide)
    · unfold erV
      split
      · exact hz
      · decide
  have N : ∀ {n : Int} {s' : LkS}, 0 ≤ n → n < 10000000000000000000000 → Shows (outY (.ok (.str (tnum n)) s')) := fun h0 h1 => R (num_asc h0) (by have := num_le h0 h1; omega)
  have call : ArC wd ds.length → (¬ wd = "balance" ∧ ¬ wd = "spare" ∧ ¬ wd = "total" ∧ ¬ wd = "list") → Shows (outY (doneF wd s ds)) := fun hk hn => by
    rw [done_call hn]
    cases ho : callF wd s ds with
    | ok r s' =>
      show Shows (outY (.ok (.str (tellR wd r)) s'))
      have nx := (call_next G ho).1
      have E0 : ∀ {z : LkS}, Shows (outY (.ok (.str "") z)) := R (ascB (by decide +kernel)) (by decide +kernel)
      have E1 : ∀ {z : LkS}, Shows (outY (.ok (.str "-") z)) := R (ascB (by decide +kernel)) (by decide +kernel)
      unfold tellR
      split
      · rcases nx with rfl | ⟨n, hn, rfl⟩ | ⟨n, hn, rfl⟩
        · exact E0
        · exact N (sh.val n).1 (sh.val n).2
        · exact E0
      · split
        · rcases nx with rfl | ⟨n, hn, rfl⟩ | ⟨n, hn, rfl⟩
          · exact E1
          · exact E1
          · exact R (x := n) (nm_asc hn) (by have := nm_len hn; omega)
        · exact R (ascB (by decide +kernel)) (by decide +kernel)
    | bad x v =>
      show Shows (outY (.bad x v))
      refine B ?_ ?_
      · rcases call_bad G hk ho with h | rfl | ⟨n, hn, rfl⟩ | ⟨W, rfl, hl, hn⟩ | ⟨d, hd, l, el, rfl⟩
        · exact A.sh v h
        · exact shw_none.mono (by omega)
        · exact (shw_str (nm_asc hn)).mono (by omega)
        · exact (strs_shw hn).mono (by omega)
        · have h1 := A.tot d hd l el
          obtain ⟨_, hl, _⟩ := spendsD_ok el
          have h0 := totS_nn l fun p hp => (hl p hp).2
          exact (shw_int (by omega)).mono (by omega)
      · rcases call_bad G hk ho with h | rfl | ⟨n, hn, rfl⟩ | ⟨W, rfl, hl, hn⟩ | ⟨d, hd, l, el, rfl⟩
        · exact Nat.le_trans (A.sz v h) (by decide)
        · decide
        · have := nm_len hn
          simp only [szD]
          omega
        · have := strs_sz hn
          omega
        · exact (by decide : szD (.int 0) ≤ 1000000)
  generalize hn : ds.length = n at ar
  cases ar with
  | enter => exact call (by rw [hn]; exact .enter) h_enter
  | deposit => exact call (by rw [hn]; exact .deposit) h_deposit
  | withdraw => exact call (by rw [hn]; exact .withdraw) h_withdraw
  | transfer => exact call (by rw [hn]; exact .transfer) h_transfer
  | budget => exact call (by rw [hn]; exact .budget) h_budget
  | undo => exact call (by rw [hn]; exact .undo 0) h_undo
  | ask ar =>
    cases ar with
    | leave => exact call (by rw [hn]; exact .leave) h_leave_balance
    | tick => exact call (by rw [hn]; exact .tick) h_tick
    | balance =>
      match ds, hn with
      | [d], _ =>
        rw [show doneF "balance" s [d] = balF s d from if_pos rfl]
        unfold balF
        cases knownD s.t d with
        | none => exact B (A.sh d List.mem_cons_self) (Nat.le_trans (A.sz d List.mem_cons_self) (by decide))
        | some n => exact N (sh.val n).1 (sh.val n).2
    | spare =>
      match ds, hn with
      | [d], _ =>
        rw [show doneF "spare" s [d] = spareF s d from (if_neg a_spare_balance).trans (if_pos rfl)]
        unfold spareF
        cases ek : knownD s.t d with
        | none => exact B (A.sh d List.mem_cons_self) (Nat.le_trans (A.sz d List.mem_cons_self) (by decide))
        | some n =>
          have hk := (knownD_in ek).1
          obtain ⟨m, lb⟩ := lb_ex s.b (valsT (tdrop s.t n))
          have b := lb_bound G.now hk lb
          have v := (sh.val n).2
          rw [lbZ_of lb] at b
          exact N b.1 (by omega)
    | total =>
      rw [show doneF "total" s ds = .ok (.str (tnum (valsT s.t).sum)) s from (if_neg a_total_balance).trans ((if_neg a_total_spare).trans (if_pos rfl))]
      exact N sh.sum.1 sh.sum.2
    | list =>
      rw [show doneF "list" s ds = .ok (.str (listS s)) s from (if_neg a_list_balance).trans ((if_neg a_list_spare).trans ((if_neg a_list_total).trans (if_pos rfl)))]
      have l1 := join_le lineS (headS s.b :: (nsT s.t).map fun n => rowS n (tval s.t n))
      have l2 := link_len G sh.val
      have l3 := slash_len (linkS s.b s.t)
      have l4 : (linkS s.b s.t).length ≤ 3000 := Nat.le_trans l1 l2
      exact R (slash_asc (link_asc G.now fun n => (sh.val n).1)) (by show (Txt.replace _ _ _).length ≤ _; omega)
/-! ### k66 -/
theorem erV_big {x : Ex} (h : 8 ≤ x.num) (d : PyData) : erV x d = .none := if_neg fun z => by have := erI_num x z; omega
/-- _law_met over a call of one link -/
theorem met_go {K : PySem.W.Frag} {C : Addr} {T : List (Addr × Str)} {X : LkX} {N : Addr → Prop} {H : Hp} {p q : Addr} {s : LkS} {o : Out} {Q R : VK} (L : LkAt C H p q s) (fin : ∀ v H', Ks T (Two p q) H H' → LkAt C H' p q (outS s o) → Db K N H' v (outY o) → Q v H')
    (hR : ∀ v H1, (∀ u H2, Kp [] H1 H2 → H2 u = some (.tup [.str "returns", v]) → Q (.ref u) H2) → R v H1) : OutP K C T X N H p q o R (CauM K X Q) := by
  cases o with
  | ok r s' => exact fun v6 H6 k6 L6 d6 => hR v6 H6 fun u2 H7 k7 h7 => fin (.ref u2) H7 (k6.kp k7) (L6.kp k7) (.tup (sqT h7) (.cons (.str _) (.cons (d6.stay k7.stay) .nil)))
  | bad x dv =>
    refine outP_bad (fun h8 H6 k6 => ?_) (fun h8 u6 d6 H6 k6 hu6 nd6 => ?_)
    · refine ⟨x, .non, .none, N, rfl, (fun z => absurd z (by omega)), (fun _ => rfl), .non, fun v3 H7 k7 d7 => fin v3 H7 (.of (k6.kp k7)) ((L.kt k6).kp k7) ?_⟩
      rw [erV_big h8] at d7
      show Db K N H7 v3 (.tuple [.str (erW x), erV x dv])
      rw [erV_big h8]
      exact d7
    · exact ⟨x, u6, dv, N, rfl, (fun _ => ⟨d6, rfl, upd_same⟩), (fun z => absurd z (by omega)), hu6.stay (Kp.new nd6).stay, fun v3 H7 k7 d7 => fin v3 H7 (.of (k6.kp ((Kp.new nd6).trans k7))) ((L.kt k6).kp ((Kp.new nd6).trans k7)) d7⟩
theorem noTabZ {C : Addr} {H : Hp} {p q : Addr} {s : LkS} (h : LkAt C H p q s) : NoTab (Two p q) H := by
  obtain ⟨⟨dx, d, h1, h2⟩, vs, h3, h4⟩ := h
  rintro a (rfl | rfl)
  · rw [h1]
    exact ⟨(fun xs z => nomatch z), fun t z => nomatch z⟩
  · rw [h3]
    exact ⟨(fun xs z => nomatch z), fun t z => nomatch z⟩
theorem undo_ok {s : LkS} {l : List (Int × Tab)} {c : Int × Tab} (h : s.past = l ++ [c]) : undoF s = .ok .none ⟨c.1, c.2, l⟩ := by
  unfold undoF
  rw [h, List.getLast?_concat, List.dropLast_concat]
theorem undo_good {s s' : LkS} {d : PyData} (G : Good s) (h : undoF s = .ok d s') : Good s' := (call_next G ((call_undo s []).trans h)).good G
theorem undo_bot {s s' : LkS} {d : PyData} (G : Good s) (B : Bot s) (h : undoF s = .ok d s') : Bot s' := (call_next G ((call_undo s []).trans h)).bot B
theorem undo_sm {M : Int} {s s' : LkS} {d : PyData} (S : SmS M s) (h : undoF s = .ok d s') : SmS M s' := by
  unfold undoF at h
  cases e : s.past.getLast? with
  | none => rw [e] at h; cases h
  | some p =>
    rw [e] at h
    cases h
    exact ⟨S.old p (List.mem_of_getLast? e), fun q hq => S.old q (List.dropLast_subset _ hq)⟩
/-- two links side by side -/
structure Pairs (C : Addr) (H : Hp) (p q p2 q2 : Addr) (s r : LkS) (M : Int) : Prop where
  A : LkAt C H p q s
  B : LkAt C H p2 q2 r
  al : Alike s r
  gs : Good s
  gr : Good r
  sm : SmS M s
  bot : Bot s
structure Apart (p q p2 q2 : Addr) : Prop where
  pp : p ≠ p2
  pq : p ≠ q2
  qp : q ≠ p2
  qq : q ≠ q2
def Four (p q p2 q2 : Addr) : Addr → Prop := fun x => Two p q x ∨ Two p2 q2 x
theorem Pairs.kp {C : Addr} {H H' : Hp} {p q p2 q2 : Addr} {s r : LkS} {M : Int} (h : Pairs C H p q p2 q2 s r M) (k : Kp [] H H') : Pairs C H' p q p2 q2 s r M := ⟨h.A.kp k, h.B.kp k, h.al, h.gs, h.gr, h.sm, h.bot⟩
theorem Apart.l {p q p2 q2 : Addr} (h : Apart p q p2 q2) : ¬ Two p2 q2 p ∧ ¬ Two p2 q2 q := ⟨fun z => z.elim h.pp h.pq, fun z => z.elim h.qp h.qq⟩
theorem Apart.r {p q p2 q2 : Addr} (h : Apart p q p2 q2) : ¬ Two p q p2 ∧ ¬ Two p q q2 := ⟨fun z => z.elim (fun w => h.pp w.symm) (fun w => h.qp w.symm), fun z => z.elim (fun w => h.pq w.symm) (fun w => h.qq w.symm)⟩
def sp_l_back (C : Addr) (T : List (Addr × Str)) : Sp := fun vs H Q _ => ∃ (p q p2 q2 F : Addr) (s r : LkS), vs = [.ref p, .ref p2, .ref F] ∧ Pairs C H p q p2 q2 s r 1000000000000000 ∧ Apart p q p2 q2 ∧ s.past.length ≤ 1000 ∧ H F = some (.lst ((r.past.map fun c => linkS c.1 c.2).map V.str)) ∧ Tabs T H ∧
  ∀ H', Ks T (Four p q p2 q2) H H' → Q (.bl true) H'
theorem PX.len {l m : List (Int × Tab)} (h : PX l m) : m.length ≤ l.length := by
  induction h with
  | nil l => exact Nat.zero_le _
  | cons a b ih => exact Nat.succ_le_succ ih
theorem Alike.len {s r : LkS} (h : Alike s r) : r.past.length ≤ s.past.length := by
  have := h.past.len
  rw [List.length_reverse, List.length_reverse] at this
  exact this
theorem ok__law_back_right {f c pt C : Addr} {fd : FuncData} {k : Nat} {T : List (Addr × Str)} {X : LkX} (F : Fun K "_law_back_right" "_law_back_right" s__law_back_right f fd) (LC : LinkC K C) (hcd : fd.code = .ref c) (TB : TabB base mg c pt) (hmT : (pt, qLam "_law_back_right") ∈ T) (huT : ∀ r ∈ T, r.1 = pt → r.2 = qLam "_law_back_right")
    (M_undo : ClM P w K mg base (L2.CX P w) 1 C "undo" (sp_op K C T X 0 (fun s _ => undoF s))) (M_changes : ClM P w K mg base CX0 1 C "changes" (sp_Link_changes C)) (M_names : ClM P w K mg base CX0 1 C "names" (sp_Link_names K C)) (M_total : ClM P w K mg base CX0 1 C "total" (sp_Link_total C)) (C_show_link : Cl P w K mg base CX0 5 "show_link" 1 (sp_show_link K C)) (X_l_met : ClH P w K mg base 12 "_law_met" (TTmet K X)) :
    FnG P w K mg base CX0 (k + 14) f fd ["_law_link", "_law_read", "_law_texts"] (sp_l_back C T) := by
  refine okC F hcd sc__law_back_right (fun vs H Q E h => ?_) (fun A outer s H vs Q E gd hr h => ?_)
  · obtain ⟨p, q, p2, q2, F, s, r, rfl, _⟩ := h
    rfl
  · obtain ⟨p, q, p2, q2, FO, s0, r0, rfl, D, ap, pl, hF, hT, out⟩ := h
    refine ⟨_, (pss_cons (ps_forW PassesOwn.never rfl (pi_list (pe_revL (pv 2))) (pg_name (i := 3) sc__law_back_right.nd rfl (.inl rfl))
      (pss_cons (ps_if (pt_cmpR op_eq (pe_clM0 (E := fun _ _ _ _ => False) LC.cls M_changes (hr.mono (by omega)) gd passG (pv 1)) pe_int (nomark _))
      (pss_one (ps_ret pe_bl))
      pss_nil)
      (pss_cons (ps_expr (pe_clM0 (E := fun _ _ _ _ => False) LC.cls M_undo (hr.mono (by omega)) gd passFS (pv 1)))
      (pss_cons (ps_expr (pe_clM0 (E := fun _ _ _ _ => False) LC.cls M_undo (hr.mono (by omega)) gd passFS (pv 0)))
      (pss_one (ps_if (PW.pt (pw_or (pt_cmpR op_ne (pe_cl C_show_link (hr.mono (by omega)) gd pass0 (by rfl) (pa_cons (pv 1) pa_nil)) (pv 3) (nomark _)) (pw_or1 (pt_cmpR op_ne (pe_cl C_show_link (hr.mono (by omega)) gd pass0 (by rfl) (pa_cons (pv 0) pa_nil)) (pv 3) (nomark _)))))
      (pss_one (ps_ret pe_bl))
      pss_nil))))))
      (pss_cons (ps_if (PW.pt (pw_or (pt_cmpR op_ne (pe_clM0 (E := fun _ _ _ _ => False) LC.cls M_changes (hr.mono (by omega)) gd passG (pv 1)) pe_int (nomark _)) (pw_or1 (pt_cmpR (op_neDK (K := K) rfl hr) (pe_hand X_l_met (by rfl) TB rfl hmT huT (hr.mono (by omega)) gd (LamX.lamS_by (sc := defScope s__law_back_right) (by decide +kernel)) rfl (fun _ _ _ _ _ => rfl) (fun _ _ _ _ _ _ _ gd hr => (pe_clM0 LC.cls M_undo (hr.mono (by omega)) gd (fun σ => passAt (takes_of rfl rfl rfl rfl) σ) (pv 1)))) (pe_ta (pa_cons pe_str (pa_cons pe_non pa_nil))) (nomark _)))))
      (pss_one (ps_ret pe_bl))
      pss_nil)
      (pss_cons (ps_while PassesOwn.never (pt_cmpR op_gt (pe_clM0 (E := fun _ _ _ _ => False) LC.cls M_changes (hr.mono (by omega)) gd passG (pv 0)) pe_int (nomark _))
      (pss_one (ps_expr (pe_clM0 (E := fun _ _ _ _ => False) LC.cls M_undo (hr.mono (by omega)) gd passFS (pv 0)))))
      (pss_one (ps_ret (pe_and (pe_cmpR (op_eqE (K := K) rfl hr) (pe_clM0 (E := fun _ _ _ _ => False) LC.cls M_names (hr.mono (by omega)) gd passG (pv 0)) (pe_ti pa_nil) (nomark _)) (pe_one (pe_cmpR op_eq (pe_clM0 (E := fun _ _ _ _ => False) LC.cls M_total (hr.mono (by omega)) gd passG (pv 0)) pe_int (nomark _))))))))), ?_⟩
    have rl := D.al.len
    have hT0 := hT
    generalize ht : r0.past.map (fun c => linkS c.1 c.2) = txs at hF
    have hl : txs.length = r0.past.length := by rw [← ht, List.length_map]
    refine ⟨_, rfl, ?_⟩
    refine ⟨FO, txs.map V.str, rfl, sqL hF, fun B nB => ⟨B, rfl, ⟨_, sqL upd_same⟩, _, _, _, walk_list (xs := (txs.map V.str).reverse), ?_⟩⟩
    have k1 : Kp [] H (upd H B (.lst (txs.map V.str).reverse)) := Kp.new nB
    have hB1 : (upd H B (.lst (txs.map V.str).reverse)) B = some (.lst (txs.map V.str).reverse) := upd_same
    generalize upd H B (.lst (txs.map V.str).reverse) = H1 at k1 hB1
    have nBF : ¬ Four p q p2 q2 B := by
      obtain ⟨⟨_, _, a1, _⟩, _, a3, _⟩ := D.A
      obtain ⟨⟨_, _, b1, _⟩, _, b3, _⟩ := D.B
      rintro ((rfl | rfl) | (rfl | rfl))
      · rw [nB] at a1; cases a1
      · rw [nB] at a3; cases a3
      · rw [nB] at b1; cases b1
      · rw [nB] at b3; cases b3
    refine ⟨fun i σ H' => ∃ (y3 : Option V) (s r : LkS), σ = [some (.ref p), some (.ref p2), some (.ref FO), y3] ∧ Ks T (Four p q p2 q2) H H' ∧ Pairs C H' p q p2 q2 s r 1000000000000000 ∧ s.past.length ≤ 1000 ∧ r.past = r0.past.take (r0.past.length - i) ∧ H' B = some (.lst (txs.map V.str).reverse),
      ⟨_, _, _, rfl, .of k1.kt, D.kp k1, pl, (List.take_of_length_le (Nat.le_refl _)).symm, hB1⟩, fun _ _ _ _ ⟨_, _, _, _, _, _, _, _, z⟩ => sqL z, ?_, ?_⟩
    · rintro i x σ _ H2 hi ⟨y3, s, r, rfl, k2, D2, pl2, er, hB2⟩ ⟨rfl, hx⟩
      have hi2 : i < r0.past.length := by
        rw [List.length_reverse, List.length_map, hl] at hi
        exact hi
      obtain ⟨n, en⟩ : ∃ n, r0.past.length - i = n + 1 := ⟨r0.past.length - i - 1, by omega⟩
      have hn : n < r0.past.length := by omega
      generalize ec : r0.past[n] = cc at *
      have el : r.past = r0.past.take n ++ [cc] := by
        rw [er, en, List.take_add_one, List.getElem?_eq_getElem hn, ec]
        rfl
      have ex : x = .str (linkS cc.1 cc.2) := by
        rw [List.getElem?_reverse (by rw [List.length_map]; omega), List.length_map, hl, show r0.past.length - 1 - i = n by omega, ← ht, List.getElem?_map, List.getElem?_map, List.getElem?_eq_getElem hn, ec] at hx
        cases hx
        rfl
      subst ex
      have rlen : r.past.length ≤ 1000 := Nat.le_trans D2.al.len pl2
      have ne : r.past ≠ [] := by rw [el]; simp
      refine ⟨_, rfl, at_z D2.B z_changes ⟨p2, q2, r, rfl, D2.B, rfl, _, rfl, ifNo (fun z => ?_) ?_⟩⟩
      · have := V.int.inj z
        have h0 : r.past.length ≠ 0 := fun w => ne (List.length_eq_zero_iff.mp w)
        omega
      have oa := alike_undo D2.al ne
      have eu := undo_ok el
      rw [eu] at oa
      refine ⟨_, rfl, at_z D2.B z_undo ⟨p2, q2, r, (fun z => z = q2), [], [], rfl, rfl, D2.B, D2.gr, by omega, k2.tab hT, .nil, Nat.zero_le _, rfl, ?_⟩⟩
      show OutP _ _ _ _ _ _ _ _ (undoF r) _ _
      rw [eu]
      intro v6 H6 k6 B6 d6
      have A6 := D2.A.ks k6 ap.l.1 ap.l.2 (noTabZ D2.B)
      have hB6 := k6.atL (fun z => nBF (.inr z)) hB2
      generalize es : undoF s = os at oa
      cases oa with
      | ok al =>
        rename_i s'
        have k26 := k2.thn k6 fun z w => .inl (.inr w)
        refine ⟨_, rfl, at_z A6 z_undo ⟨p, q, s, (fun z => z = q), [], [], rfl, rfl, A6, D2.gs, by omega, k26.tab hT, .nil, Nat.zero_le _, rfl, ?_⟩⟩
        show OutP _ _ _ _ _ _ _ _ (undoF s) _ _
        rw [es]
        intro v7 H7 k7 A7 d7
        have B7 := B6.ks k7 ap.r.1 ap.r.2 (noTabZ A6)
        have hB7 := k7.atL (fun z => nBF (.inl z)) hB6
        have k27 := k26.thn k7 fun z w => .inl (.inl w)
        have gs := undo_good D2.gs es
        have gr := undo_good D2.gr eu
        have sm := undo_sm D2.sm es
        have sh := shn_of gs sm (by decide) (by decide)
        have vr : ∀ n, 0 ≤ tval cc.2 n ∧ tval cc.2 n < 10000000000000000000000 := fun n => by
          rw [← perm_val al.t gs.now.nd]
          exact sh.val n
        refine ⟨_, rfl, tnil_z ⟨p2, q2, _, rfl, B7, gr, vr, fun H8 k8 => ⟨_, rfl, rfl, _, rfl, ifNe rfl ?_⟩⟩⟩
        refine ⟨_, rfl, tnil_z ⟨p, q, _, rfl, A7.kp k8, gs, sh.val, fun H9 k9 => ⟨_, rfl, rfl, _, rfl, ifNe (congrArg V.str ?_) ?_⟩⟩⟩
        · rw [perm_linkS al.t gs.now.nd, al.b]
        have ls : s'.past.length ≤ 1000 := by
          have := (call_next D2.gs ((call_undo s []).trans es)).1
          unfold undoF at es
          cases eg : s.past.getLast? with
          | none => rw [eg] at es; cases es
          | some z =>
            rw [eg] at es
            cases es
            show s.past.dropLast.length ≤ 1000
            rw [List.length_dropLast]
            omega
        refine ⟨_, s', ⟨cc.1, cc.2, r0.past.take n⟩, rfl, k27.kp (k8.trans k9), (⟨A7, B7, al, gs, gr, sm, undo_bot D2.gs D2.bot es⟩ : Pairs C H7 p q p2 q2 s' ⟨cc.1, cc.2, r0.past.take n⟩ 1000000000000000).kp (k8.trans k9), ls, ?_, (k8.trans k9).at0 hB7⟩
        rw [show r0.past.length - (i + 1) = n by omega]
    rintro σ H2 ⟨y3, s, r, rfl, k2, D2, pl2, er, hB2⟩
    have er : r.past = [] := by
      rw [er, List.length_reverse, List.length_map, hl, Nat.sub_self]
      rfl
    have eu : undoF r = .bad .undo .none := by
      unfold undoF
      rw [er]
      rfl
    refine ⟨_, rfl, at_z D2.B z_changes ⟨p2, q2, r, rfl, D2.B, rfl, _, rfl, ifNe (by rw [er]; rfl) ?_⟩⟩
    refine ⟨k2.tab hT, fun H3 e3 hT3 => ?_⟩
    have x3 : Kt T H2 H3 := ⟨e3, fun _ => hT3⟩
    have B3 := D2.B.kt x3
    have A3 := D2.A.kt x3
    refine ⟨_, rfl, at_z B3 z_undo ⟨p2, q2, r, (fun z => z = q2), [], [], rfl, rfl, B3, D2.gr, by rw [er]; exact Nat.zero_le _, hT3, .nil, Nat.zero_le _, rfl, ?_⟩⟩
    refine (show OutP K C T X (fun z => z = q2) H3 p2 q2 (undoF r) _ (CauM K X _) from met_go B3 (fun v H4 k4 B4 d4 => ?_) fun _ _ z => z)
    rw [eu] at d4
    have A4 := A3.ks k4 ap.l.1 ap.l.2 (noTabZ B3)
    have k24 := (k2.kt x3).thn k4 fun z w => .inl (.inr w)
    have d4 : Db K (fun z => z = q2) H4 v (.tuple [.str "nothing", .none]) := d4
    refine ⟨Nat.le_of_ble_eq_true rfl, fun t H5 nt k5 h5 => ?_⟩
    have dp : Dp K H5 v (.tuple [.str "nothing", .none]) := by
      cases d4 with
      | tup hq hall =>
        cases hall with
        | cons e1 r1 =>
          cases e1
          cases r1 with
          | cons e2 r2 =>
            cases e2
            cases r2
            exact .tup (k5.tup0 hq) (.cons (.str _) (.cons .non .nil))
    have sh1 : SeqAt.shaped (.tuple [.str "nothing", .none]) = true := by decide +kernel
    have sh2 : PyData.eqv (.tuple [.str "nothing", .none]) (.tuple [.str "nothing", .none]) = true := by decide +kernel
    refine ⟨.tuple [.str "nothing", .none], .tuple [.str "nothing", .none], dp, .tup (sqT h5) (.cons (.str _) (.cons .non .nil)), sh1, sh1, ?_⟩
    rw [sh2]
    refine ⟨_, rfl, ?_⟩
    refine (show if (!true) = true then _ else _ from iteF ?_)
    have A5 := A4.kp k5
    have k25 := k24.kp k5
    refine ⟨fun m σ H' => ∃ s', σ = [some (.ref p), some (.ref p2), some (.ref FO), y3] ∧ Ks T (Four p q p2 q2) H H' ∧ LkAt C H' p q s' ∧ Good s' ∧ Bot s' ∧ s'.past.length = m ∧ m ≤ 1000, ⟨_, s, rfl, k25, A5, D2.gs, D2.bot, rfl, pl2⟩, ?_⟩
    rintro m σ H6 ⟨s', rfl, k6, A6, g6, b6, lm, m6⟩
    refine ⟨_, rfl, at_z A6 z_changes ⟨p, q, s', rfl, A6, _, _, rfl, rfl, _, rfl, ?_⟩⟩
    by_cases hz : (0 : Int) < (s'.past.length : Int)
    · refine ifD hz ⟨fun σ' H' => ∃ s2, σ' = [some (.ref p), some (.ref p2), some (.ref FO), y3] ∧ Ks T (Four p q p2 q2) H H' ∧ LkAt C H' p q s2 ∧ Good s2 ∧ Bot s2 ∧ s2.past.length = m - 1, ?_, ?_⟩
      · rintro σ' H' ⟨s2, e1, e2, e3, e4, e5, e6⟩
        exact ⟨m - 1, by omega, s2, e1, e2, e3, e4, e5, e6, by omega⟩
      · have ne : s'.past ≠ [] := fun z => by rw [z] at hz; exact absurd hz (by decide)
        have el : s'.past = s'.past.dropLast ++ [s'.past.getLast ne] := (List.dropLast_concat_getLast ne).symm
        have es := undo_ok el
        refine ⟨_, rfl, at_z A6 z_undo ⟨p, q, s', (fun z => z = q), [], [], rfl, rfl, A6, g6, by omega, k6.tab hT, .nil, Nat.zero_le _, rfl, ?_⟩⟩
        show OutP _ _ _ _ _ _ _ _ (undoF s') _ _
        rw [es]
        intro v7 H7 k7 A7 d7
        exact ⟨_, rfl, k6.thn k7 fun z w => .inl (.inl w), A7, undo_good g6 es, undo_bot g6 b6 es, by show s'.past.dropLast.length = m - 1; rw [List.length_dropLast]; omega⟩
    · refine ifDn hz ?_
      have e0 : s'.past = [] := List.length_eq_zero_iff.mp (by omega)
      have et : s'.t = [] := by
        unfold Bot at b6
        rw [e0] at b6
        exact Option.some.inj b6
      have en : (nsT s'.t).map V.str = [] := by
        rw [et]
        have : (nsT ([] : Tab)).length = 0 := nsT_len []
        rw [List.length_eq_zero_iff.mp this]
        rfl
      refine ⟨_, rfl, at_z A6 z_names ⟨p, q, s', rfl, A6, g6.now.len, fun u H7 k7 hu => ?_⟩⟩
      refine ⟨[], rfl, Nat.zero_le _, fun w H8 n8 k8 hw => ⟨u, w, _, rfl, rfl, k8.tup0 hu, sqT hw, ?_⟩⟩
      rw [en]
      refine ⟨_, rfl, iteT ?_⟩
      have A8 := (A6.kp k7).kp k8
      refine ⟨_, rfl, at_z A8 z_total ⟨p, q, s', rfl, A8, g6.now.nd, g6.now.len, fun H9 k9 => ⟨rfl, ?_⟩⟩⟩
      rw [show (valsT s'.t).sum = 0 by rw [et]; rfl, decide_eq_true rfl]
      exact out H9 (k6.kp (k7.trans (k8.trans k9)))
/-! ### k66, beside what was read -/
theorem srt_perm_t {t : Tab} (nd : (keysT t).Nodup) : t.Perm (srtT t) := by
  have e : t = (keysT t).map fun n => (n, tval t n) := by
    unfold keysT
    rw [List.map_map]
    refine ((List.map_id t).symm.trans ?_)
    refine List.map_congr_left fun p hp => ?_
    show p = (p.1, tval t p.1)
    rw [tval_mem nd hp]
  have p : ((keysT t).map fun n => (n, tval t n)).Perm (srtT t) := ((srtN_perm (keysT t)).map fun n => (n, tval t n)).symm
  rw [← e] at p
  exact p
theorem read_alike {s : LkS} (nd : (keysT s.t).Nodup) : Alike s ⟨s.b, srtT s.t, []⟩ := ⟨rfl, srt_perm_t nd, .nil _⟩
theorem eqLk_alike {s r : LkS} (h : Alike s r) (nd : (keysT s.t).Nodup) : eqLk r s = true := by
  unfold eqLk
  rw [decide_eq_true h.b.symm, Bool.true_and]
  exact eqT_of h.t.symm.length_eq fun p hp => tget_of nd (show (p.1, p.2) ∈ s.t from h.t.mem_iff.mpr hp)
theorem eq_goY {K : PySem.W.Frag} {C p q p2 q2 : Addr} {H : Hp} {s s2 : LkS} {Q : Bool → Hp → Prop} (IC : C8.InsC K C) (A : LkAt C H p q s) (B : LkAt C H p2 q2 s2) (h : Q (eqLk s s2) H) :
    ∃ (a dx : Addr) (fs : List (Str × V)) (t : Value), V.ref p = .ref a ∧ H a = some (.ins C dx fs) ∧ TyX K H (.ref p2) t ∧ PySem.W.notFirst K C t = true ∧ sp_Link___eq__ K C [.ref a, .ref p2] H (fun v H' => ∃ c : Bool, v = .bl c ∧ Q c H') (fun _ _ _ => False) := by
  obtain ⟨⟨dx, d, o, _⟩, _⟩ := id A
  exact ⟨p, dx, _, _, rfl, o, B.tyx IC, by simp [PySem.W.notFirst], p, q, s, _, rfl, A, .inl ⟨p2, q2, s2, rfl, B, _, rfl, h⟩⟩
theorem hand_nt {H : Hp} {a p : Addr} {n : Nat} (h : Hand H a n) (z : Nt H p) : p ≠ a := fun w => by
  obtain ⟨g, x, c, e, _⟩ := h
  have e : H a = some (.lst [.int g, .int x, .int c]) := e
  rw [← w] at e
  obtain ⟨ps, z⟩ := z _ e
  cases z
/-- a list of texts lies apart from the hand and both links -/
structure Free (H0 : Hp) (a p q p2 q2 F : Addr) : Prop where
  a : F ≠ a
  n : Nt H0 F
  f : ¬ Four p q p2 q2 F
theorem free_new {C : Addr} {H0 H : Hp} {a p q p2 q2 F : Addr} {s r : LkS} {n : Nat} (A : LkAt C H p q s) (B : LkAt C H p2 q2 r) (hd : Hand H a n) (nF : H F = none) (n0 : F ≠ a → Nt H0 F) : Free H0 a p q p2 q2 F := by
  refine ⟨fun z => hd.ne nF z.symm, n0 fun z => hd.ne nF z.symm, ?_⟩
  obtain ⟨⟨_, _, a1, _⟩, _, a3, _⟩ := A
  obtain ⟨⟨_, _, b1, _⟩, _, b3, _⟩ := B
  rintro ((rfl | rfl) | (rfl | rfl))
  · rw [nF] at a1; cases a1
  · rw [nF] at a3; cases a3
  · rw [nF] at b1; cases b1
  · rw [nF] at b3; cases b3
theorem two_if {α : Type} [DecidableEq α] {x y : α} {B S : Prop} (hb : B) (hs : x = y → B → S) : if (!decide (x = y)) = true then B else S := by
  by_cases e : x = y
  · exact ifNe e (hs e hb)
  · exact ifNeY e hb
def sp_l_right (T : List (Addr × Str)) : Sp := fun vs H Q _ => ∃ (a : Addr) (n : Nat), vs = [.ref a] ∧ Hand H a n ∧ n ≤ 2 ^ 30 ∧ Tabs T H ∧ ∀ H', Ks T (fun x => x = a) H H' → Q (.bl true) H'
theorem ok__law_right {f c pt C : Addr} {fd : FuncData} {k : Nat} {T : List (Addr × Str)} {BT : Addr} {X : LkX} (F : Fun K "_law_right" "_law_right" s__law_right f fd) (LC : LinkC K C) (IC : C8.InsC K C) (cNe : PySem.W.findIn K (.ref C) "__ne__" = some (some (.builtin "object.__ne__"))) (hcd : fd.code = .ref c) (TB : TabB base mg c pt) (hmT : (pt, qLam "_law_right") ∈ T) (huT : ∀ r ∈ T, r.1 = pt → r.2 = qLam "_law_right")
    (m_repr : mg "repr" = none) (m_range : mg "range" = none) (C_l_take : Cl P w K mg base CX0 1 "_law_take" 2 (sp_l_take K)) (C_l_history : Cl P w K mg base CX0 14 "_law_history" 3 (sp_l_history C T)) (C_l_wish : Cl P w K mg base CX0 4 "_law_wish" 2 (sp_l_wish K C)) (X_l_met : ClH P w K mg base 12 "_law_met" (TTmet K X)) (X_l_done : Cl P w K mg base (L2.CX P w) 10 "_law_done" 2 (sp_l_done K C T X))
    (C_show_link : Cl P w K mg base CX0 5 "show_link" 1 (sp_show_link K C)) (C_read_link : Cl P w K mg base (L2.CX P w) 9 "read_link" 1 (sp_read_link K C T BT)) (M_changes : ClM P w K mg base CX0 1 C "changes" (sp_Link_changes C)) (M___eq__ : ClM P w K mg base CX0 1 C "__eq__" (sp_Link___eq__ K C)) (C_l_back_right : Cl P w K mg base CX0 14 "_law_back_right" 3 (sp_l_back C T)) :
    FnG P w K mg base CX0 (k + 15) f fd ["_law_hand_here"] (sp_l_right T) := by
  refine okC F hcd sc__law_right (fun vs H Q E h => ?_) (fun A outer s H vs Q E gd hr h => ?_)
  · obtain ⟨a, n, rfl, _⟩ := h
    rfl
  · obtain ⟨a, n, rfl, hd, hn, hT, out⟩ := h
    refine ⟨_, (pss_cons (ps_set (i := 6) sc__law_right.nd rfl (.inr rfl) (pe_cl C_l_history (hr.mono (by omega)) gd pass0 (by rfl) (pa_cons (pv 0) (pa_cons (pe_op op_add pe_int (pe_cl C_l_take (hr.mono (by omega)) gd pass0 (by rfl) (pa_cons (pv 0) (pa_cons pe_int pa_nil)))) (pa_cons (pe_cl C_l_take (hr.mono (by omega)) gd pass0 (by rfl) (pa_cons (pv 0) (pa_cons pe_int pa_nil))) pa_nil)))))
      (pss_cons (ps_asg (pe_ta (pa_cons (pe_clS (E := fun _ _ _ _ => False) C_read_link (hr.mono (by omega)) gd passFS (by rfl) (pa_cons (pe_cl C_show_link (hr.mono (by omega)) gd pass0 (by rfl) (pa_cons (pv 6) pa_nil)) pa_nil)) (pa_cons (pe_li pa_nil) pa_nil))) (pg_tup rfl (pgs_cons (pg_name (i := 7) sc__law_right.nd rfl (.inr rfl)) (pgs_cons (pg_name (i := 1) sc__law_right.nd rfl (.inl rfl)) pgs_nil))))
      (pss_cons (ps_ifJ (PW.pt (pw_or (pt_cmpR (op_neMo M___eq__ cNe IC.hm (hr.mono (by omega)) gd) (pv 7) (pv 6) (nomark _)) (pw_or1 (pt_cmpR op_ne (pe_clM0 (E := fun _ _ _ _ => False) LC.cls M_changes (hr.mono (by omega)) gd passG (pv 7)) pe_int (nomark _)))))
      (pss_one (ps_ret pe_bl))
      pss_nil)
      (pss_cons (ps_forW PassesOwn.never rfl (pi_range1 (by rfl) m_range (pa_cons (pe_cl C_l_take (hr.mono (by omega)) gd pass0 (by rfl) (pa_cons (pv 0) (pa_cons pe_int pa_nil))) pa_nil)) (pg_name (i := 2) sc__law_right.nd rfl (.inl rfl))
      (pss_cons (ps_asg (pe_ta (pa_cons (pe_cl C_l_wish (hr.mono (by omega)) gd pass0 (by rfl) (pa_cons (pv 0) (pa_cons (pv 6) pa_nil))) (pa_cons (pe_cl C_show_link (hr.mono (by omega)) gd pass0 (by rfl) (pa_cons (pv 6) pa_nil)) (pa_cons (pe_clM0 (E := fun _ _ _ _ => False) LC.cls M_changes (hr.mono (by omega)) gd passG (pv 7)) pa_nil)))) (pg_tup rfl (pgs_cons (pg_name (i := 8) sc__law_right.nd rfl (.inr rfl)) (pgs_cons (pg_name (i := 3) sc__law_right.nd rfl (.inl rfl)) (pgs_cons (pg_name (i := 4) sc__law_right.nd rfl (.inl rfl)) pgs_nil)))))
      (pss_cons (ps_ifJ (PW.pt (pw_or (pt_cmpR op_ne (pe_ix (ix_taN (K := K) rfl) (pv 8) pe_int (fun _ _ => rfl)) pe_str (nomark _)) (pw_or1 (pt_cmpR op_gt (pv 4) pe_int (nomark _)))))
      (pss_cons (ps_set (i := 5) sc__law_right.nd rfl (.inl rfl) (pe_wk (pe_hand X_l_met (by rfl) TB rfl hmT huT (hr.mono (by omega)) gd (LamX.lamS_by (sc := defScope s__law_right) (by decide +kernel)) rfl (fun _ _ _ _ _ => rfl) (fun _ _ _ _ _ _ _ gd hr => (pe_clS X_l_done (hr.mono (by omega)) gd (fun σ => passAt (takes_of rfl rfl rfl rfl) σ) (by rfl) (pa_cons (pv 6) (pa_cons (pv 8) pa_nil)))))))
      (pss_cons (ps_ifJ (pt_cmpR op_ne (pe_callB (call_reprX (K := K) rfl hr gd) (by rfl) m_repr (by decide +kernel) (pa_cons (pe_hand X_l_met (by rfl) TB rfl hmT huT (hr.mono (by omega)) gd (LamX.lamS_by (sc := defScope s__law_right) (by decide +kernel)) rfl (fun _ _ _ _ _ => rfl) (fun _ _ _ _ _ _ _ gd hr => (pe_clS X_l_done (hr.mono (by omega)) gd (fun σ => passAt (takes_of rfl rfl rfl rfl) σ) (by rfl) (pa_cons (pv 7) (pa_cons (pv 8) pa_nil))))) pa_nil)) (pe_callB (call_reprX (K := K) rfl hr gd) (by rfl) m_repr (by decide +kernel) (pa_cons (pv 5) pa_nil)) (nomark _))
      (pss_one (ps_ret pe_bl))
      pss_nil)
      (pss_cons (ps_ifJ (pt_cmpR op_gt (pe_clM0 (E := fun _ _ _ _ => False) LC.cls M_changes (hr.mono (by omega)) gd passG (pv 7)) (pv 4) (nomark _))
      (pss_one (ps_expr (pe_bm PySem.F.plainAttrs_list PySem.F.slot_list_append PySem.F.type_list_append mt_app (pv 1) (pa_cons (pv 3) pa_nil))))
      pss_nil)
      (pss_one (ps_set (i := 1) sc__law_right.nd rfl (.inl rfl) (pe_slice (sl_laTo (K := K) rfl) (pv 1) po_none (po_some (pe_clM0 (E := fun _ _ _ _ => False) LC.cls M_changes (hr.mono (by omega)) gd passG (pv 7)))))))))
      pss_nil)
      (pss_one (ps_ifJ (PW.pt (pw_or (pt_cmpR op_ne (pe_cl C_show_link (hr.mono (by omega)) gd pass0 (by rfl) (pa_cons (pv 7) pa_nil)) (pe_cl C_show_link (hr.mono (by omega)) gd pass0 (by rfl) (pa_cons (pv 6) pa_nil)) (nomark _)) (pw_or (pt_cmpR (op_neMo M___eq__ cNe IC.hm (hr.mono (by omega)) gd) (pe_clS (E := fun _ _ _ _ => False) C_read_link (hr.mono (by omega)) gd passFS (by rfl) (pa_cons (pe_cl C_show_link (hr.mono (by omega)) gd pass0 (by rfl) (pa_cons (pv 7) pa_nil)) pa_nil)) (pv 6) (nomark _)) (pw_or1 (pt_cmpR (op_neMo M___eq__ cNe IC.hm (hr.mono (by omega)) gd) (pv 7) (pv 6) (nomark _))))))
      (pss_one (ps_ret pe_bl))
      pss_nil)))))
      (pss_one (ps_ret (pe_cl C_l_back_right (hr.mono (by omega)) gd pass0 (by rfl) (pa_cons (pv 6) (pa_cons (pv 7) (pa_cons (pv 1) pa_nil)))))))))), ?_⟩
    refine ⟨_, rfl, _, rfl, a, n, 4, rfl, hd, by omega, by decide, by decide, fun d1 H1 k1 hd1 d0 d1' => ?_⟩
    refine ⟨_, _, rfl, rfl, _, rfl, a, _, 21, rfl, hd1, by omega, by decide, by decide, fun d2 H2 k2 hd2 e0 e1 => ?_⟩
    have x2 : Ks T (fun x => x = a) H H2 := (hand_ks hd k1).trans (hand_ks hd1 k2)
    refine tnil_z ⟨a, _, d2.toNat, 1 + d1, by rw [Int.toNat_of_nonneg e0]; rfl, hd2, by omega, by omega, by omega, by omega, x2.tab hT, fun p q s0 H3 k3 np nq L3 G0 S0 l0 b0 hd3 => ?_⟩
    have x3 := x2.trans k3
    have pa : p ≠ a := fun z => hd2.ne np z.symm
    have qa : q ≠ a := fun z => hd2.ne nq z.symm
    have M0 : (0 : Int) ≤ 600000000000 := by decide
    have sh0 := shn_of G0 S0 M0 (by decide)
    have v12 : ∀ n, 0 ≤ tval s0.t n ∧ tval s0.t n ≤ 1000000000000 := fun n => ⟨(sh0.val n).1, by have := S0.now.val M0 n; omega⟩
    refine ⟨_, rfl, tnil_z ⟨p, q, s0, rfl, L3, G0, sh0.val, fun H4 k4 => ?_⟩⟩
    have L4 := L3.kp k4
    have ls := Nat.le_trans (join_le lineS _) (link_len G0 sh0.val)
    have ls : (linkS s0.b s0.t).length ≤ 3000 := ls
    refine tnil_z ⟨.str (linkS s0.b s0.t), some (linkS s0.b s0.t), rfl, ⟨rfl, by omega⟩, (x3.kp k4).tab hT, fun b t e p2 q2 H5 k5 np2 nq2 R5 g5 => ?_, fun i e => by rw [readL_of G0.now v12] at e; cases e⟩
    rw [readL_of G0.now v12] at e
    cases e
    refine ⟨[], rfl, Nat.zero_le _, fun FO H6 n6 k6 hF => ⟨Nat.le_of_ble_eq_true rfl, fun TU H7 n7 k7 hTU => ?_⟩⟩
    refine ⟨TU, _, rfl, sqT hTU, rfl, _, _, rfl, _, _, rfl, rfl, ?_⟩
    have k67 := k6.trans k7
    have x5 := (x3.kp k4).kt k5
    have x7 := x5.kp k67
    have L7 := (L4.kt k5).kp k67
    have R7 := R5.kp k67
    have hF7 := k7.at0 hF
    have hd7 := ((hd3.kp0 k4).kt k5).kp0 k67
    have al0 : Alike s0 ⟨s0.b, srtT s0.t, []⟩ := read_alike G0.now.nd
    refine ⟨fun σ H' => σ = [some (.ref a), some (.ref FO), none, none, none, none, some (.ref p), some (.ref p2), none] ∧ H' = H7, ⟨_, rfl, _, rfl, eq_goY IC R7 L7 ⟨_, rfl, ?_⟩⟩, ?_⟩
    · rw [eqLk_alike al0 G0.now.nd]
      refine (show if (!true) = true then _ else _ from iteF ?_)
      exact ⟨_, rfl, at_z R7 z_changes ⟨p2, q2, _, rfl, R7, rfl, _, rfl, ifNe rfl ⟨rfl, rfl⟩⟩⟩
    rintro σ _ ⟨rfl, rfl⟩
    have p0 : Nt H p := x2.nt (nt0 np) pa
    have q0 : Nt H q := x2.nt (nt0 nq) qa
    have hd4 := hd3.kp0 k4
    have p2a : p2 ≠ a := hand_nt hd4 np2
    have q2a : q2 ≠ a := hand_nt hd4 nq2
    have p20 : Nt H p2 := (x3.kp k4).nt np2 p2a
    have q20 : Nt H q2 := (x3.kp k4).nt nq2 q2a
    have fr : Free H a p q p2 q2 FO := free_new (L4.kt k5) R5 (hd4.kt k5) n6 fun z => x5.nt (nt0 n6) z
    have ap : Apart p q p2 q2 := by
      obtain ⟨⟨_, _, a1, _⟩, _, a3, _⟩ := L4
      refine ⟨fun z => ?_, fun z => ?_, fun z => ?_, fun z => ?_⟩
      · obtain ⟨ps, w⟩ := np2 _ (z ▸ a1); cases w
      · obtain ⟨ps, w⟩ := nq2 _ (z ▸ a1); cases w
      · obtain ⟨ps, w⟩ := np2 _ (z ▸ a3); cases w
      · obtain ⟨ps, w⟩ := nq2 _ (z ▸ a3); cases w
    have bk : ∀ v : Nat, (0 : Int) ≤ 600000000000 + (v : Int) * 10001000000 := fun v => by omega
    have Gr0 : Good (⟨s0.b, srtT s0.t, []⟩ : LkS) := ⟨g5, fun _ z => nomatch z⟩
    refine ⟨_, rfl, a, _, 21, rfl, hd7, by omega, by decide, by decide, fun d3 H8 k8 hd8 g0 g1 => tnil_z ⟨_, rfl, by omega, by omega, _, _, _, walk_rg,
      fun v σ H' => ∃ (y2 y3 y4 y5 y8 : Option V) (s r : LkS) (F : Addr), σ = [some (.ref a), some (.ref F), y2, y3, y4, y5, some (.ref p), some (.ref p2), y8] ∧ Ks T (fun x => x = a) H H' ∧ Pairs C H' p q p2 q2 s r (600000000000 + (v : Int) * 10001000000) ∧ s.past.length ≤ 31 + v ∧ Hand H' a (n + 20000 + v * 400) ∧ H' F = some (.lst ((r.past.map fun c => linkS c.1 c.2).map V.str)) ∧ Free H a p q p2 q2 F,
      ⟨_, _, _, _, _, s0, ⟨s0.b, srtT s0.t, []⟩, FO, rfl, x7.trans (hand_ks hd7 k8), ?_, by omega, hd8.mono (by omega), k8.at1 fr.a hF7, fr⟩, fun _ _ _ _ _ => trivial, ?_, ?_⟩⟩
    · exact ⟨L7.hand (K := K) hd7 qa k8, R7.hand (K := K) hd7 q2a k8, al0, G0, Gr0, ⟨S0.now.mono (by omega), fun r hr => (S0.old r hr).mono (by omega)⟩, b0⟩
    · rintro v x σ _ H9 hv ⟨y2, y3, y4, y5, y8, s, r, F, rfl, x9, D, pl, hd9, hF9, fr9⟩ ⟨rfl, rfl⟩
      have hv : v < d3.toNat := hv
      have M0 : (0 : Int) ≤ 600000000000 + (v : Int) * 10001000000 := bk v
      have sh := shn_of D.gs D.sm M0 (by omega)
      refine ⟨_, rfl, _, rfl, tnil_z ⟨a, p, q, s, _, rfl, D.A, D.gs, hd9, by omega, qa, fun u H10 wd us ds k10 hd10 W => ?_⟩⟩
      have A10 := D.A.hand (K := K) hd9 qa k10
      have B10 := D.B.hand (K := K) hd9 q2a k10
      refine ⟨_, rfl, tnil_z ⟨p, q, s, rfl, A10, D.gs, sh.val, fun H11 k11 => ?_⟩⟩
      refine ⟨_, rfl, at_z (B10.kp k11) z_changes ⟨p2, q2, r, rfl, B10.kp k11, Nat.le_of_ble_eq_true rfl, fun TU H12 n12 k12 hTU => ?_⟩⟩
      refine ⟨TU, _, rfl, sqT hTU, rfl, _, _, rfl, _, _, rfl, _, _, rfl, rfl, ?_⟩
      have k1012 := k11.trans k12
      have x12 := (x9.trans (hand_ks hd9 k10)).kp k1012
      have hd12 := hd10.kp0 k1012
      have A12 := A10.kp k1012
      have B12 := B10.kp k1012
      have hF12 := k1012.at0 (k10.at1 fr9.a hF9)
      have hu12 := k1012.tup0 W.pair
      refine ⟨fun σ H' => ∃ (y5' : Option V) (s' r' : LkS) (F' : Addr), σ = [some (.ref a), some (.ref F'), some (.int (0 + (v : Int))), some (.str (linkS s.b s.t)), some (.int (r.past.length : Int)), y5', some (.ref p), some (.ref p2), some (.ref u)] ∧ Ks T (fun x => x = a) H H' ∧ Pairs C H' p q p2 q2 s' r' (600000000000 + ((v + 1 : Nat) : Int) * 10001000000) ∧ s'.past.length ≤ 31 + (v + 1) ∧ Hand H' a (n + 20000 + (v + 1) * 400) ∧ H' F' = some (.lst ((r'.past.map fun c => linkS c.1 c.2).map V.str)) ∧ Free H a p q p2 q2 F', ?_, ?_⟩
      · refine ⟨_, rfl, u, _, 0, _, rfl, rfl, hu12, rfl, rfl, _, rfl, ?_⟩
        by_cases c : wd = "undo" ∧ r.past = []
        · refine ifNe (congrArg V.str c.1) ⟨_, rfl, _, _, rfl, rfl, _, rfl, ifDn (by rw [c.2]; decide) ?_⟩
          exact ⟨_, s, r, F, rfl, x12, ⟨A12, B12, D.al, D.gs, D.gr, ⟨D.sm.now.mono (by omega), fun r hr => (D.sm.old r hr).mono (by omega)⟩, D.bot⟩, by omega, hd12.mono (by omega), hF12, fr9⟩
        have hu : wd = "undo" → r.past ≠ [] := fun e z => c ⟨e, z⟩
        refine two_if ?_ fun e hb => ⟨_, rfl, _, _, rfl, rfl, _, rfl, ifD ?_ hb⟩
        · have dl := DbAll.len (W.db fun _ => True)
          have oa : OutA (doneF wd s ds) (doneF wd r ds) := alike_done D.al D.gs.now.nd hu (by rw [← dl]; exact W.ar)
          refine ⟨fun v H' => Ks T (Two p q) H12 H' ∧ LkAt C H' p q (outS s (doneF wd s ds)) ∧ Db K (fun z => z = q ∨ z = q2) H' v (outY (doneF wd s ds)), ⟨x12.tab hT, fun H13 e13 hT13 => ?_⟩, ?_⟩
          · have x13 : Kt T H12 H13 := ⟨e13, fun _ => hT13⟩
            refine ⟨_, rfl, _, rfl, tnil_z ⟨p, q, u, s, wd, us, ds, (fun z => z = q ∨ z = q2), rfl, A12.kt x13, D.gs, by omega, sh, hT13, x13.tup0 hu12, ((W.db _).stay k1012.stay).stay x13.stay, W.sz, .inl rfl, W.ar, ?_⟩⟩
            refine (show OutP K C T X (fun z => z = q ∨ z = q2) H13 p q (doneF wd s ds) _ (CauM K X _) from met_go (A12.kt x13) (fun v6 H6 k6 A6 d6 => ?_) fun _ _ z => z)
            exact ⟨(Ks.of x13).trans k6, A6, d6⟩
          rintro v6 H6 ⟨k6, A6, d6⟩
          have B6 := B12.ks k6 ap.r.1 ap.r.2 (noTabZ A12)
          have hu6 : SqT K H6 u (.str wd :: us) := k6.tup (fun z w xs o => ⟨((A12.two z w).1 xs o).1, ((A12.two z w).1 xs o).2.1⟩) hu12
          have db6 : DbAll K (fun z => z = q ∨ z = q2) H6 us ds := ((W.db _).stay k1012.stay).stay (A12.stay (N := fun z => z = q ∨ z = q2) (.inl rfl) k6)
          have shr : Shn r := ⟨fun n => by rw [← perm_val D.al.t D.gs.now.nd]; exact sh.val n, by rw [← perm_sum (perm_vals D.al.t)]; exact sh.sum⟩
          have dl' : us.length = ds.length := dl
          have arL : ArH wd ds.length := by rw [← dl']; exact W.ar
          refine ⟨fun σ H' => σ = [some (.ref a), some (.ref F), some (.int (0 + (v : Int))), some (.str (linkS s.b s.t)), some (.int (r.past.length : Int)), some v6, some (.ref p), some (.ref p2), some (.ref u)] ∧ Ks T (Four p q p2 q2) H12 H' ∧ LkAt C H' p q (outS s (doneF wd s ds)) ∧ LkAt C H' p2 q2 (outS r (doneF wd r ds)), ⟨k6.tab (x12.tab hT), fun H7 e7 hT7 => ?_⟩, ?_⟩
          · have x7 : Kt T H6 H7 := ⟨e7, fun _ => hT7⟩
            have B7 := B6.kt x7
            refine ⟨_, rfl, _, rfl, tnil_z ⟨p2, q2, u, r, wd, us, ds, (fun z => z = q ∨ z = q2), rfl, B7, D.gr, Nat.le_trans D.al.len (by omega), shr, hT7, x7.tup0 hu6, db6.stay x7.stay, W.sz, .inr rfl, W.ar, ?_⟩⟩
            refine (show OutP K C T X (fun z => z = q ∨ z = q2) H7 p2 q2 (doneF wd r ds) _ (CauM K X _) from met_go B7 (fun v8 H8 k8 B8 d8 => ?_) fun _ _ z => z)
            have d68 := (d6.stay x7.stay).stay (B7.stay (N := fun z => z = q ∨ z = q2) (.inr rfl) k8)
            refine ⟨_, outY (doneF wd r ds), _, rfl, d8, done_shows D.gr shr W.ok arL, _, rfl, _, outY (doneF wd s ds), _, rfl, d68, done_shows D.gs sh W.ok arL, rfl, _, rfl, ifNe (by rw [oa.outY]) ?_⟩
            refine ⟨rfl, ((k6.kt x7).mono fun z w => .inl w).trans (k8.mono fun z w => .inr w), (A6.kt x7).ks k8 ap.l.1 ap.l.2 (noTabZ B7), B8⟩
          rintro σ H8 ⟨rfl, k8, A8, B8⟩
          have oaS := oa.outS D.al
          have hF8 := k8.atL fr9.f hF12
          have hd8 : Hand H8 a (n + 20000 + (v + 1) * 400) := (hand_two hd12 k8 fun z => z.elim (fun w => w.elim (fun e => pa e.symm) (fun e => qa e.symm)) (fun w => w.elim (fun e => p2a e.symm) (fun e => q2a e.symm))).mono (by omega)
          have pn : (outS r (doneF wd r ds)).past = r.past ∨ (outS r (doneF wd r ds)).past = r.past ++ [(r.b, r.t)] ∨ (outS r (doneF wd r ds)).past = r.past.dropLast := by
            rcases done_out (s := r) W.ar dl'.symm with e | e
            · rw [e]
              exact .inl rfl
            · rw [e]
              cases ec : callF wd r ds with
              | bad x v => exact .inl rfl
              | ok d r1 =>
                rcases (call_next D.gr ec).2 with ⟨p, _, rfl⟩ | ⟨b, t, _, rfl⟩
                · exact .inr (.inr rfl)
                · exact .inr (.inl rfl)
          refine ⟨fun σ H' => ∃ l : List (Int × Tab), σ = [some (.ref a), some (.ref F), some (.int (0 + (v : Int))), some (.str (linkS s.b s.t)), some (.int (r.past.length : Int)), some v6, some (.ref p), some (.ref p2), some (.ref u)] ∧ Ks T (fun x => x = F) H8 H' ∧ LkAt C H' p q (outS s (doneF wd s ds)) ∧ LkAt C H' p2 q2 (outS r (doneF wd r ds)) ∧ Hand H' a (n + 20000 + (v + 1) * 400) ∧ H' F = some (.lst ((l.map fun c => linkS c.1 c.2).map V.str)) ∧ l.take (outS r (doneF wd r ds)).past.length = (outS r (doneF wd r ds)).past, ?_, ?_⟩
          · refine ⟨_, rfl, at_z B8 z_changes ⟨p2, q2, _, rfl, B8, _, rfl, _, _, rfl, rfl, _, rfl, ?_⟩⟩
            by_cases c2 : (r.past.length : Int) < ((outS r (doneF wd r ds)).past.length : Int)
            · refine ifD c2 ?_
              have e : (outS r (doneF wd r ds)).past = r.past ++ [(r.b, r.t)] := by
                rcases pn with e | e | e
                · rw [e] at c2; omega
                · exact e
                · rw [e, List.length_dropLast] at c2; omega
              have rl := D.al.len
              refine ⟨_, rfl, .inl ⟨rfl, _, sqL hF8⟩, _, rfl, tnil_z ⟨F, _, _, rfl, rfl, hF8, by rw [List.length_map, List.length_map, sizeLine_eq]; omega, fun H9' m9 h9 => ?_⟩⟩
              have kF : Ks T (fun x => x = F) H8 H9' := Ks.md .refl hF8 m9.kp (.inl rfl)
              have nt : NoTab (fun x => x = F) H8 := fun z w => by
                rw [w, hF8]
                exact ⟨(fun _ z => nomatch z), fun _ z => nomatch z⟩
              refine ⟨r.past ++ [(r.b, r.t)], rfl, kF, A8.ks kF (fun z => fr9.f (.inl (.inl z.symm))) (fun z => fr9.f (.inl (.inr z.symm))) nt, B8.ks kF (fun z => fr9.f (.inr (.inl z.symm))) (fun z => fr9.f (.inr (.inr z.symm))) nt, hd8.md m9 (fun z => fr9.a z.symm), ?_, by rw [e]; exact List.take_of_length_le (Nat.le_refl _)⟩
              rw [h9, List.map_append, List.map_append]
              show _ = some (HO.lst (_ ++ [V.str (linkS r.b r.t)]))
              rw [← D.al.b, ← perm_linkS D.al.t D.gs.now.nd]
            · refine ifDn c2 ⟨r.past, rfl, .refl, A8, B8, hd8, hF8, ?_⟩
              rcases pn with e | e | e
              · rw [e]
                exact List.take_of_length_le (Nat.le_refl _)
              · rw [e, List.length_append] at c2
                exact absurd (show (r.past.length : Int) < ((r.past.length + 1 : Nat) : Int) by omega) c2
              · rw [e, List.length_dropLast, List.dropLast_eq_take]
          · rintro σ H9' ⟨l, rfl, k9', A9, B9, hd9', hF9', el⟩
            refine ⟨_, rfl, _, rfl, at_z B9 z_changes ⟨p2, q2, _, rfl, B9, _, rfl, F, _, _, rfl, rfl, rfl, sqL hF9', Int.natCast_nonneg _, fun F2 H10' n10 k10' hF10 => ?_⟩⟩
            have x9' : Ks T (fun x => x = a) H H9' := (x12.thn k8 fun z w => .inr (by
              rcases w with (rfl | rfl) | (rfl | rfl)
              · exact p0
              · exact q0
              · exact p20
              · exact q20)).thn k9' fun z w => .inr (by rw [w]; exact fr9.n)
            have x10 := x9'.kp k10'
            have g : Good (outS s (doneF wd s ds)) ∧ SmS (600000000000 + (v : Int) * 10001000000 + 10001000000) (outS s (doneF wd s ds)) ∧ (outS s (doneF wd s ds)).past.length ≤ 31 + (v + 1) ∧ Bot (outS s (doneF wd s ds)) := by
              rcases done_out (s := s) W.ar dl'.symm with e | e
              · rw [e]
                exact ⟨D.gs, ⟨D.sm.now.mono (by omega), fun r hr => (D.sm.old r hr).mono (by omega)⟩, by omega, D.bot⟩
              · rw [e]
                have := out_len (wd := wd) (ds := ds) D.gs
                exact ⟨out_good D.gs, D.sm.out D.gs M0 W.amt, by omega, bot_out D.gs D.bot⟩
            have gr : Good (outS r (doneF wd r ds)) := by
              rcases done_out (s := r) W.ar dl'.symm with e | e
              · rw [e]
                exact D.gr
              · rw [e]
                exact out_good D.gr
            refine ⟨_, _, _, F2, rfl, x10, ⟨A9.kp k10', B9.kp k10', oaS, g.1, gr, ?_, g.2.2.2⟩, g.2.2.1, hd9'.kp0 k10', ?_, free_new A9 B9 hd9' n10 fun z => x9'.nt (nt0 n10) z⟩
            · rw [show (600000000000 + ((v + 1 : Nat) : Int) * 10001000000) = 600000000000 + (v : Int) * 10001000000 + 10001000000 by omega]
              exact g.2.1
            · rw [hF10, Int.toNat_natCast, ← List.map_take, ← List.map_take, el]
        · have : r.past.length ≠ 0 := fun z => hu (V.str.inj e) (List.length_eq_zero_iff.mp z)
          omega
      rintro σ H13 ⟨y5', s', r', F', rfl, x13, D13, pl13, hd13, hF13, fr13⟩
      have nd' := D13.gs.now.nd
      have sh' := shn_of D13.gs D13.sm (bk (v + 1)) (by omega)
      have v12' : ∀ n, 0 ≤ tval r'.t n ∧ tval r'.t n ≤ 1000000000000 := fun n => by
        rw [← perm_val D13.al.t nd']
        exact ⟨(sh'.val n).1, by have := D13.sm.now.val (bk (v + 1)) n; omega⟩
      have vr : ∀ n, 0 ≤ tval r'.t n ∧ tval r'.t n < 10000000000000000000000 := fun n => ⟨(v12' n).1, by have := (v12' n).2; omega⟩
      have ndr := D13.gr.now.nd
      have el : linkS r'.b r'.t = linkS s'.b s'.t := by rw [← D13.al.b, perm_linkS D13.al.t nd']
      have lr : (linkS r'.b r'.t).length ≤ 3000 := Nat.le_trans (join_le lineS _) (link_len D13.gr vr)
      refine ⟨_, ?_, fun _ _ z => z⟩
      refine ⟨_, rfl, tnil_z ⟨p2, q2, r', rfl, D13.B, D13.gr, vr, fun H14 k14 => ?_⟩⟩
      refine ⟨_, rfl, tnil_z ⟨p, q, s', rfl, D13.A.kp k14, D13.gs, sh'.val, fun H15 k15 => ⟨rfl, _, rfl, ifNe (congrArg V.str el) ?_⟩⟩⟩
      refine ⟨_, rfl, tnil_z ⟨p2, q2, r', rfl, (D13.B.kp k14).kp k15, D13.gr, vr, fun H16 k16 => ?_⟩⟩
      have k1316 := k14.trans (k15.trans k16)
      have x16 := x13.kp k1316
      refine tnil_z ⟨.str (linkS r'.b r'.t), some (linkS r'.b r'.t), rfl, ⟨rfl, by omega⟩, x16.tab hT, fun b t e p3 q3 H17 k17 np3 nq3 R17 g17 => ?_, fun i e => by rw [readL_of D13.gr.now v12'] at e; cases e⟩
      rw [readL_of D13.gr.now v12'] at e
      cases e
      have A17 := (D13.A.kp k1316).kt k17
      have B17 := (D13.B.kp k1316).kt k17
      have al3 : Alike s' ⟨r'.b, srtT r'.t, []⟩ := ⟨D13.al.b, D13.al.t.trans (srt_perm_t ndr), .nil _⟩
      refine ⟨_, rfl, eq_goY IC R17 A17 ⟨_, rfl, ?_⟩⟩
      rw [eqLk_alike al3 nd']
      refine (show if (!true) = true then _ else _ from iteF ?_)
      refine ⟨_, rfl, _, rfl, eq_goY IC B17 A17 ⟨_, rfl, ?_⟩⟩
      rw [eqLk_alike D13.al nd']
      refine (show if (!true) = true then _ else _ from iteF ?_)
      exact ⟨_, _, _, _, _, s', r', F', rfl, x16.kt k17, ⟨A17, B17, D13.al, D13.gs, D13.gr, D13.sm, D13.bot⟩, pl13, (hd13.kp0 k1316).kt k17, k17.atL (k1316.at0 hF13), fr13⟩
    rintro σ H9 ⟨y2, y3, y4, y5, y8, s, r, F, rfl, x9, D, pl, hd9, hF9, fr9⟩
    have DM : Pairs C H9 p q p2 q2 s r 1000000000000000 := ⟨D.A, D.B, D.al, D.gs, D.gr, ⟨D.sm.now.mono (by omega), fun r hr => (D.sm.old r hr).mono (by omega)⟩, D.bot⟩
    refine ⟨_, rfl, _, rfl, _, rfl, tnil_z ⟨p, q, p2, q2, F, s, r, rfl, DM, ap, by omega, hF9, x9.tab hT, fun H10 k10 => ?_⟩⟩
    refine out H10 (x9.thn k10 fun z w => .inr ?_)
    rcases w with (rfl | rfl) | (rfl | rfl)
    · exact p0
    · exact q0
    · exact p20
    · exact q20
def sp_law (K : PySem.W.Frag) (T : List (Addr × Str)) : Sp := fun vs H Q _ => ∃ (a : Addr) (ns : List Int), vs = [.ref a] ∧ SqL K H a (ns.map V.int) ∧ ns.length ≤ 63 ∧ Tabs T H ∧ ∀ H', Q (.bl true) H'
theorem few {n : Nat} (h : n ≤ 63) (m : Int) (hm : 1 ≤ m ∧ m ≤ 3) : 1 ≤ (if (if (n : Int) < m then (n : Int) else m) > 1 then (if (n : Int) < m then (n : Int) else m) else 1) ∧ (if (if (n : Int) < m then (n : Int) else m) > 1 then (if (n : Int) < m then (n : Int) else m) else 1) ≤ 3 := by
  split <;> split <;> omega
/-! ### the law k66 over two hands -/
theorem ok_law {f : Addr} {fd : FuncData} {k : Nat} {T : List (Addr × Str)} (F : Fun K "law" "law" s_law f fd) (m_range : mg "range" = none) (m_all : mg "all" = none) (m_max : mg "max" = none) (m_min : mg "min" = none) (m_len : mg "len" = none)
    (C_l_hand : Cl P w K mg base CX0 1 "_law_hand" 2 (sp_l_hand K)) (C_l_right : Cl P w K mg base CX0 15 "_law_right" 1 (sp_l_right T)) :
    FnG P w K mg base CX0 (k + 16) f fd ["_law_script"] (sp_law K T) := by
  refine ok0 F sc_law (fun vs H Q E h => ?_) (fun cdv A outer s H vs Q E gd hr h => ?_)
  · obtain ⟨a, ns, rfl, _⟩ := h
    rfl
  · obtain ⟨a, ns, rfl, hS, hl, hT, q⟩ := h
    refine ⟨_, (pss_one (ps_ret (pe_callB (cr_allK (K := K) rfl rfl) (by rfl) m_all (by decide +kernel) (pa_cons (pe_lcW (own := [("_law_k", 1)]) (g := (gName 1)) rfl sc_law.nd (pi_range1 (by rfl) m_range (pa_cons (pe_callB (call_max2 rfl) (by rfl) m_max (by decide +kernel) (pa_cons pe_int (pa_cons (pe_callB (call_min2 rfl) (by rfl) m_min (by decide +kernel) (pa_cons pe_int (pa_cons (pe_callB (call_len_seqK (K := K) rfl) (by rfl) m_len (by decide +kernel) (pa_cons (pv 0) pa_nil)) pa_nil))) pa_nil))) pa_nil)) (blkOk_by (own := [("_law_k", 1)]) (N := ["_law_script", "_law_k"]) (sc := defScope s_law) (by decide +kernel)) (fun _ _ _ _ _ => (pg_name (i := 1) sc_law.nd rfl (.inl rfl))) (fun _ _ _ _ _ => pts_nil) (fun _ _ _ _ _ => (pe_cl C_l_right (hr.mono (by omega)) gd pass0 (by rfl) (pa_cons (pe_cl C_l_hand (hr.mono (by omega)) gd pass0 (by rfl) (pa_cons (pv 0) (pa_cons (pv 1) pa_nil))) pa_nil)))) pa_nil)))), ?_⟩
    refine ⟨_, rfl, a, _, rfl, .inl hS, _, _, rfl, _, _, rfl, _, rfl, ?_, ?_, ?_⟩
    · split <;> split <;> omega
    · rw [List.length_map]
      split <;> split <;> omega
    generalize hm : Int.toNat (if (if ((ns.map V.int).length : Int) < 2 then ((ns.map V.int).length : Int) else 2) > 1 then (if ((ns.map V.int).length : Int) < 2 then ((ns.map V.int).length : Int) else 2) else 1) = m
    have hm3 : m ≤ 3 := by
      subst hm
      split <;> split <;> omega
    refine ⟨_, _, _, walk_rg, Nat.lt_of_le_of_lt hm3 (by decide), fun D H2 nD k2 hD => ?_⟩
    refine ⟨fun i acc H3 => ∃ bs : List Bool, acc = bs.map V.bl ∧ bs.all id = true ∧ Kt T H H3, ⟨[], rfl, rfl, k2.kt⟩, fun _ _ _ _ _ => trivial, ?_, ?_⟩
    · rintro i acc x H3 _ hi ⟨bs, ea, eb, k3⟩ hD3 ⟨rfl, rfl⟩
      refine ⟨rfl, yesT ?_⟩
      refine ⟨_, rfl, _, rfl, a, ns, _, rfl, k3.lst0 hS, by omega, by omega, fun h H4 nh k4 hd => ?_⟩
      have k34 := k3.kp k4
      refine tnil_z ⟨h, 0, rfl, hd, by decide, k34.tab hT, fun H5 ks5 => ?_⟩
      have x5 : Ka T h H4 H5 := ⟨fun H0 k0 na => (Ks.thn (S := fun _ => False) (.of k0) ks5 fun x e => .inr (by rw [e]; exact na)).toKt fun _ z => z.elim, fun x xs ne e => ks5.atL ne e, ks5.tab⟩
      have neD : D ≠ h := ne_of_none hD3 nh
      have hD5 := x5.l D _ neD (k4.at0 hD3)
      refine ⟨hD5, fun H6 m6 h6 => ?_⟩
      refine ⟨bs ++ [true], by rw [List.map_append, ea]; rfl, by rw [List.all_append, eb]; rfl, ?_⟩
      exact (x5.f H k34 (k3.nt0 nh)).md (nt0 nD) hD5 m6
    · rintro acc H3 hl hD3 ⟨bs, ea, eb, k3⟩
      subst ea
      refine ⟨D, bs, rfl, sqL hD3, ?_⟩
      rw [eb]
      exact q H3
end
theorem all_mk {l : PySem.W.OpenLaw} {w : World} {K : PySem.W.Frag} {h : Heap} {mg : Str → Option Value} {fa : Addr} (KI : K.In h) (G : h.Ns mainGlobals mg) (hfa : mg "law" = some (.ref fa))
    {xLink : Addr}
    (aLink : PySem.W.nsIn K mainGlobals "Link" = some (some (.ref xLink)))
    (pgLink : PySem.W.plainGet K xLink Str.empty = true)
    (hdLink : PySem.W.hasDictIn K xLink = true)
    (poLink : PySem.W.plainOver K xLink = true)
    (saLink : PySem.W.findIn K (.ref xLink) "__setattr__" = some (some (.builtin "object.__setattr__")))
    (mkLink : PySem.W.makesIn K xLink = true)
    (kcLink : PySem.W.keepIn K (.ref xLink) = true)
    (nLink_budget : PySem.W.findIn K (.ref xLink) "budget" = some none)
    (nLink_balances : PySem.W.findIn K (.ref xLink) "balances" = some none)
    (nLink_past : PySem.W.findIn K (.ref xLink) "past" = some none)
    {f0 : Addr} {od0 an0 : Option Addr} {sl0 : Array (Option Value)} {oc0 kV0 dc0 pm0 cd0 ct0 : Value}
    (a0 : PySem.W.nsIn K mainGlobals "is_integer" = some (some (.ref f0)))
    (l0 : K.lookup f0 = some ⟨oc0, od0, .func (PySem.W.fnOf "is_integer" "is_integer" (defArgs s_is_integer) (defBody s_is_integer) (defScope s_is_integer) .none kV0 dc0 pm0 an0 cd0 ct0), sl0⟩)
    (c0 : PySem.W.codeIn K cd0 "is_integer" = true) (k0 : PySem.W.keepIn K (.ref f0) = true)
    {f1 : Addr} {od1 an1 : Option Addr} {sl1 : Array (Option Value)} {oc1 kV1 dc1 pm1 cd1 ct1 : Value}
    (a1 : PySem.W.nsIn K mainGlobals "is_between" = some (some (.ref f1)))
    (l1 : K.lookup f1 = some ⟨oc1, od1, .func (PySem.W.fnOf "is_between" "is_between" (defArgs s_is_between) (defBody s_is_between) (defScope s_is_between) .none kV1 dc1 pm1 an1 cd1 ct1), sl1⟩)
    (c1 : PySem.W.codeIn K cd1 "is_between" = true) (k1 : PySem.W.keepIn K (.ref f1) = true)
    {f2 : Addr} {od2 an2 : Option Addr} {sl2 : Array (Option Value)} {oc2 kV2 dc2 pm2 cd2 ct2 : Value}
    (a2 : PySem.W.nsIn K mainGlobals "is_amount" = some (some (.ref f2)))
    (l2 : K.lookup f2 = some ⟨oc2, od2, .func (PySem.W.fnOf "is_amount" "is_amount" (defArgs s_is_amount) (defBody s_is_amount) (defScope s_is_amount) .none kV2 dc2 pm2 an2 cd2 ct2), sl2⟩)
    (c2 : PySem.W.codeIn K cd2 "is_amount" = true) (k2 : PySem.W.keepIn K (.ref f2) = true)
    {f3 : Addr} {od3 an3 : Option Addr} {sl3 : Array (Option Value)} {oc3 kV3 dc3 pm3 cd3 ct3 : Value}
    (a3 : PySem.W.nsIn K mainGlobals "is_budget" = some (some (.ref f3)))
    (l3 : K.lookup f3 = some ⟨oc3, od3, .func (PySem.W.fnOf "is_budget" "is_budget" (defArgs s_is_budget) (defBody s_is_budget) (defScope s_is_budget) .none kV3 dc3 pm3 an3 cd3 ct3), sl3⟩)
    (c3 : PySem.W.codeIn K cd3 "is_budget" = true) (k3 : PySem.W.keepIn K (.ref f3) = true)
    {f4 : Addr} {od4 an4 : Option Addr} {sl4 : Array (Option Value)} {oc4 kV4 dc4 pm4 cd4 ct4 : Value}
    (a4 : PySem.W.nsIn K mainGlobals "is_name" = some (some (.ref f4)))
    (l4 : K.lookup f4 = some ⟨oc4, od4, .func (PySem.W.fnOf "is_name" "is_name" (defArgs s_is_name) (defBody s_is_name) (defScope s_is_name) .none kV4 dc4 pm4 an4 cd4 ct4), sl4⟩)
    (c4 : PySem.W.codeIn K cd4 "is_name" = true) (k4 : PySem.W.keepIn K (.ref f4) = true)
    {f5 : Addr} {od5 an5 : Option Addr} {sl5 : Array (Option Value)} {oc5 kV5 dc5 pm5 cd5 ct5 : Value}
    (a5 : PySem.W.nsIn K mainGlobals "thresholds" = some (some (.ref f5)))
    (l5 : K.lookup f5 = some ⟨oc5, od5, .func (PySem.W.fnOf "thresholds" "thresholds" (defArgs s_thresholds) (defBody s_thresholds) (defScope s_thresholds) .none kV5 dc5 pm5 an5 cd5 ct5), sl5⟩)
    (c5 : PySem.W.codeIn K cd5 "thresholds" = true) (k5 : PySem.W.keepIn K (.ref f5) = true)
    {f6 : Addr} {od6 an6 : Option Addr} {sl6 : Array (Option Value)} {oc6 kV6 dc6 pm6 cd6 ct6 : Value}
    (a6 : PySem.W.nsIn K mainGlobals "sums" = some (some (.ref f6)))
    (l6 : K.lookup f6 = some ⟨oc6, od6, .func (PySem.W.fnOf "sums" "sums" (defArgs s_sums) (defBody s_sums) (defScope s_sums) .none kV6 dc6 pm6 an6 cd6 ct6), sl6⟩)
    (c6 : PySem.W.codeIn K cd6 "sums" = true) (k6 : PySem.W.keepIn K (.ref f6) = true)
    {f7 : Addr} {od7 an7 : Option Addr} {sl7 : Array (Option Value)} {oc7 kV7 dc7 pm7 cd7 ct7 : Value}
    (a7 : PySem.W.nsIn K mainGlobals "gap" = some (some (.ref f7)))
    (l7 : K.lookup f7 = some ⟨oc7, od7, .func (PySem.W.fnOf "gap" "gap" (defArgs s_gap) (defBody s_gap) (defScope s_gap) .none kV7 dc7 pm7 an7 cd7 ct7), sl7⟩)
    (c7 : PySem.W.codeIn K cd7 "gap" = true) (k7 : PySem.W.keepIn K (.ref f7) = true)
    {f8 : Addr} {od8 an8 : Option Addr} {sl8 : Array (Option Value)} {oc8 kV8 dc8 pm8 cd8 ct8 : Value}
    (a8 : PySem.W.nsIn K mainGlobals "poorest_first" = some (some (.ref f8)))
    (l8 : K.lookup f8 = some ⟨oc8, od8, .func (PySem.W.fnOf "poorest_first" "poorest_first" (defArgs s_poorest_first) (defBody s_poorest_first) (defScope s_poorest_first) .none kV8 dc8 pm8 an8 cd8 ct8), sl8⟩)
    (c8 : PySem.W.codeIn K cd8 "poorest_first" = true) (k8 : PySem.W.keepIn K (.ref f8) = true)
    {cc8 pp8 : Addr} {oo8 : Value} {op8 : Option Addr} {us8 : Array Value} {sq8 : Array (Option Value)}
    (q8 : cd8 = .ref cc8) (t8 : K.lookup cc8 = some ⟨oo8, op8, .fields us8, sq8⟩) (p8 : us8[11]? = some (.ref pp8)) (h8 : PySem.W.codeHdIn K cc8 pp8 = true) (n8 : K.lookup pp8 = none)
    (y8 : h.get? pp8 = some { cls := .none, data := .fields #[] })
    {f9 : Addr} {od9 an9 : Option Addr} {sl9 : Array (Option Value)} {oc9 kV9 dc9 pm9 cd9 ct9 : Value}
    (a9 : PySem.W.nsIn K mainGlobals "weak_set" = some (some (.ref f9)))
    (l9 : K.lookup f9 = some ⟨oc9, od9, .func (PySem.W.fnOf "weak_set" "weak_set" (defArgs s_weak_set) (defBody s_weak_set) (defScope s_weak_set) .none kV9 dc9 pm9 an9 cd9 ct9), sl9⟩)
    (c9 : PySem.W.codeIn K cd9 "weak_set" = true) (k9 : PySem.W.keepIn K (.ref f9) = true)
    {f10 : Addr} {od10 an10 : Option Addr} {sl10 : Array (Option Value)} {oc10 kV10 dc10 pm10 cd10 ct10 : Value}
    (a10 : PySem.W.nsIn K mainGlobals "least_beside" = some (some (.ref f10)))
    (l10 : K.lookup f10 = some ⟨oc10, od10, .func (PySem.W.fnOf "least_beside" "least_beside" (defArgs s_least_beside) (defBody s_least_beside) (defScope s_least_beside) .none kV10 dc10 pm10 an10 cd10 ct10), sl10⟩)
    (c10 : PySem.W.codeIn K cd10 "least_beside" = true) (k10 : PySem.W.keepIn K (.ref f10) = true)
    {f11 : Addr} {od11 an11 : Option Addr} {sl11 : Array (Option Value)} {oc11 kV11 dc11 pm11 cd11 ct11 : Value}
    (a11 : PySem.W.nsIn K mainGlobals "require_amount" = some (some (.ref f11)))
    (l11 : K.lookup f11 = some ⟨oc11, od11, .func (PySem.W.fnOf "require_amount" "require_amount" (defArgs s_require_amount) (defBody s_require_amount) (defScope s_require_amount) .none kV11 dc11 pm11 an11 cd11 ct11), sl11⟩)
    (c11 : PySem.W.codeIn K cd11 "require_amount" = true) (k11 : PySem.W.keepIn K (.ref f11) = true)
    {f12 : Addr} {od12 an12 : Option Addr} {sl12 : Array (Option Value)} {oc12 kV12 dc12 pm12 cd12 ct12 : Value}
    (a12 : PySem.W.nsIn K mainGlobals "require_budget" = some (some (.ref f12)))
    (l12 : K.lookup f12 = some ⟨oc12, od12, .func (PySem.W.fnOf "require_budget" "require_budget" (defArgs s_require_budget) (defBody s_require_budget) (defScope s_require_budget) .none kV12 dc12 pm12 an12 cd12 ct12), sl12⟩)
    (c12 : PySem.W.codeIn K cd12 "require_budget" = true) (k12 : PySem.W.keepIn K (.ref f12) = true)
    {f13 : Addr} {od13 an13 : Option Addr} {sl13 : Array (Option Value)} {oc13 kV13 dc13 pm13 cd13 ct13 : Value}
    (a13 : PySem.W.nsIn K mainGlobals "weak_names" = some (some (.ref f13)))
    (l13 : K.lookup f13 = some ⟨oc13, od13, .func (PySem.W.fnOf "weak_names" "weak_names" (defArgs s_weak_names) (defBody s_weak_names) (defScope s_weak_names) .none kV13 dc13 pm13 an13 cd13 ct13), sl13⟩)
    (c13 : PySem.W.codeIn K cd13 "weak_names" = true) (k13 : PySem.W.keepIn K (.ref f13) = true)
    {f14 : Addr} {od14 an14 : Option Addr} {sl14 : Array (Option Value)} {oc14 kV14 dc14 pm14 cd14 ct14 : Value}
    (a14 : PySem.W.nsIn K mainGlobals "poorest_name" = some (some (.ref f14)))
    (l14 : K.lookup f14 = some ⟨oc14, od14, .func (PySem.W.fnOf "poorest_name" "poorest_name" (defArgs s_poorest_name) (defBody s_poorest_name) (defScope s_poorest_name) .none kV14 dc14 pm14 an14 cd14 ct14), sl14⟩)
    (c14 : PySem.W.codeIn K cd14 "poorest_name" = true) (k14 : PySem.W.keepIn K (.ref f14) = true)
    {cc14 pp14 : Addr} {oo14 : Value} {op14 : Option Addr} {us14 : Array Value} {sq14 : Array (Option Value)}
    (q14 : cd14 = .ref cc14) (t14 : K.lookup cc14 = some ⟨oo14, op14, .fields us14, sq14⟩) (p14 : us14[11]? = some (.ref pp14)) (h14 : PySem.W.codeHdIn K cc14 pp14 = true) (n14 : K.lookup pp14 = none)
    (y14 : h.get? pp14 = some { cls := .none, data := .fields #[] })
    {f15 : Addr} {od15 an15 : Option Addr} {sl15 : Array (Option Value)} {oc15 kV15 dc15 pm15 cd15 ct15 : Value}
    (a15 : PySem.W.nsIn K mainGlobals "is_spend" = some (some (.ref f15)))
    (l15 : K.lookup f15 = some ⟨oc15, od15, .func (PySem.W.fnOf "is_spend" "is_spend" (defArgs s_is_spend) (defBody s_is_spend) (defScope s_is_spend) .none kV15 dc15 pm15 an15 cd15 ct15), sl15⟩)
    (c15 : PySem.W.codeIn K cd15 "is_spend" = true) (k15 : PySem.W.keepIn K (.ref f15) = true)
    {f16 : Addr} {od16 an16 : Option Addr} {sl16 : Array (Option Value)} {oc16 kV16 dc16 pm16 cd16 ct16 : Value}
    (a16 : PySem.W.nsIn K mainGlobals "is_spends" = some (some (.ref f16)))
    (l16 : K.lookup f16 = some ⟨oc16, od16, .func (PySem.W.fnOf "is_spends" "is_spends" (defArgs s_is_spends) (defBody s_is_spends) (defScope s_is_spends) .none kV16 dc16 pm16 an16 cd16 ct16), sl16⟩)
    (c16 : PySem.W.codeIn K cd16 "is_spends" = true) (k16 : PySem.W.keepIn K (.ref f16) = true)
    {f17 : Addr} {od17 an17 : Option Addr} {sl17 : Array (Option Value)} {oc17 kV17 dc17 pm17 cd17 ct17 : Value}
    (a17 : PySem.W.findIn K (.ref xLink) "require_known" = some (some (.ref f17))) (j17 : PySem.W.isFn K (.ref f17) = true)
    (l17 : K.lookup f17 = some ⟨oc17, od17, .func (PySem.W.fnOf "require_known" "Link.require_known" (defArgs s_Link_require_known) (defBody s_Link_require_known) (defScope s_Link_require_known) .none kV17 dc17 pm17 an17 cd17 ct17), sl17⟩)
    (c17 : PySem.W.codeIn K cd17 "Link.require_known" = true) (k17 : PySem.W.keepIn K (.ref f17) = true)
    {f18 : Addr} {od18 an18 : Option Addr} {sl18 : Array (Option Value)} {oc18 kV18 dc18 pm18 cd18 ct18 : Value}
    (a18 : PySem.W.findIn K (.ref xLink) "keep" = some (some (.ref f18))) (j18 : PySem.W.isFn K (.ref f18) = true)
    (l18 : K.lookup f18 = some ⟨oc18, od18, .func (PySem.W.fnOf "keep" "Link.keep" (defArgs s_Link_keep) (defBody s_Link_keep) (defScope s_Link_keep) .none kV18 dc18 pm18 an18 cd18 ct18), sl18⟩)
    (c18 : PySem.W.codeIn K cd18 "Link.keep" = true) (k18 : PySem.W.keepIn K (.ref f18) = true)
    {f19 : Addr} {od19 an19 : Option Addr} {sl19 : Array (Option Value)} {oc19 kV19 dc19 pm19 cd19 ct19 : Value}
    (a19 : PySem.W.findIn K (.ref xLink) "change" = some (some (.ref f19))) (j19 : PySem.W.isFn K (.ref f19) = true)
    (l19 : K.lookup f19 = some ⟨oc19, od19, .func (PySem.W.fnOf "change" "Link.change" (defArgs s_Link_change) (defBody s_Link_change) (defScope s_Link_change) .none kV19 dc19 pm19 an19 cd19 ct19), sl19⟩)
    (c19 : PySem.W.codeIn K cd19 "Link.change" = true) (k19 : PySem.W.keepIn K (.ref f19) = true)
    {f20 : Addr} {od20 an20 : Option Addr} {sl20 : Array (Option Value)} {oc20 kV20 dc20 pm20 cd20 ct20 : Value}
    (a20 : PySem.W.findIn K (.ref xLink) "__init__" = some (some (.ref f20))) (j20 : PySem.W.isFn K (.ref f20) = true)
    (l20 : K.lookup f20 = some ⟨oc20, od20, .func (PySem.W.fnOf "__init__" "Link.__init__" (defArgs s_Link___init__) (defBody s_Link___init__) (defScope s_Link___init__) .none kV20 dc20 pm20 an20 cd20 ct20), sl20⟩)
    (c20 : PySem.W.codeIn K cd20 "Link.__init__" = true) (k20 : PySem.W.keepIn K (.ref f20) = true)
    {f21 : Addr} {od21 an21 : Option Addr} {sl21 : Array (Option Value)} {oc21 kV21 dc21 pm21 cd21 ct21 : Value}
    (a21 : PySem.W.findIn K (.ref xLink) "__len__" = some (some (.ref f21))) (j21 : PySem.W.isFn K (.ref f21) = true)
    (l21 : K.lookup f21 = some ⟨oc21, od21, .func (PySem.W.fnOf "__len__" "Link.__len__" (defArgs s_Link___len__) (defBody s_Link___len__) (defScope s_Link___len__) .none kV21 dc21 pm21 an21 cd21 ct21), sl21⟩)
    (c21 : PySem.W.codeIn K cd21 "Link.__len__" = true) (k21 : PySem.W.keepIn K (.ref f21) = true)
    {f22 : Addr} {od22 an22 : Option Addr} {sl22 : Array (Option Value)} {oc22 kV22 dc22 pm22 cd22 ct22 : Value}
    (a22 : PySem.W.findIn K (.ref xLink) "enter" = some (some (.ref f22))) (j22 : PySem.W.isFn K (.ref f22) = true)
    (l22 : K.lookup f22 = some ⟨oc22, od22, .func (PySem.W.fnOf "enter" "Link.enter" (defArgs s_Link_enter) (defBody s_Link_enter) (defScope s_Link_enter) .none kV22 dc22 pm22 an22 cd22 ct22), sl22⟩)
    (c22 : PySem.W.codeIn K cd22 "Link.enter" = true) (k22 : PySem.W.keepIn K (.ref f22) = true)
    {f23 : Addr} {od23 an23 : Option Addr} {sl23 : Array (Option Value)} {oc23 kV23 dc23 pm23 cd23 ct23 : Value}
    (a23 : PySem.W.findIn K (.ref xLink) "leave" = some (some (.ref f23))) (j23 : PySem.W.isFn K (.ref f23) = true)
    (l23 : K.lookup f23 = some ⟨oc23, od23, .func (PySem.W.fnOf "leave" "Link.leave" (defArgs s_Link_leave) (defBody s_Link_leave) (defScope s_Link_leave) .none kV23 dc23 pm23 an23 cd23 ct23), sl23⟩)
    (c23 : PySem.W.codeIn K cd23 "Link.leave" = true) (k23 : PySem.W.keepIn K (.ref f23) = true)
    {f24 : Addr} {od24 an24 : Option Addr} {sl24 : Array (Option Value)} {oc24 kV24 dc24 pm24 cd24 ct24 : Value}
    (a24 : PySem.W.findIn K (.ref xLink) "names" = some (some (.ref f24))) (j24 : PySem.W.isFn K (.ref f24) = true)
    (l24 : K.lookup f24 = some ⟨oc24, od24, .func (PySem.W.fnOf "names" "Link.names" (defArgs s_Link_names) (defBody s_Link_names) (defScope s_Link_names) .none kV24 dc24 pm24 an24 cd24 ct24), sl24⟩)
    (c24 : PySem.W.codeIn K cd24 "Link.names" = true) (k24 : PySem.W.keepIn K (.ref f24) = true)
    {f25 : Addr} {od25 an25 : Option Addr} {sl25 : Array (Option Value)} {oc25 kV25 dc25 pm25 cd25 ct25 : Value}
    (a25 : PySem.W.findIn K (.ref xLink) "balance_of" = some (some (.ref f25))) (j25 : PySem.W.isFn K (.ref f25) = true)
    (l25 : K.lookup f25 = some ⟨oc25, od25, .func (PySem.W.fnOf "balance_of" "Link.balance_of" (defArgs s_Link_balance_of) (defBody s_Link_balance_of) (defScope s_Link_balance_of) .none kV25 dc25 pm25 an25 cd25 ct25), sl25⟩)
    (c25 : PySem.W.codeIn K cd25 "Link.balance_of" = true) (k25 : PySem.W.keepIn K (.ref f25) = true)
    {f26 : Addr} {od26 an26 : Option Addr} {sl26 : Array (Option Value)} {oc26 kV26 dc26 pm26 cd26 ct26 : Value}
    (a26 : PySem.W.findIn K (.ref xLink) "total" = some (some (.ref f26))) (j26 : PySem.W.isFn K (.ref f26) = true)
    (l26 : K.lookup f26 = some ⟨oc26, od26, .func (PySem.W.fnOf "total" "Link.total" (defArgs s_Link_total) (defBody s_Link_total) (defScope s_Link_total) .none kV26 dc26 pm26 an26 cd26 ct26), sl26⟩)
    (c26 : PySem.W.codeIn K cd26 "Link.total" = true) (k26 : PySem.W.keepIn K (.ref f26) = true)
    {f27 : Addr} {od27 an27 : Option Addr} {sl27 : Array (Option Value)} {oc27 kV27 dc27 pm27 cd27 ct27 : Value}
    (a27 : PySem.W.findIn K (.ref xLink) "current_budget" = some (some (.ref f27))) (j27 : PySem.W.isFn K (.ref f27) = true)
    (l27 : K.lookup f27 = some ⟨oc27, od27, .func (PySem.W.fnOf "current_budget" "Link.current_budget" (defArgs s_Link_current_budget) (defBody s_Link_current_budget) (defScope s_Link_current_budget) .none kV27 dc27 pm27 an27 cd27 ct27), sl27⟩)
    (c27 : PySem.W.codeIn K cd27 "Link.current_budget" = true) (k27 : PySem.W.keepIn K (.ref f27) = true)
    {f28 : Addr} {od28 an28 : Option Addr} {sl28 : Array (Option Value)} {oc28 kV28 dc28 pm28 cd28 ct28 : Value}
    (a28 : PySem.W.findIn K (.ref xLink) "deposit" = some (some (.ref f28))) (j28 : PySem.W.isFn K (.ref f28) = true)
    (l28 : K.lookup f28 = some ⟨oc28, od28, .func (PySem.W.fnOf "deposit" "Link.deposit" (defArgs s_Link_deposit) (defBody s_Link_deposit) (defScope s_Link_deposit) .none kV28 dc28 pm28 an28 cd28 ct28), sl28⟩)
    (c28 : PySem.W.codeIn K cd28 "Link.deposit" = true) (k28 : PySem.W.keepIn K (.ref f28) = true)
    {f29 : Addr} {od29 an29 : Option Addr} {sl29 : Array (Option Value)} {oc29 kV29 dc29 pm29 cd29 ct29 : Value}
    (a29 : PySem.W.findIn K (.ref xLink) "withdraw" = some (some (.ref f29))) (j29 : PySem.W.isFn K (.ref f29) = true)
    (l29 : K.lookup f29 = some ⟨oc29, od29, .func (PySem.W.fnOf "withdraw" "Link.withdraw" (defArgs s_Link_withdraw) (defBody s_Link_withdraw) (defScope s_Link_withdraw) .none kV29 dc29 pm29 an29 cd29 ct29), sl29⟩)
    (c29 : PySem.W.codeIn K cd29 "Link.withdraw" = true) (k29 : PySem.W.keepIn K (.ref f29) = true)
    {f30 : Addr} {od30 an30 : Option Addr} {sl30 : Array (Option Value)} {oc30 kV30 dc30 pm30 cd30 ct30 : Value}
    (a30 : PySem.W.findIn K (.ref xLink) "transfer" = some (some (.ref f30))) (j30 : PySem.W.isFn K (.ref f30) = true)
    (l30 : K.lookup f30 = some ⟨oc30, od30, .func (PySem.W.fnOf "transfer" "Link.transfer" (defArgs s_Link_transfer) (defBody s_Link_transfer) (defScope s_Link_transfer) .none kV30 dc30 pm30 an30 cd30 ct30), sl30⟩)
    (c30 : PySem.W.codeIn K cd30 "Link.transfer" = true) (k30 : PySem.W.keepIn K (.ref f30) = true)
    {f31 : Addr} {od31 an31 : Option Addr} {sl31 : Array (Option Value)} {oc31 kV31 dc31 pm31 cd31 ct31 : Value}
    (a31 : PySem.W.findIn K (.ref xLink) "set_budget" = some (some (.ref f31))) (j31 : PySem.W.isFn K (.ref f31) = true)
    (l31 : K.lookup f31 = some ⟨oc31, od31, .func (PySem.W.fnOf "set_budget" "Link.set_budget" (defArgs s_Link_set_budget) (defBody s_Link_set_budget) (defScope s_Link_set_budget) .none kV31 dc31 pm31 an31 cd31 ct31), sl31⟩)
    (c31 : PySem.W.codeIn K cd31 "Link.set_budget" = true) (k31 : PySem.W.keepIn K (.ref f31) = true)
    {f32 : Addr} {od32 an32 : Option Addr} {sl32 : Array (Option Value)} {oc32 kV32 dc32 pm32 cd32 ct32 : Value}
    (a32 : PySem.W.findIn K (.ref xLink) "spare_of" = some (some (.ref f32))) (j32 : PySem.W.isFn K (.ref f32) = true)
    (l32 : K.lookup f32 = some ⟨oc32, od32, .func (PySem.W.fnOf "spare_of" "Link.spare_of" (defArgs s_Link_spare_of) (defBody s_Link_spare_of) (defScope s_Link_spare_of) .none kV32 dc32 pm32 an32 cd32 ct32), sl32⟩)
    (c32 : PySem.W.codeIn K cd32 "Link.spare_of" = true) (k32 : PySem.W.keepIn K (.ref f32) = true)
    {f33 : Addr} {od33 an33 : Option Addr} {sl33 : Array (Option Value)} {oc33 kV33 dc33 pm33 cd33 ct33 : Value}
    (a33 : PySem.W.findIn K (.ref xLink) "tick" = some (some (.ref f33))) (j33 : PySem.W.isFn K (.ref f33) = true)
    (l33 : K.lookup f33 = some ⟨oc33, od33, .func (PySem.W.fnOf "tick" "Link.tick" (defArgs s_Link_tick) (defBody s_Link_tick) (defScope s_Link_tick) .none kV33 dc33 pm33 an33 cd33 ct33), sl33⟩)
    (c33 : PySem.W.codeIn K cd33 "Link.tick" = true) (k33 : PySem.W.keepIn K (.ref f33) = true)
    {f34 : Addr} {od34 an34 : Option Addr} {sl34 : Array (Option Value)} {oc34 kV34 dc34 pm34 cd34 ct34 : Value}
    (a34 : PySem.W.findIn K (.ref xLink) "undo" = some (some (.ref f34))) (j34 : PySem.W.isFn K (.ref f34) = true)
    (l34 : K.lookup f34 = some ⟨oc34, od34, .func (PySem.W.fnOf "undo" "Link.undo" (defArgs s_Link_undo) (defBody s_Link_undo) (defScope s_Link_undo) .none kV34 dc34 pm34 an34 cd34 ct34), sl34⟩)
    (c34 : PySem.W.codeIn K cd34 "Link.undo" = true) (k34 : PySem.W.keepIn K (.ref f34) = true)
    {f35 : Addr} {od35 an35 : Option Addr} {sl35 : Array (Option Value)} {oc35 kV35 dc35 pm35 cd35 ct35 : Value}
    (a35 : PySem.W.findIn K (.ref xLink) "changes" = some (some (.ref f35))) (j35 : PySem.W.isFn K (.ref f35) = true)
    (l35 : K.lookup f35 = some ⟨oc35, od35, .func (PySem.W.fnOf "changes" "Link.changes" (defArgs s_Link_changes) (defBody s_Link_changes) (defScope s_Link_changes) .none kV35 dc35 pm35 an35 cd35 ct35), sl35⟩)
    (c35 : PySem.W.codeIn K cd35 "Link.changes" = true) (k35 : PySem.W.keepIn K (.ref f35) = true)
    {f36 : Addr} {od36 an36 : Option Addr} {sl36 : Array (Option Value)} {oc36 kV36 dc36 pm36 cd36 ct36 : Value}
    (a36 : PySem.W.findIn K (.ref xLink) "clone" = some (some (.ref f36))) (j36 : PySem.W.isFn K (.ref f36) = true)
    (l36 : K.lookup f36 = some ⟨oc36, od36, .func (PySem.W.fnOf "clone" "Link.clone" (defArgs s_Link_clone) (defBody s_Link_clone) (defScope s_Link_clone) .none kV36 dc36 pm36 an36 cd36 ct36), sl36⟩)
    (c36 : PySem.W.codeIn K cd36 "Link.clone" = true) (k36 : PySem.W.keepIn K (.ref f36) = true)
    {f37 : Addr} {od37 an37 : Option Addr} {sl37 : Array (Option Value)} {oc37 kV37 dc37 pm37 cd37 ct37 : Value}
    (a37 : PySem.W.findIn K (.ref xLink) "__eq__" = some (some (.ref f37))) (j37 : PySem.W.isFn K (.ref f37) = true)
    (l37 : K.lookup f37 = some ⟨oc37, od37, .func (PySem.W.fnOf "__eq__" "Link.__eq__" (defArgs s_Link___eq__) (defBody s_Link___eq__) (defScope s_Link___eq__) .none kV37 dc37 pm37 an37 cd37 ct37), sl37⟩)
    (c37 : PySem.W.codeIn K cd37 "Link.__eq__" = true) (k37 : PySem.W.keepIn K (.ref f37) = true)
    {f38 : Addr} {od38 an38 : Option Addr} {sl38 : Array (Option Value)} {oc38 kV38 dc38 pm38 cd38 ct38 : Value}
    (a38 : PySem.W.nsIn K mainGlobals "read_number" = some (some (.ref f38)))
    (l38 : K.lookup f38 = some ⟨oc38, od38, .func (PySem.W.fnOf "read_number" "read_number" (defArgs s_read_number) (defBody s_read_number) (defScope s_read_number) .none kV38 dc38 pm38 an38 cd38 ct38), sl38⟩)
    (c38 : PySem.W.codeIn K cd38 "read_number" = true) (k38 : PySem.W.keepIn K (.ref f38) = true)
    {f39 : Addr} {od39 an39 : Option Addr} {sl39 : Array (Option Value)} {oc39 kV39 dc39 pm39 cd39 ct39 : Value}
    (a39 : PySem.W.nsIn K mainGlobals "read_amount" = some (some (.ref f39)))
    (l39 : K.lookup f39 = some ⟨oc39, od39, .func (PySem.W.fnOf "read_amount" "read_amount" (defArgs s_read_amount) (defBody s_read_amount) (defScope s_read_amount) .none kV39 dc39 pm39 an39 cd39 ct39), sl39⟩)
    (c39 : PySem.W.codeIn K cd39 "read_amount" = true) (k39 : PySem.W.keepIn K (.ref f39) = true)
    {f40 : Addr} {od40 an40 : Option Addr} {sl40 : Array (Option Value)} {oc40 kV40 dc40 pm40 cd40 ct40 : Value}
    (a40 : PySem.W.nsIn K mainGlobals "read_budget" = some (some (.ref f40)))
    (l40 : K.lookup f40 = some ⟨oc40, od40, .func (PySem.W.fnOf "read_budget" "read_budget" (defArgs s_read_budget) (defBody s_read_budget) (defScope s_read_budget) .none kV40 dc40 pm40 an40 cd40 ct40), sl40⟩)
    (c40 : PySem.W.codeIn K cd40 "read_budget" = true) (k40 : PySem.W.keepIn K (.ref f40) = true)
    {f41 : Addr} {od41 an41 : Option Addr} {sl41 : Array (Option Value)} {oc41 kV41 dc41 pm41 cd41 ct41 : Value}
    (a41 : PySem.W.nsIn K mainGlobals "show_link" = some (some (.ref f41)))
    (l41 : K.lookup f41 = some ⟨oc41, od41, .func (PySem.W.fnOf "show_link" "show_link" (defArgs s_show_link) (defBody s_show_link) (defScope s_show_link) .none kV41 dc41 pm41 an41 cd41 ct41), sl41⟩)
    (c41 : PySem.W.codeIn K cd41 "show_link" = true) (k41 : PySem.W.keepIn K (.ref f41) = true)
    {f42 : Addr} {od42 an42 : Option Addr} {sl42 : Array (Option Value)} {oc42 kV42 dc42 pm42 cd42 ct42 : Value}
    (a42 : PySem.W.nsIn K mainGlobals "read_budget_row" = some (some (.ref f42)))
    (l42 : K.lookup f42 = some ⟨oc42, od42, .func (PySem.W.fnOf "read_budget_row" "read_budget_row" (defArgs s_read_budget_row) (defBody s_read_budget_row) (defScope s_read_budget_row) .none kV42 dc42 pm42 an42 cd42 ct42), sl42⟩)
    (c42 : PySem.W.codeIn K cd42 "read_budget_row" = true) (k42 : PySem.W.keepIn K (.ref f42) = true)
    {f43 : Addr} {od43 an43 : Option Addr} {sl43 : Array (Option Value)} {oc43 kV43 dc43 pm43 cd43 ct43 : Value}
    (a43 : PySem.W.nsIn K mainGlobals "read_sender_row" = some (some (.ref f43)))
    (l43 : K.lookup f43 = some ⟨oc43, od43, .func (PySem.W.fnOf "read_sender_row" "read_sender_row" (defArgs s_read_sender_row) (defBody s_read_sender_row) (defScope s_read_sender_row) .none kV43 dc43 pm43 an43 cd43 ct43), sl43⟩)
    (c43 : PySem.W.codeIn K cd43 "read_sender_row" = true) (k43 : PySem.W.keepIn K (.ref f43) = true)
    {f44 : Addr} {od44 an44 : Option Addr} {sl44 : Array (Option Value)} {oc44 kV44 dc44 pm44 cd44 ct44 : Value}
    (a44 : PySem.W.nsIn K mainGlobals "read_senders" = some (some (.ref f44)))
    (l44 : K.lookup f44 = some ⟨oc44, od44, .func (PySem.W.fnOf "read_senders" "read_senders" (defArgs s_read_senders) (defBody s_read_senders) (defScope s_read_senders) .none kV44 dc44 pm44 an44 cd44 ct44), sl44⟩)
    (c44 : PySem.W.codeIn K cd44 "read_senders" = true) (k44 : PySem.W.keepIn K (.ref f44) = true)
    {f45 : Addr} {od45 an45 : Option Addr} {sl45 : Array (Option Value)} {oc45 kV45 dc45 pm45 cd45 ct45 : Value}
    (a45 : PySem.W.nsIn K mainGlobals "read_link" = some (some (.ref f45)))
    (l45 : K.lookup f45 = some ⟨oc45, od45, .func (PySem.W.fnOf "read_link" "read_link" (defArgs s_read_link) (defBody s_read_link) (defScope s_read_link) .none kV45 dc45 pm45 an45 cd45 ct45), sl45⟩)
    (c45 : PySem.W.codeIn K cd45 "read_link" = true) (k45 : PySem.W.keepIn K (.ref f45) = true)
    {f46 : Addr} {od46 an46 : Option Addr} {sl46 : Array (Option Value)} {oc46 kV46 dc46 pm46 cd46 ct46 : Value}
    (a46 : PySem.W.nsIn K mainGlobals "_law_take" = some (some (.ref f46)))
    (l46 : K.lookup f46 = some ⟨oc46, od46, .func (PySem.W.fnOf "_law_take" "_law_take" (defArgs s__law_take) (defBody s__law_take) (defScope s__law_take) .none kV46 dc46 pm46 an46 cd46 ct46), sl46⟩)
    (c46 : PySem.W.codeIn K cd46 "_law_take" = true) (k46 : PySem.W.keepIn K (.ref f46) = true)
    {f47 : Addr} {od47 an47 : Option Addr} {sl47 : Array (Option Value)} {oc47 kV47 dc47 pm47 cd47 ct47 : Value}
    (a47 : PySem.W.nsIn K mainGlobals "_law_of" = some (some (.ref f47)))
    (l47 : K.lookup f47 = some ⟨oc47, od47, .func (PySem.W.fnOf "_law_of" "_law_of" (defArgs s__law_of) (defBody s__law_of) (defScope s__law_of) .none kV47 dc47 pm47 an47 cd47 ct47), sl47⟩)
    (c47 : PySem.W.codeIn K cd47 "_law_of" = true) (k47 : PySem.W.keepIn K (.ref f47) = true)
    {f48 : Addr} {od48 an48 : Option Addr} {sl48 : Array (Option Value)} {oc48 kV48 dc48 pm48 cd48 ct48 : Value}
    (a48 : PySem.W.nsIn K mainGlobals "_law_hand" = some (some (.ref f48)))
    (l48 : K.lookup f48 = some ⟨oc48, od48, .func (PySem.W.fnOf "_law_hand" "_law_hand" (defArgs s__law_hand) (defBody s__law_hand) (defScope s__law_hand) .none kV48 dc48 pm48 an48 cd48 ct48), sl48⟩)
    (c48 : PySem.W.codeIn K cd48 "_law_hand" = true) (k48 : PySem.W.keepIn K (.ref f48) = true)
    {f49 : Addr} {od49 an49 : Option Addr} {sl49 : Array (Option Value)} {oc49 kV49 dc49 pm49 cd49 ct49 : Value}
    (a49 : PySem.W.nsIn K mainGlobals "_law_name" = some (some (.ref f49)))
    (l49 : K.lookup f49 = some ⟨oc49, od49, .func (PySem.W.fnOf "_law_name" "_law_name" (defArgs s__law_name) (defBody s__law_name) (defScope s__law_name) .none kV49 dc49 pm49 an49 cd49 ct49), sl49⟩)
    (c49 : PySem.W.codeIn K cd49 "_law_name" = true) (k49 : PySem.W.keepIn K (.ref f49) = true)
    {f50 : Addr} {od50 an50 : Option Addr} {sl50 : Array (Option Value)} {oc50 kV50 dc50 pm50 cd50 ct50 : Value}
    (a50 : PySem.W.nsIn K mainGlobals "_law_amount" = some (some (.ref f50)))
    (l50 : K.lookup f50 = some ⟨oc50, od50, .func (PySem.W.fnOf "_law_amount" "_law_amount" (defArgs s__law_amount) (defBody s__law_amount) (defScope s__law_amount) .none kV50 dc50 pm50 an50 cd50 ct50), sl50⟩)
    (c50 : PySem.W.codeIn K cd50 "_law_amount" = true) (k50 : PySem.W.keepIn K (.ref f50) = true)
    {f51 : Addr} {od51 an51 : Option Addr} {sl51 : Array (Option Value)} {oc51 kV51 dc51 pm51 cd51 ct51 : Value}
    (a51 : PySem.W.nsIn K mainGlobals "_law_spends" = some (some (.ref f51)))
    (l51 : K.lookup f51 = some ⟨oc51, od51, .func (PySem.W.fnOf "_law_spends" "_law_spends" (defArgs s__law_spends) (defBody s__law_spends) (defScope s__law_spends) .none kV51 dc51 pm51 an51 cd51 ct51), sl51⟩)
    (c51 : PySem.W.codeIn K cd51 "_law_spends" = true) (k51 : PySem.W.keepIn K (.ref f51) = true)
    {f52 : Addr} {od52 an52 : Option Addr} {sl52 : Array (Option Value)} {oc52 kV52 dc52 pm52 cd52 ct52 : Value}
    (a52 : PySem.W.nsIn K mainGlobals "_law_wish" = some (some (.ref f52)))
    (l52 : K.lookup f52 = some ⟨oc52, od52, .func (PySem.W.fnOf "_law_wish" "_law_wish" (defArgs s__law_wish) (defBody s__law_wish) (defScope s__law_wish) .none kV52 dc52 pm52 an52 cd52 ct52), sl52⟩)
    (c52 : PySem.W.codeIn K cd52 "_law_wish" = true) (k52 : PySem.W.keepIn K (.ref f52) = true)
    {f53 : Addr} {od53 an53 : Option Addr} {sl53 : Array (Option Value)} {oc53 kV53 dc53 pm53 cd53 ct53 : Value}
    (a53 : PySem.W.nsIn K mainGlobals "_law_link_text" = some (some (.ref f53)))
    (l53 : K.lookup f53 = some ⟨oc53, od53, .func (PySem.W.fnOf "_law_link_text" "_law_link_text" (defArgs s__law_link_text) (defBody s__law_link_text) (defScope s__law_link_text) .none kV53 dc53 pm53 an53 cd53 ct53), sl53⟩)
    (c53 : PySem.W.codeIn K cd53 "_law_link_text" = true) (k53 : PySem.W.keepIn K (.ref f53) = true)
    {f54 : Addr} {od54 an54 : Option Addr} {sl54 : Array (Option Value)} {oc54 kV54 dc54 pm54 cd54 ct54 : Value}
    (a54 : PySem.W.nsIn K mainGlobals "_law_asked" = some (some (.ref f54)))
    (l54 : K.lookup f54 = some ⟨oc54, od54, .func (PySem.W.fnOf "_law_asked" "_law_asked" (defArgs s__law_asked) (defBody s__law_asked) (defScope s__law_asked) .none kV54 dc54 pm54 an54 cd54 ct54), sl54⟩)
    (c54 : PySem.W.codeIn K cd54 "_law_asked" = true) (k54 : PySem.W.keepIn K (.ref f54) = true)
    {f55 : Addr} {od55 an55 : Option Addr} {sl55 : Array (Option Value)} {oc55 kV55 dc55 pm55 cd55 ct55 : Value}
    (a55 : PySem.W.nsIn K mainGlobals "_law_done" = some (some (.ref f55)))
    (l55 : K.lookup f55 = some ⟨oc55, od55, .func (PySem.W.fnOf "_law_done" "_law_done" (defArgs s__law_done) (defBody s__law_done) (defScope s__law_done) .none kV55 dc55 pm55 an55 cd55 ct55), sl55⟩)
    (c55 : PySem.W.codeIn K cd55 "_law_done" = true) (k55 : PySem.W.keepIn K (.ref f55) = true)
    {f56 : Addr} {od56 an56 : Option Addr} {sl56 : Array (Option Value)} {oc56 kV56 dc56 pm56 cd56 ct56 : Value}
    (a56 : PySem.W.nsIn K mainGlobals "_law_error" = some (some (.ref f56)))
    (l56 : K.lookup f56 = some ⟨oc56, od56, .func (PySem.W.fnOf "_law_error" "_law_error" (defArgs s__law_error) (defBody s__law_error) (defScope s__law_error) .none kV56 dc56 pm56 an56 cd56 ct56), sl56⟩)
    (c56 : PySem.W.codeIn K cd56 "_law_error" = true) (k56 : PySem.W.keepIn K (.ref f56) = true)
    {f57 : Addr} {od57 an57 : Option Addr} {sl57 : Array (Option Value)} {oc57 kV57 dc57 pm57 cd57 ct57 : Value}
    (a57 : PySem.W.nsIn K mainGlobals "_law_met" = some (some (.ref f57)))
    (l57 : K.lookup f57 = some ⟨oc57, od57, .func (PySem.W.fnOf "_law_met" "_law_met" (defArgs s__law_met) (defBody s__law_met) (defScope s__law_met) .none kV57 dc57 pm57 an57 cd57 ct57), sl57⟩)
    (c57 : PySem.W.codeIn K cd57 "_law_met" = true) (k57 : PySem.W.keepIn K (.ref f57) = true)
    {f58 : Addr} {od58 an58 : Option Addr} {sl58 : Array (Option Value)} {oc58 kV58 dc58 pm58 cd58 ct58 : Value}
    (a58 : PySem.W.nsIn K mainGlobals "_law_history" = some (some (.ref f58)))
    (l58 : K.lookup f58 = some ⟨oc58, od58, .func (PySem.W.fnOf "_law_history" "_law_history" (defArgs s__law_history) (defBody s__law_history) (defScope s__law_history) .none kV58 dc58 pm58 an58 cd58 ct58), sl58⟩)
    (c58 : PySem.W.codeIn K cd58 "_law_history" = true) (k58 : PySem.W.keepIn K (.ref f58) = true)
    {cc58 pp58 : Addr} {oo58 : Value} {op58 : Option Addr} {us58 : Array Value} {sq58 : Array (Option Value)}
    (q58 : cd58 = .ref cc58) (t58 : K.lookup cc58 = some ⟨oo58, op58, .fields us58, sq58⟩) (p58 : us58[11]? = some (.ref pp58)) (h58 : PySem.W.codeHdIn K cc58 pp58 = true) (n58 : K.lookup pp58 = none)
    (y58 : h.get? pp58 = some { cls := .none, data := .fields #[] })
    {f59 : Addr} {od59 an59 : Option Addr} {sl59 : Array (Option Value)} {oc59 kV59 dc59 pm59 cd59 ct59 : Value}
    (a59 : PySem.W.nsIn K mainGlobals "_law_back_right" = some (some (.ref f59)))
    (l59 : K.lookup f59 = some ⟨oc59, od59, .func (PySem.W.fnOf "_law_back_right" "_law_back_right" (defArgs s__law_back_right) (defBody s__law_back_right) (defScope s__law_back_right) .none kV59 dc59 pm59 an59 cd59 ct59), sl59⟩)
    (c59 : PySem.W.codeIn K cd59 "_law_back_right" = true) (k59 : PySem.W.keepIn K (.ref f59) = true)
    {cc59 pp59 : Addr} {oo59 : Value} {op59 : Option Addr} {us59 : Array Value} {sq59 : Array (Option Value)}
    (q59 : cd59 = .ref cc59) (t59 : K.lookup cc59 = some ⟨oo59, op59, .fields us59, sq59⟩) (p59 : us59[11]? = some (.ref pp59)) (h59 : PySem.W.codeHdIn K cc59 pp59 = true) (n59 : K.lookup pp59 = none)
    (y59 : h.get? pp59 = some { cls := .none, data := .fields #[] })
    {f60 : Addr} {od60 an60 : Option Addr} {sl60 : Array (Option Value)} {oc60 kV60 dc60 pm60 cd60 ct60 : Value}
    (a60 : PySem.W.nsIn K mainGlobals "_law_right" = some (some (.ref f60)))
    (l60 : K.lookup f60 = some ⟨oc60, od60, .func (PySem.W.fnOf "_law_right" "_law_right" (defArgs s__law_right) (defBody s__law_right) (defScope s__law_right) .none kV60 dc60 pm60 an60 cd60 ct60), sl60⟩)
    (c60 : PySem.W.codeIn K cd60 "_law_right" = true) (k60 : PySem.W.keepIn K (.ref f60) = true)
    {cc60 pp60 : Addr} {oo60 : Value} {op60 : Option Addr} {us60 : Array Value} {sq60 : Array (Option Value)}
    (q60 : cd60 = .ref cc60) (t60 : K.lookup cc60 = some ⟨oo60, op60, .fields us60, sq60⟩) (p60 : us60[11]? = some (.ref pp60)) (h60 : PySem.W.codeHdIn K cc60 pp60 = true) (n60 : K.lookup pp60 = none)
    (y60 : h.get? pp60 = some { cls := .none, data := .fields #[] })
    {f61 : Addr} {od61 an61 : Option Addr} {sl61 : Array (Option Value)} {oc61 kV61 dc61 pm61 cd61 ct61 : Value}
    (a61 : PySem.W.nsIn K mainGlobals "law" = some (some (.ref f61)))
    (l61 : K.lookup f61 = some ⟨oc61, od61, .func (PySem.W.fnOf "law" "law" (defArgs s_law) (defBody s_law) (defScope s_law) .none kV61 dc61 pm61 an61 cd61 ct61), sl61⟩)
    (c61 : PySem.W.codeIn K cd61 "law" = true) (k61 : PySem.W.keepIn K (.ref f61) = true)
    (d14_8 : (pp14 == pp8) = false)
    (d58_8 : (pp58 == pp8) = false)
    (d58_14 : (pp58 == pp14) = false)
    (d59_8 : (pp59 == pp8) = false)
    (d59_14 : (pp59 == pp14) = false)
    (d59_58 : (pp59 == pp58) = false)
    (d60_8 : (pp60 == pp8) = false)
    (d60_14 : (pp60 == pp14) = false)
    (d60_58 : (pp60 == pp58) = false)
    (d60_59 : (pp60 == pp59) = false)
    (z_isinstance : PySem.W.nsIn K mainGlobals "isinstance" = some none)
    (z_int : PySem.W.nsIn K mainGlobals "int" = some none)
    (z_bool : PySem.W.nsIn K mainGlobals "bool" = some none)
    (z_str : PySem.W.nsIn K mainGlobals "str" = some none)
    (z_len : PySem.W.nsIn K mainGlobals "len" = some none)
    (z_all : PySem.W.nsIn K mainGlobals "all" = some none)
    (z_range : PySem.W.nsIn K mainGlobals "range" = some none)
    (z_tuple : PySem.W.nsIn K mainGlobals "tuple" = some none)
    (z_sorted : PySem.W.nsIn K mainGlobals "sorted" = some none)
    (z_enumerate : PySem.W.nsIn K mainGlobals "enumerate" = some none)
    (z_list : PySem.W.nsIn K mainGlobals "list" = some none)
    (z_max : PySem.W.nsIn K mainGlobals "max" = some none)
    (z_zip : PySem.W.nsIn K mainGlobals "zip" = some none)
    (z_min : PySem.W.nsIn K mainGlobals "min" = some none)
    (z_sum : PySem.W.nsIn K mainGlobals "sum" = some none)
    (z_dict : PySem.W.nsIn K mainGlobals "dict" = some none)
    (z_abs : PySem.W.nsIn K mainGlobals "abs" = some none)
    (z_ValueError : PySem.W.nsIn K mainGlobals "ValueError" = some none)
    (z_repr : PySem.W.nsIn K mainGlobals "repr" = some none)
    (o_MOST_CREDITS : ∃ t, mg "MOST_CREDITS" = some (.int 1000000000000 t))
    (o_MOST_BUDGET : ∃ t, mg "MOST_BUDGET" = some (.int 1000000 t))
    {tk_MOST_LETTERS : Tok} (g_MOST_LETTERS : PySem.W.nsIn K mainGlobals "MOST_LETTERS" = some (some (.int 8 tk_MOST_LETTERS)))
    {tk_LETTERS : Tok} (g_LETTERS : PySem.W.nsIn K mainGlobals "LETTERS" = some (some (.str "abcdefghijklmnopqrstuvwxyz" tk_LETTERS)))
    {tk_MOST_SENDERS : Tok} (g_MOST_SENDERS : PySem.W.nsIn K mainGlobals "MOST_SENDERS" = some (some (.int 40 tk_MOST_SENDERS)))
    {tk_MOST_DIGITS : Tok} (g_MOST_DIGITS : PySem.W.nsIn K mainGlobals "MOST_DIGITS" = some (some (.int 13 tk_MOST_DIGITS)))
    {tk_DIGITS : Tok} (g_DIGITS : PySem.W.nsIn K mainGlobals "DIGITS" = some (some (.str "0123456789" tk_DIGITS)))
    {xFu xUd : Addr}
    {xE : Addr}
    {xCm : Addr}
    {xNa gNa nNa : Addr} {nmNa qNa : Str} {bsNa bmNa subNa : List Value} {snNa : List Str} {abNa : Bool} {colNa : Option Bool} {ddNa odNa anNa : Option Addr} {u0Na u1Na u2Na u3Na u5Na : Option Value} {slNa : Array (Option Value)} {ocNa kVNa dcNa pmNa cdNa ctNa : Value}
    {xTa gTa nTa : Addr} {nmTa qTa : Str} {bsTa bmTa subTa : List Value} {snTa : List Str} {abTa : Bool} {colTa : Option Bool} {ddTa odTa anTa : Option Addr} {u0Ta u1Ta u2Ta u3Ta u5Ta : Option Value} {slTa : Array (Option Value)} {ocTa kVTa dcTa pmTa cdTa ctTa : Value}
    {xUn gUn nUn : Addr} {nmUn qUn : Str} {bsUn bmUn subUn : List Value} {snUn : List Str} {abUn : Bool} {colUn : Option Bool} {ddUn odUn anUn : Option Addr} {u0Un u1Un u2Un u3Un u5Un : Option Value} {slUn : Array (Option Value)} {ocUn kVUn dcUn pmUn cdUn ctUn : Value}
    {xAm gAm nAm : Addr} {nmAm qAm : Str} {bsAm bmAm subAm : List Value} {snAm : List Str} {abAm : Bool} {colAm : Option Bool} {ddAm odAm anAm : Option Addr} {u0Am u1Am u2Am u3Am u5Am : Option Value} {slAm : Array (Option Value)} {ocAm kVAm dcAm pmAm cdAm ctAm : Value}
    {xBu gBu nBu : Addr} {nmBu qBu : Str} {bsBu bmBu subBu : List Value} {snBu : List Str} {abBu : Bool} {colBu : Option Bool} {ddBu odBu anBu : Option Addr} {u0Bu u1Bu u2Bu u3Bu u5Bu : Option Value} {slBu : Array (Option Value)} {ocBu kVBu dcBu pmBu cdBu ctBu : Value}
    {xSp gSp nSp : Addr} {nmSp qSp : Str} {bsSp bmSp subSp : List Value} {snSp : List Str} {abSp : Bool} {colSp : Option Bool} {ddSp odSp anSp : Option Addr} {u0Sp u1Sp u2Sp u3Sp u5Sp : Option Value} {slSp : Array (Option Value)} {ocSp kVSp dcSp pmSp cdSp ctSp : Value}
    {xOv gOv nOv : Addr} {nmOv qOv : Str} {bsOv bmOv subOv : List Value} {snOv : List Str} {abOv : Bool} {colOv : Option Bool} {ddOv odOv anOv : Option Addr} {u0Ov u1Ov u2Ov u3Ov u5Ov : Option Value} {slOv : Array (Option Value)} {ocOv kVOv dcOv pmOv cdOv ctOv : Value}
    {xRe gRe nRe : Addr} {nmRe qRe : Str} {bsRe bmRe subRe : List Value} {snRe : List Str} {abRe : Bool} {colRe : Option Bool} {ddRe odRe anRe : Option Addr} {u0Re u1Re u2Re u3Re u5Re : Option Value} {slRe : Array (Option Value)} {ocRe kVRe dcRe pmRe cdRe ctRe : Value}
    {xTx gTx nTx : Addr} {nmTx qTx : Str} {bsTx bmTx subTx : List Value} {snTx : List Str} {abTx : Bool} {colTx : Option Bool} {ddTx odTx anTx : Option Addr} {u0Tx u1Tx u2Tx u3Tx u5Tx : Option Value} {slTx : Array (Option Value)} {ocTx kVTx dcTx pmTx cdTx ctTx : Value}
    (aE : PySem.W.nsIn K mainGlobals "CreditError" = some (some (.ref xE)))
    (aCm : PySem.W.nsIn K mainGlobals "BadCommand" = some (some (.ref xCm)))
    (aNa : PySem.W.nsIn K mainGlobals "BadName" = some (some (.ref xNa)))
    (aTa : PySem.W.nsIn K mainGlobals "TakenName" = some (some (.ref xTa)))
    (aUn : PySem.W.nsIn K mainGlobals "UnknownName" = some (some (.ref xUn)))
    (aAm : PySem.W.nsIn K mainGlobals "BadAmount" = some (some (.ref xAm)))
    (aBu : PySem.W.nsIn K mainGlobals "BadBudget" = some (some (.ref xBu)))
    (aSp : PySem.W.nsIn K mainGlobals "BadSpends" = some (some (.ref xSp)))
    (aOv : PySem.W.nsIn K mainGlobals "OverBudget" = some (some (.ref xOv)))
    (aRe : PySem.W.nsIn K mainGlobals "Refused" = some (some (.ref xRe)))
    (aTx : PySem.W.nsIn K mainGlobals "BadText" = some (some (.ref xTx)))
    (exE : PySem.W.subIn K (.ref xE) (.type "BaseException") = some true)
    (hdE : PySem.W.hasDictIn K xE = true)
    (tyE : PySem.W.typeIn K (.ref xE) = some (.type "type"))
    (xn_ : PySem.W.specialIn K (.builtin "object.__class__") "__get__" = some (some (.builtin "getset_descriptor.__get__")))
    (xu_ : PySem.W.takesIn K (.builtin "object.__class__") = some true)
    (lNa : K.lookup xNa = some (excClassObj nmNa qNa xNa nNa bsNa bmNa true snNa subNa abNa colNa ddNa u0Na u1Na u2Na u3Na u5Na "ValueError.__new__"))
    (vNa : PySem.HandSPX.refsVE bmNa = true)
    (saNa : PySem.W.findIn K (.ref xNa) "__setattr__" = some (some (.builtin "object.__setattr__")))
    (exNa : PySem.W.subIn K (.ref xNa) (.type "BaseException") = some true)
    (tyNa : PySem.W.typeIn K (.ref xNa) = some (.type "type"))
    (kcNa : PySem.W.keepIn K (.ref xNa) = true)
    (iNa : PySem.W.findIn K (.ref xNa) "__init__" = some (some (.ref gNa)))
    (tNa : PySem.W.typeIn K (.ref gNa) = some (.type "function"))
    (noNa : PySem.W.findIn K (.ref xNa) "value" = some none)
    (liNa : K.lookup gNa = some ⟨ocNa, odNa, .func (PySem.W.fnOf "__init__" "BadName.__init__" (defArgs i_BadName) (defBody i_BadName) (defScope i_BadName) .none kVNa dcNa pmNa anNa cdNa ctNa), slNa⟩)
    (ciNa : PySem.W.codeIn K cdNa "BadName.__init__" = true)
    (kiNa : PySem.W.keepIn K (.ref gNa) = true)
    (hgNa : PySem.W.findIn K (.ref xNa) "__getattribute__" = some (some (.builtin "BaseException.__getattribute__")))
    (hkNa : PySem.W.findIn K (.ref xNa) "__getattr__" = some none)
    (hdNa : PySem.W.hasDictIn K xNa = true)
    (haNa : PySem.W.findIn K (.ref xNa) "__class__" = some (some (.builtin "object.__class__")))
    (hmNa : PySem.W.mroIn K xNa (.type "object") = some true)
    (seNaE : PySem.W.subIn K (.ref xNa) (.ref xE) = some true)
    (kNaNa : PySem.W.kitOne K (.ref xNa) (.ref xNa) = some true)
    (kTaNa : PySem.W.kitOne K (.ref xNa) (.ref xTa) = some false)
    (kUnNa : PySem.W.kitOne K (.ref xNa) (.ref xUn) = some false)
    (kAmNa : PySem.W.kitOne K (.ref xNa) (.ref xAm) = some false)
    (kBuNa : PySem.W.kitOne K (.ref xNa) (.ref xBu) = some false)
    (kSpNa : PySem.W.kitOne K (.ref xNa) (.ref xSp) = some false)
    (kOvNa : PySem.W.kitOne K (.ref xNa) (.ref xOv) = some false)
    (kReNa : PySem.W.kitOne K (.ref xNa) (.ref xRe) = some false)
    (kFuNa : PySem.W.kitOne K (.ref xNa) (.ref xFu) = some false)
    (kUdNa : PySem.W.kitOne K (.ref xNa) (.ref xUd) = some false)
    (kVNa : PySem.W.kitOne K (.ref xNa) (.type "ValueError") = some true)
    (kCmNa : PySem.W.kitOne K (.ref xNa) (.ref xCm) = some false)
    (kTxNa : PySem.W.kitOne K (.ref xNa) (.ref xTx) = some false)
    (lTa : K.lookup xTa = some (excClassObj nmTa qTa xTa nTa bsTa bmTa true snTa subTa abTa colTa ddTa u0Ta u1Ta u2Ta u3Ta u5Ta "ValueError.__new__"))
    (vTa : PySem.HandSPX.refsVE bmTa = true)
    (saTa : PySem.W.findIn K (.ref xTa) "__setattr__" = some (some (.builtin "object.__setattr__")))
    (exTa : PySem.W.subIn K (.ref xTa) (.type "BaseException") = some true)
    (tyTa : PySem.W.typeIn K (.ref xTa) = some (.type "type"))
    (kcTa : PySem.W.keepIn K (.ref xTa) = true)
    (iTa : PySem.W.findIn K (.ref xTa) "__init__" = some (some (.ref gTa)))
    (tTa : PySem.W.typeIn K (.ref gTa) = some (.type "function"))
    (noTa : PySem.W.findIn K (.ref xTa) "value" = some none)
    (liTa : K.lookup gTa = some ⟨ocTa, odTa, .func (PySem.W.fnOf "__init__" "TakenName.__init__" (defArgs i_TakenName) (defBody i_TakenName) (defScope i_TakenName) .none kVTa dcTa pmTa anTa cdTa ctTa), slTa⟩)
    (ciTa : PySem.W.codeIn K cdTa "TakenName.__init__" = true)
    (kiTa : PySem.W.keepIn K (.ref gTa) = true)
    (hgTa : PySem.W.findIn K (.ref xTa) "__getattribute__" = some (some (.builtin "BaseException.__getattribute__")))
    (hkTa : PySem.W.findIn K (.ref xTa) "__getattr__" = some none)
    (hdTa : PySem.W.hasDictIn K xTa = true)
    (haTa : PySem.W.findIn K (.ref xTa) "__class__" = some (some (.builtin "object.__class__")))
    (hmTa : PySem.W.mroIn K xTa (.type "object") = some true)
    (seTaE : PySem.W.subIn K (.ref xTa) (.ref xE) = some true)
    (kNaTa : PySem.W.kitOne K (.ref xTa) (.ref xNa) = some false)
    (kTaTa : PySem.W.kitOne K (.ref xTa) (.ref xTa) = some true)
    (kUnTa : PySem.W.kitOne K (.ref xTa) (.ref xUn) = some false)
    (kAmTa : PySem.W.kitOne K (.ref xTa) (.ref xAm) = some false)
    (kBuTa : PySem.W.kitOne K (.ref xTa) (.ref xBu) = some false)
    (kSpTa : PySem.W.kitOne K (.ref xTa) (.ref xSp) = some false)
    (kOvTa : PySem.W.kitOne K (.ref xTa) (.ref xOv) = some false)
    (kReTa : PySem.W.kitOne K (.ref xTa) (.ref xRe) = some false)
    (kFuTa : PySem.W.kitOne K (.ref xTa) (.ref xFu) = some false)
    (kUdTa : PySem.W.kitOne K (.ref xTa) (.ref xUd) = some false)
    (kVTa : PySem.W.kitOne K (.ref xTa) (.type "ValueError") = some true)
    (kCmTa : PySem.W.kitOne K (.ref xTa) (.ref xCm) = some false)
    (kTxTa : PySem.W.kitOne K (.ref xTa) (.ref xTx) = some false)
    (lUn : K.lookup xUn = some (excClassObj nmUn qUn xUn nUn bsUn bmUn true snUn subUn abUn colUn ddUn u0Un u1Un u2Un u3Un u5Un "ValueError.__new__"))
    (vUn : PySem.HandSPX.refsVE bmUn = true)
    (saUn : PySem.W.findIn K (.ref xUn) "__setattr__" = some (some (.builtin "object.__setattr__")))
    (exUn : PySem.W.subIn K (.ref xUn) (.type "BaseException") = some true)
    (tyUn : PySem.W.typeIn K (.ref xUn) = some (.type "type"))
    (kcUn : PySem.W.keepIn K (.ref xUn) = true)
    (iUn : PySem.W.findIn K (.ref xUn) "__init__" = some (some (.ref gUn)))
    (tUn : PySem.W.typeIn K (.ref gUn) = some (.type "function"))
    (noUn : PySem.W.findIn K (.ref xUn) "value" = some none)
    (liUn : K.lookup gUn = some ⟨ocUn, odUn, .func (PySem.W.fnOf "__init__" "UnknownName.__init__" (defArgs i_UnknownName) (defBody i_UnknownName) (defScope i_UnknownName) .none kVUn dcUn pmUn anUn cdUn ctUn), slUn⟩)
    (ciUn : PySem.W.codeIn K cdUn "UnknownName.__init__" = true)
    (kiUn : PySem.W.keepIn K (.ref gUn) = true)
    (hgUn : PySem.W.findIn K (.ref xUn) "__getattribute__" = some (some (.builtin "BaseException.__getattribute__")))
    (hkUn : PySem.W.findIn K (.ref xUn) "__getattr__" = some none)
    (hdUn : PySem.W.hasDictIn K xUn = true)
    (haUn : PySem.W.findIn K (.ref xUn) "__class__" = some (some (.builtin "object.__class__")))
    (hmUn : PySem.W.mroIn K xUn (.type "object") = some true)
    (seUnE : PySem.W.subIn K (.ref xUn) (.ref xE) = some true)
    (kNaUn : PySem.W.kitOne K (.ref xUn) (.ref xNa) = some false)
    (kTaUn : PySem.W.kitOne K (.ref xUn) (.ref xTa) = some false)
    (kUnUn : PySem.W.kitOne K (.ref xUn) (.ref xUn) = some true)
    (kAmUn : PySem.W.kitOne K (.ref xUn) (.ref xAm) = some false)
    (kBuUn : PySem.W.kitOne K (.ref xUn) (.ref xBu) = some false)
    (kSpUn : PySem.W.kitOne K (.ref xUn) (.ref xSp) = some false)
    (kOvUn : PySem.W.kitOne K (.ref xUn) (.ref xOv) = some false)
    (kReUn : PySem.W.kitOne K (.ref xUn) (.ref xRe) = some false)
    (kFuUn : PySem.W.kitOne K (.ref xUn) (.ref xFu) = some false)
    (kUdUn : PySem.W.kitOne K (.ref xUn) (.ref xUd) = some false)
    (kVUn : PySem.W.kitOne K (.ref xUn) (.type "ValueError") = some true)
    (kCmUn : PySem.W.kitOne K (.ref xUn) (.ref xCm) = some false)
    (kTxUn : PySem.W.kitOne K (.ref xUn) (.ref xTx) = some false)
    (lAm : K.lookup xAm = some (excClassObj nmAm qAm xAm nAm bsAm bmAm true snAm subAm abAm colAm ddAm u0Am u1Am u2Am u3Am u5Am "ValueError.__new__"))
    (vAm : PySem.HandSPX.refsVE bmAm = true)
    (saAm : PySem.W.findIn K (.ref xAm) "__setattr__" = some (some (.builtin "object.__setattr__")))
    (exAm : PySem.W.subIn K (.ref xAm) (.type "BaseException") = some true)
    (tyAm : PySem.W.typeIn K (.ref xAm) = some (.type "type"))
    (kcAm : PySem.W.keepIn K (.ref xAm) = true)
    (iAm : PySem.W.findIn K (.ref xAm) "__init__" = some (some (.ref gAm)))
    (tAm : PySem.W.typeIn K (.ref gAm) = some (.type "function"))
    (noAm : PySem.W.findIn K (.ref xAm) "value" = some none)
    (liAm : K.lookup gAm = some ⟨ocAm, odAm, .func (PySem.W.fnOf "__init__" "BadAmount.__init__" (defArgs i_BadAmount) (defBody i_BadAmount) (defScope i_BadAmount) .none kVAm dcAm pmAm anAm cdAm ctAm), slAm⟩)
    (ciAm : PySem.W.codeIn K cdAm "BadAmount.__init__" = true)
    (kiAm : PySem.W.keepIn K (.ref gAm) = true)
    (hgAm : PySem.W.findIn K (.ref xAm) "__getattribute__" = some (some (.builtin "BaseException.__getattribute__")))
    (hkAm : PySem.W.findIn K (.ref xAm) "__getattr__" = some none)
    (hdAm : PySem.W.hasDictIn K xAm = true)
    (haAm : PySem.W.findIn K (.ref xAm) "__class__" = some (some (.builtin "object.__class__")))
    (hmAm : PySem.W.mroIn K xAm (.type "object") = some true)
    (seAmE : PySem.W.subIn K (.ref xAm) (.ref xE) = some true)
    (kNaAm : PySem.W.kitOne K (.ref xAm) (.ref xNa) = some false)
    (kTaAm : PySem.W.kitOne K (.ref xAm) (.ref xTa) = some false)
    (kUnAm : PySem.W.kitOne K (.ref xAm) (.ref xUn) = some false)
    (kAmAm : PySem.W.kitOne K (.ref xAm) (.ref xAm) = some true)
    (kBuAm : PySem.W.kitOne K (.ref xAm) (.ref xBu) = some false)
    (kSpAm : PySem.W.kitOne K (.ref xAm) (.ref xSp) = some false)
    (kOvAm : PySem.W.kitOne K (.ref xAm) (.ref xOv) = some false)
    (kReAm : PySem.W.kitOne K (.ref xAm) (.ref xRe) = some false)
    (kFuAm : PySem.W.kitOne K (.ref xAm) (.ref xFu) = some false)
    (kUdAm : PySem.W.kitOne K (.ref xAm) (.ref xUd) = some false)
    (kVAm : PySem.W.kitOne K (.ref xAm) (.type "ValueError") = some true)
    (kCmAm : PySem.W.kitOne K (.ref xAm) (.ref xCm) = some false)
    (kTxAm : PySem.W.kitOne K (.ref xAm) (.ref xTx) = some false)
    (lBu : K.lookup xBu = some (excClassObj nmBu qBu xBu nBu bsBu bmBu true snBu subBu abBu colBu ddBu u0Bu u1Bu u2Bu u3Bu u5Bu "ValueError.__new__"))
    (vBu : PySem.HandSPX.refsVE bmBu = true)
    (saBu : PySem.W.findIn K (.ref xBu) "__setattr__" = some (some (.builtin "object.__setattr__")))
    (exBu : PySem.W.subIn K (.ref xBu) (.type "BaseException") = some true)
    (tyBu : PySem.W.typeIn K (.ref xBu) = some (.type "type"))
    (kcBu : PySem.W.keepIn K (.ref xBu) = true)
    (iBu : PySem.W.findIn K (.ref xBu) "__init__" = some (some (.ref gBu)))
    (tBu : PySem.W.typeIn K (.ref gBu) = some (.type "function"))
    (noBu : PySem.W.findIn K (.ref xBu) "value" = some none)
    (liBu : K.lookup gBu = some ⟨ocBu, odBu, .func (PySem.W.fnOf "__init__" "BadBudget.__init__" (defArgs i_BadBudget) (defBody i_BadBudget) (defScope i_BadBudget) .none kVBu dcBu pmBu anBu cdBu ctBu), slBu⟩)
    (ciBu : PySem.W.codeIn K cdBu "BadBudget.__init__" = true)
    (kiBu : PySem.W.keepIn K (.ref gBu) = true)
    (hgBu : PySem.W.findIn K (.ref xBu) "__getattribute__" = some (some (.builtin "BaseException.__getattribute__")))
    (hkBu : PySem.W.findIn K (.ref xBu) "__getattr__" = some none)
    (hdBu : PySem.W.hasDictIn K xBu = true)
    (haBu : PySem.W.findIn K (.ref xBu) "__class__" = some (some (.builtin "object.__class__")))
    (hmBu : PySem.W.mroIn K xBu (.type "object") = some true)
    (seBuE : PySem.W.subIn K (.ref xBu) (.ref xE) = some true)
    (kNaBu : PySem.W.kitOne K (.ref xBu) (.ref xNa) = some false)
    (kTaBu : PySem.W.kitOne K (.ref xBu) (.ref xTa) = some false)
    (kUnBu : PySem.W.kitOne K (.ref xBu) (.ref xUn) = some false)
    (kAmBu : PySem.W.kitOne K (.ref xBu) (.ref xAm) = some false)
    (kBuBu : PySem.W.kitOne K (.ref xBu) (.ref xBu) = some true)
    (kSpBu : PySem.W.kitOne K (.ref xBu) (.ref xSp) = some false)
    (kOvBu : PySem.W.kitOne K (.ref xBu) (.ref xOv) = some false)
    (kReBu : PySem.W.kitOne K (.ref xBu) (.ref xRe) = some false)
    (kFuBu : PySem.W.kitOne K (.ref xBu) (.ref xFu) = some false)
    (kUdBu : PySem.W.kitOne K (.ref xBu) (.ref xUd) = some false)
    (kVBu : PySem.W.kitOne K (.ref xBu) (.type "ValueError") = some true)
    (kCmBu : PySem.W.kitOne K (.ref xBu) (.ref xCm) = some false)
    (kTxBu : PySem.W.kitOne K (.ref xBu) (.ref xTx) = some false)
    (lSp : K.lookup xSp = some (excClassObj nmSp qSp xSp nSp bsSp bmSp true snSp subSp abSp colSp ddSp u0Sp u1Sp u2Sp u3Sp u5Sp "ValueError.__new__"))
    (vSp : PySem.HandSPX.refsVE bmSp = true)
    (saSp : PySem.W.findIn K (.ref xSp) "__setattr__" = some (some (.builtin "object.__setattr__")))
    (exSp : PySem.W.subIn K (.ref xSp) (.type "BaseException") = some true)
    (tySp : PySem.W.typeIn K (.ref xSp) = some (.type "type"))
    (kcSp : PySem.W.keepIn K (.ref xSp) = true)
    (iSp : PySem.W.findIn K (.ref xSp) "__init__" = some (some (.ref gSp)))
    (tSp : PySem.W.typeIn K (.ref gSp) = some (.type "function"))
    (noSp : PySem.W.findIn K (.ref xSp) "value" = some none)
    (liSp : K.lookup gSp = some ⟨ocSp, odSp, .func (PySem.W.fnOf "__init__" "BadSpends.__init__" (defArgs i_BadSpends) (defBody i_BadSpends) (defScope i_BadSpends) .none kVSp dcSp pmSp anSp cdSp ctSp), slSp⟩)
    (ciSp : PySem.W.codeIn K cdSp "BadSpends.__init__" = true)
    (kiSp : PySem.W.keepIn K (.ref gSp) = true)
    (hgSp : PySem.W.findIn K (.ref xSp) "__getattribute__" = some (some (.builtin "BaseException.__getattribute__")))
    (hkSp : PySem.W.findIn K (.ref xSp) "__getattr__" = some none)
    (hdSp : PySem.W.hasDictIn K xSp = true)
    (haSp : PySem.W.findIn K (.ref xSp) "__class__" = some (some (.builtin "object.__class__")))
    (hmSp : PySem.W.mroIn K xSp (.type "object") = some true)
    (seSpE : PySem.W.subIn K (.ref xSp) (.ref xE) = some true)
    (kNaSp : PySem.W.kitOne K (.ref xSp) (.ref xNa) = some false)
    (kTaSp : PySem.W.kitOne K (.ref xSp) (.ref xTa) = some false)
    (kUnSp : PySem.W.kitOne K (.ref xSp) (.ref xUn) = some false)
    (kAmSp : PySem.W.kitOne K (.ref xSp) (.ref xAm) = some false)
    (kBuSp : PySem.W.kitOne K (.ref xSp) (.ref xBu) = some false)
    (kSpSp : PySem.W.kitOne K (.ref xSp) (.ref xSp) = some true)
    (kOvSp : PySem.W.kitOne K (.ref xSp) (.ref xOv) = some false)
    (kReSp : PySem.W.kitOne K (.ref xSp) (.ref xRe) = some false)
    (kFuSp : PySem.W.kitOne K (.ref xSp) (.ref xFu) = some false)
    (kUdSp : PySem.W.kitOne K (.ref xSp) (.ref xUd) = some false)
    (kVSp : PySem.W.kitOne K (.ref xSp) (.type "ValueError") = some true)
    (kCmSp : PySem.W.kitOne K (.ref xSp) (.ref xCm) = some false)
    (kTxSp : PySem.W.kitOne K (.ref xSp) (.ref xTx) = some false)
    (lOv : K.lookup xOv = some (excClassObj nmOv qOv xOv nOv bsOv bmOv true snOv subOv abOv colOv ddOv u0Ov u1Ov u2Ov u3Ov u5Ov "ValueError.__new__"))
    (vOv : PySem.HandSPX.refsVE bmOv = true)
    (saOv : PySem.W.findIn K (.ref xOv) "__setattr__" = some (some (.builtin "object.__setattr__")))
    (exOv : PySem.W.subIn K (.ref xOv) (.type "BaseException") = some true)
    (tyOv : PySem.W.typeIn K (.ref xOv) = some (.type "type"))
    (kcOv : PySem.W.keepIn K (.ref xOv) = true)
    (iOv : PySem.W.findIn K (.ref xOv) "__init__" = some (some (.ref gOv)))
    (tOv : PySem.W.typeIn K (.ref gOv) = some (.type "function"))
    (noOv : PySem.W.findIn K (.ref xOv) "value" = some none)
    (liOv : K.lookup gOv = some ⟨ocOv, odOv, .func (PySem.W.fnOf "__init__" "OverBudget.__init__" (defArgs i_OverBudget) (defBody i_OverBudget) (defScope i_OverBudget) .none kVOv dcOv pmOv anOv cdOv ctOv), slOv⟩)
    (ciOv : PySem.W.codeIn K cdOv "OverBudget.__init__" = true)
    (kiOv : PySem.W.keepIn K (.ref gOv) = true)
    (hgOv : PySem.W.findIn K (.ref xOv) "__getattribute__" = some (some (.builtin "BaseException.__getattribute__")))
    (hkOv : PySem.W.findIn K (.ref xOv) "__getattr__" = some none)
    (hdOv : PySem.W.hasDictIn K xOv = true)
    (haOv : PySem.W.findIn K (.ref xOv) "__class__" = some (some (.builtin "object.__class__")))
    (hmOv : PySem.W.mroIn K xOv (.type "object") = some true)
    (seOvE : PySem.W.subIn K (.ref xOv) (.ref xE) = some true)
    (kNaOv : PySem.W.kitOne K (.ref xOv) (.ref xNa) = some false)
    (kTaOv : PySem.W.kitOne K (.ref xOv) (.ref xTa) = some false)
    (kUnOv : PySem.W.kitOne K (.ref xOv) (.ref xUn) = some false)
    (kAmOv : PySem.W.kitOne K (.ref xOv) (.ref xAm) = some false)
    (kBuOv : PySem.W.kitOne K (.ref xOv) (.ref xBu) = some false)
    (kSpOv : PySem.W.kitOne K (.ref xOv) (.ref xSp) = some false)
    (kOvOv : PySem.W.kitOne K (.ref xOv) (.ref xOv) = some true)
    (kReOv : PySem.W.kitOne K (.ref xOv) (.ref xRe) = some false)
    (kFuOv : PySem.W.kitOne K (.ref xOv) (.ref xFu) = some false)
    (kUdOv : PySem.W.kitOne K (.ref xOv) (.ref xUd) = some false)
    (kVOv : PySem.W.kitOne K (.ref xOv) (.type "ValueError") = some true)
    (kCmOv : PySem.W.kitOne K (.ref xOv) (.ref xCm) = some false)
    (kTxOv : PySem.W.kitOne K (.ref xOv) (.ref xTx) = some false)
    (lRe : K.lookup xRe = some (excClassObj nmRe qRe xRe nRe bsRe bmRe true snRe subRe abRe colRe ddRe u0Re u1Re u2Re u3Re u5Re "ValueError.__new__"))
    (vRe : PySem.HandSPX.refsVE bmRe = true)
    (saRe : PySem.W.findIn K (.ref xRe) "__setattr__" = some (some (.builtin "object.__setattr__")))
    (exRe : PySem.W.subIn K (.ref xRe) (.type "BaseException") = some true)
    (tyRe : PySem.W.typeIn K (.ref xRe) = some (.type "type"))
    (kcRe : PySem.W.keepIn K (.ref xRe) = true)
    (iRe : PySem.W.findIn K (.ref xRe) "__init__" = some (some (.ref gRe)))
    (tRe : PySem.W.typeIn K (.ref gRe) = some (.type "function"))
    (noRe : PySem.W.findIn K (.ref xRe) "value" = some none)
    (liRe : K.lookup gRe = some ⟨ocRe, odRe, .func (PySem.W.fnOf "__init__" "Refused.__init__" (defArgs i_Refused) (defBody i_Refused) (defScope i_Refused) .none kVRe dcRe pmRe anRe cdRe ctRe), slRe⟩)
    (ciRe : PySem.W.codeIn K cdRe "Refused.__init__" = true)
    (kiRe : PySem.W.keepIn K (.ref gRe) = true)
    (hgRe : PySem.W.findIn K (.ref xRe) "__getattribute__" = some (some (.builtin "BaseException.__getattribute__")))
    (hkRe : PySem.W.findIn K (.ref xRe) "__getattr__" = some none)
    (hdRe : PySem.W.hasDictIn K xRe = true)
    (haRe : PySem.W.findIn K (.ref xRe) "__class__" = some (some (.builtin "object.__class__")))
    (hmRe : PySem.W.mroIn K xRe (.type "object") = some true)
    (seReE : PySem.W.subIn K (.ref xRe) (.ref xE) = some true)
    (kNaRe : PySem.W.kitOne K (.ref xRe) (.ref xNa) = some false)
    (kTaRe : PySem.W.kitOne K (.ref xRe) (.ref xTa) = some false)
    (kUnRe : PySem.W.kitOne K (.ref xRe) (.ref xUn) = some false)
    (kAmRe : PySem.W.kitOne K (.ref xRe) (.ref xAm) = some false)
    (kBuRe : PySem.W.kitOne K (.ref xRe) (.ref xBu) = some false)
    (kSpRe : PySem.W.kitOne K (.ref xRe) (.ref xSp) = some false)
    (kOvRe : PySem.W.kitOne K (.ref xRe) (.ref xOv) = some false)
    (kReRe : PySem.W.kitOne K (.ref xRe) (.ref xRe) = some true)
    (kFuRe : PySem.W.kitOne K (.ref xRe) (.ref xFu) = some false)
    (kUdRe : PySem.W.kitOne K (.ref xRe) (.ref xUd) = some false)
    (kVRe : PySem.W.kitOne K (.ref xRe) (.type "ValueError") = some true)
    (kCmRe : PySem.W.kitOne K (.ref xRe) (.ref xCm) = some false)
    (kTxRe : PySem.W.kitOne K (.ref xRe) (.ref xTx) = some false)
    (lTx : K.lookup xTx = some (excClassObj nmTx qTx xTx nTx bsTx bmTx true snTx subTx abTx colTx ddTx u0Tx u1Tx u2Tx u3Tx u5Tx "ValueError.__new__"))
    (vTx : PySem.HandSPX.refsVE bmTx = true)
    (saTx : PySem.W.findIn K (.ref xTx) "__setattr__" = some (some (.builtin "object.__setattr__")))
    (exTx : PySem.W.subIn K (.ref xTx) (.type "BaseException") = some true)
    (tyTx : PySem.W.typeIn K (.ref xTx) = some (.type "type"))
    (kcTx : PySem.W.keepIn K (.ref xTx) = true)
    (iTx : PySem.W.findIn K (.ref xTx) "__init__" = some (some (.ref gTx)))
    (tTx : PySem.W.typeIn K (.ref gTx) = some (.type "function"))
    (noTx : PySem.W.findIn K (.ref xTx) "value" = some none)
    (liTx : K.lookup gTx = some ⟨ocTx, odTx, .func (PySem.W.fnOf "__init__" "BadText.__init__" (defArgs i_BadText) (defBody i_BadText) (defScope i_BadText) .none kVTx dcTx pmTx anTx cdTx ctTx), slTx⟩)
    (ciTx : PySem.W.codeIn K cdTx "BadText.__init__" = true)
    (kiTx : PySem.W.keepIn K (.ref gTx) = true)
    (hgTx : PySem.W.findIn K (.ref xTx) "__getattribute__" = some (some (.builtin "BaseException.__getattribute__")))
    (hkTx : PySem.W.findIn K (.ref xTx) "__getattr__" = some none)
    (hdTx : PySem.W.hasDictIn K xTx = true)
    (haTx : PySem.W.findIn K (.ref xTx) "__class__" = some (some (.builtin "object.__class__")))
    (hmTx : PySem.W.mroIn K xTx (.type "object") = some true)
    (seTxE : PySem.W.subIn K (.ref xTx) (.ref xE) = some true)
    (aFu : PySem.W.nsIn K mainGlobals "FullLink" = some (some (.ref xFu)))
    (xxFu : PySem.W.excIn K xFu [.type "ValueError", .type "Exception", .type "BaseException", .type "object"] "ValueError.__new__" = true)
    (kcFu : PySem.W.keepIn K (.ref xFu) = true)
    (exFu : PySem.W.subIn K (.ref xFu) (.type "BaseException") = some true)
    (tyFu : PySem.W.typeIn K (.ref xFu) = some (.type "type"))
    (hgFu : PySem.W.findIn K (.ref xFu) "__getattribute__" = some (some (.builtin "BaseException.__getattribute__")))
    (hkFu : PySem.W.findIn K (.ref xFu) "__getattr__" = some none)
    (hdFu : PySem.W.hasDictIn K xFu = true)
    (haFu : PySem.W.findIn K (.ref xFu) "__class__" = some (some (.builtin "object.__class__")))
    (hmFu : PySem.W.mroIn K xFu (.type "object") = some true)
    (seFuE : PySem.W.subIn K (.ref xFu) (.ref xE) = some true)
    (kNaFu : PySem.W.kitOne K (.ref xFu) (.ref xNa) = some false)
    (kTaFu : PySem.W.kitOne K (.ref xFu) (.ref xTa) = some false)
    (kUnFu : PySem.W.kitOne K (.ref xFu) (.ref xUn) = some false)
    (kAmFu : PySem.W.kitOne K (.ref xFu) (.ref xAm) = some false)
    (kBuFu : PySem.W.kitOne K (.ref xFu) (.ref xBu) = some false)
    (kSpFu : PySem.W.kitOne K (.ref xFu) (.ref xSp) = some false)
    (kOvFu : PySem.W.kitOne K (.ref xFu) (.ref xOv) = some false)
    (kReFu : PySem.W.kitOne K (.ref xFu) (.ref xRe) = some false)
    (kFuFu : PySem.W.kitOne K (.ref xFu) (.ref xFu) = some true)
    (kUdFu : PySem.W.kitOne K (.ref xFu) (.ref xUd) = some false)
    (kVFu : PySem.W.kitOne K (.ref xFu) (.type "ValueError") = some true)
    (kCmFu : PySem.W.kitOne K (.ref xFu) (.ref xCm) = some false)
    (kTxFu : PySem.W.kitOne K (.ref xFu) (.ref xTx) = some false)
    (aUd : PySem.W.nsIn K mainGlobals "NothingToUndo" = some (some (.ref xUd)))
    (xxUd : PySem.W.excIn K xUd [.type "ValueError", .type "Exception", .type "BaseException", .type "object"] "ValueError.__new__" = true)
    (kcUd : PySem.W.keepIn K (.ref xUd) = true)
    (exUd : PySem.W.subIn K (.ref xUd) (.type "BaseException") = some true)
    (tyUd : PySem.W.typeIn K (.ref xUd) = some (.type "type"))
    (hgUd : PySem.W.findIn K (.ref xUd) "__getattribute__" = some (some (.builtin "BaseException.__getattribute__")))
    (hkUd : PySem.W.findIn K (.ref xUd) "__getattr__" = some none)
    (hdUd : PySem.W.hasDictIn K xUd = true)
    (haUd : PySem.W.findIn K (.ref xUd) "__class__" = some (some (.builtin "object.__class__")))
    (hmUd : PySem.W.mroIn K xUd (.type "object") = some true)
    (seUdE : PySem.W.subIn K (.ref xUd) (.ref xE) = some true)
    (kNaUd : PySem.W.kitOne K (.ref xUd) (.ref xNa) = some false)
    (kTaUd : PySem.W.kitOne K (.ref xUd) (.ref xTa) = some false)
    (kUnUd : PySem.W.kitOne K (.ref xUd) (.ref xUn) = some false)
    (kAmUd : PySem.W.kitOne K (.ref xUd) (.ref xAm) = some false)
    (kBuUd : PySem.W.kitOne K (.ref xUd) (.ref xBu) = some false)
    (kSpUd : PySem.W.kitOne K (.ref xUd) (.ref xSp) = some false)
    (kOvUd : PySem.W.kitOne K (.ref xUd) (.ref xOv) = some false)
    (kReUd : PySem.W.kitOne K (.ref xUd) (.ref xRe) = some false)
    (kFuUd : PySem.W.kitOne K (.ref xUd) (.ref xFu) = some false)
    (kUdUd : PySem.W.kitOne K (.ref xUd) (.ref xUd) = some true)
    (kVUd : PySem.W.kitOne K (.ref xUd) (.type "ValueError") = some true)
    (kCmUd : PySem.W.kitOne K (.ref xUd) (.ref xCm) = some false)
    (kTxUd : PySem.W.kitOne K (.ref xUd) (.ref xTx) = some false)
    (seRR : PySem.W.subIn K (.ref xRe) (.ref xRe) = some true)
    (fca : PySem.W.findIn K (.ref xLink) "__class__" = some (some (.builtin "object.__class__")))
    (fcm : PySem.W.mroIn K xLink (.type "object") = some true)
    (fme : PySem.W.kitOne K (.ref xLink) (.ref xLink) = some true)
    (fne : PySem.W.findIn K (.ref xLink) "__ne__" = some (some (.builtin "object.__ne__")))
    : ∃ (fd : FuncData) (cs : List (Addr × Addr)) (sp : Sp), (∀ t ∈ cs, h.get? t.2 = some { cls := .none, data := .fields #[] }) ∧ (∀ t ∈ cs, K.lookup t.2 = none) ∧ (∀ t ∈ cs, PySem.W.CodeHd h t.1 t.2) ∧ (∀ (s : Shared) (u : Value), BindsTo s fd ⟨[u], []⟩ [("_law_script", u)]) ∧
        (∀ (H : Hp) (a : Addr) (ns : List Int), ns.length ≤ 63 → (∀ t ∈ cs, H t.2 = some (.tbl #[])) → SqL K H a (ns.map V.int) → sp [.ref a] H (fun v _ => v = .bl true) fun _ _ _ => False) ∧
        ∀ base : Heap, K.In base → base.Ns mainGlobals mg → (∀ t ∈ cs, TabB base mg t.1 t.2) → FnG l.prog w K mg base CX0 16 fa fd ["_law_script"] sp := by
  have e := hfa.symm.trans (PySem.W.mg_of KI G a61)
  cases e
  have m_isinstance := PySem.W.mg_none_of KI G z_isinstance
  have m_int := PySem.W.mg_none_of KI G z_int
  have m_bool := PySem.W.mg_none_of KI G z_bool
  have m_str := PySem.W.mg_none_of KI G z_str
  have m_len := PySem.W.mg_none_of KI G z_len
  have m_all := PySem.W.mg_none_of KI G z_all
  have m_range := PySem.W.mg_none_of KI G z_range
  have m_tuple := PySem.W.mg_none_of KI G z_tuple
  have m_sorted := PySem.W.mg_none_of KI G z_sorted
  have m_enumerate := PySem.W.mg_none_of KI G z_enumerate
  have m_list := PySem.W.mg_none_of KI G z_list
  have m_max := PySem.W.mg_none_of KI G z_max
  have m_zip := PySem.W.mg_none_of KI G z_zip
  have m_min := PySem.W.mg_none_of KI G z_min
  have m_sum := PySem.W.mg_none_of KI G z_sum
  have m_dict := PySem.W.mg_none_of KI G z_dict
  have m_abs := PySem.W.mg_none_of KI G z_abs
  have m_ValueError := PySem.W.mg_none_of KI G z_ValueError
  have m_repr := PySem.W.mg_none_of KI G z_repr
  obtain ⟨tk_MOST_CREDITS, mg_MOST_CREDITS⟩ := o_MOST_CREDITS
  obtain ⟨tk_MOST_BUDGET, mg_MOST_BUDGET⟩ := o_MOST_BUDGET
  have mg_MOST_LETTERS := PySem.W.mg_of KI G g_MOST_LETTERS
  have mg_LETTERS := PySem.W.mg_of KI G g_LETTERS
  have mg_MOST_SENDERS := PySem.W.mg_of KI G g_MOST_SENDERS
  have mg_MOST_DIGITS := PySem.W.mg_of KI G g_MOST_DIGITS
  have mg_DIGITS := PySem.W.mg_of KI G g_DIGITS
  have F0 := fun_mk (st := s_is_integer) l0 c0 k0
  have b0 := F0.binds (ps := ["thing"]) fun _ _ _ _ _ _ us hl => match us, hl with | [_], _ => rfl
  have F1 := fun_mk (st := s_is_between) l1 c1 k1
  have b1 := F1.binds (ps := ["thing", "least", "most"]) fun _ _ _ _ _ _ us hl => match us, hl with | [_, _, _], _ => rfl
  have F2 := fun_mk (st := s_is_amount) l2 c2 k2
  have b2 := F2.binds (ps := ["thing"]) fun _ _ _ _ _ _ us hl => match us, hl with | [_], _ => rfl
  have F3 := fun_mk (st := s_is_budget) l3 c3 k3
  have b3 := F3.binds (ps := ["thing"]) fun _ _ _ _ _ _ us hl => match us, hl with | [_], _ => rfl
  have F4 := fun_mk (st := s_is_name) l4 c4 k4
  have b4 := F4.binds (ps := ["thing"]) fun _ _ _ _ _ _ us hl => match us, hl with | [_], _ => rfl
  have F5 := fun_mk (st := s_thresholds) l5 c5 k5
  have b5 := F5.binds (ps := ["count", "budget"]) fun _ _ _ _ _ _ us hl => match us, hl with | [_, _], _ => rfl
  have F6 := fun_mk (st := s_sums) l6 c6 k6
  have b6 := F6.binds (ps := ["balances"]) fun _ _ _ _ _ _ us hl => match us, hl with | [_], _ => rfl
  have F7 := fun_mk (st := s_gap) l7 c7 k7
  have b7 := F7.binds (ps := ["balances", "budget"]) fun _ _ _ _ _ _ us hl => match us, hl with | [_, _], _ => rfl
  have F8 := fun_mk (st := s_poorest_first) l8 c8 k8
  have b8 := F8.binds (ps := ["balances", "senders"]) fun _ _ _ _ _ _ us hl => match us, hl with | [_, _], _ => rfl
  have F9 := fun_mk (st := s_weak_set) l9 c9 k9
  have b9 := F9.binds (ps := ["balances", "budget"]) fun _ _ _ _ _ _ us hl => match us, hl with | [_, _], _ => rfl
  have F10 := fun_mk (st := s_least_beside) l10 c10 k10
  have b10 := F10.binds (ps := ["others", "budget"]) fun _ _ _ _ _ _ us hl => match us, hl with | [_, _], _ => rfl
  have F11 := fun_mk (st := s_require_amount) l11 c11 k11
  have b11 := F11.binds (ps := ["amount"]) fun _ _ _ _ _ _ us hl => match us, hl with | [_], _ => rfl
  have F12 := fun_mk (st := s_require_budget) l12 c12 k12
  have b12 := F12.binds (ps := ["budget"]) fun _ _ _ _ _ _ us hl => match us, hl with | [_], _ => rfl
  have F13 := fun_mk (st := s_weak_names) l13 c13 k13
  have b13 := F13.binds (ps := ["budget", "balances"]) fun _ _ _ _ _ _ us hl => match us, hl with | [_, _], _ => rfl
  have F14 := fun_mk (st := s_poorest_name) l14 c14 k14
  have b14 := F14.binds (ps := ["balances"]) fun _ _ _ _ _ _ us hl => match us, hl with | [_], _ => rfl
  have F15 := fun_mk (st := s_is_spend) l15 c15 k15
  have b15 := F15.binds (ps := ["thing"]) fun _ _ _ _ _ _ us hl => match us, hl with | [_], _ => rfl
  have F16 := fun_mk (st := s_is_spends) l16 c16 k16
  have b16 := F16.binds (ps := ["thing"]) fun _ _ _ _ _ _ us hl => match us, hl with | [_], _ => rfl
  have F17 := fun_mk (st := s_Link_require_known) l17 c17 k17
  have b17 := F17.binds (ps := ["self", "name"]) fun _ _ _ _ _ _ us hl => match us, hl with | [_, _], _ => rfl
  have F18 := fun_mk (st := s_Link_keep) l18 c18 k18
  have b18 := F18.binds (ps := ["self", "budget", "balances"]) fun _ _ _ _ _ _ us hl => match us, hl with | [_, _, _], _ => rfl
  have F19 := fun_mk (st := s_Link_change) l19 c19 k19
  have b19 := F19.binds (ps := ["self", "budget", "balances"]) fun _ _ _ _ _ _ us hl => match us, hl with | [_, _, _], _ => rfl
  have F20 := fun_mk (st := s_Link___init__) l20 c20 k20
  have b20 := F20.binds (ps := ["self", "budget"]) fun _ _ _ _ _ _ us hl => match us, hl with | [_, _], _ => rfl
  have F21 := fun_mk (st := s_Link___len__) l21 c21 k21
  have b21 := F21.binds (ps := ["self"]) fun _ _ _ _ _ _ us hl => match us, hl with | [_], _ => rfl
  have F22 := fun_mk (st := s_Link_enter) l22 c22 k22
  have b22 := F22.binds (ps := ["self", "name", "balance"]) fun _ _ _ _ _ _ us hl => match us, hl with | [_, _, _], _ => rfl
  have F23 := fun_mk (st := s_Link_leave) l23 c23 k23
  have b23 := F23.binds (ps := ["self", "name"]) fun _ _ _ _ _ _ us hl => match us, hl with | [_, _], _ => rfl
  have F24 := fun_mk (st := s_Link_names) l24 c24 k24
  have b24 := F24.binds (ps := ["self"]) fun _ _ _ _ _ _ us hl => match us, hl with | [_], _ => rfl
  have F25 := fun_mk (st := s_Link_balance_of) l25 c25 k25
  have b25 := F25.binds (ps := ["self", "name"]) fun _ _ _ _ _ _ us hl => match us, hl with | [_, _], _ => rfl
  have F26 := fun_mk (st := s_Link_total) l26 c26 k26
  have b26 := F26.binds (ps := ["self"]) fun _ _ _ _ _ _ us hl => match us, hl with | [_], _ => rfl
  have F27 := fun_mk (st := s_Link_current_budget) l27 c27 k27
  have b27 := F27.binds (ps := ["self"]) fun _ _ _ _ _ _ us hl => match us, hl with | [_], _ => rfl
  have F28 := fun_mk (st := s_Link_deposit) l28 c28 k28
  have b28 := F28.binds (ps := ["self", "name", "amount"]) fun _ _ _ _ _ _ us hl => match us, hl with | [_, _, _], _ => rfl
  have F29 := fun_mk (st := s_Link_withdraw) l29 c29 k29
  have b29 := F29.binds (ps := ["self", "name", "amount"]) fun _ _ _ _ _ _ us hl => match us, hl with | [_, _, _], _ => rfl
  have F30 := fun_mk (st := s_Link_transfer) l30 c30 k30
  have b30 := F30.binds (ps := ["self", "giver", "taker", "amount"]) fun _ _ _ _ _ _ us hl => match us, hl with | [_, _, _, _], _ => rfl
  have F31 := fun_mk (st := s_Link_set_budget) l31 c31 k31
  have b31 := F31.binds (ps := ["self", "budget"]) fun _ _ _ _ _ _ us hl => match us, hl with | [_, _], _ => rfl
  have F32 := fun_mk (st := s_Link_spare_of) l32 c32 k32
  have b32 := F32.binds (ps := ["self", "name"]) fun _ _ _ _ _ _ us hl => match us, hl with | [_, _], _ => rfl
  have F33 := fun_mk (st := s_Link_tick) l33 c33 k33
  have b33 := F33.binds (ps := ["self", "spends"]) fun _ _ _ _ _ _ us hl => match us, hl with | [_, _], _ => rfl
  have F34 := fun_mk (st := s_Link_undo) l34 c34 k34
  have b34 := F34.binds (ps := ["self"]) fun _ _ _ _ _ _ us hl => match us, hl with | [_], _ => rfl
  have F35 := fun_mk (st := s_Link_changes) l35 c35 k35
  have b35 := F35.binds (ps := ["self"]) fun _ _ _ _ _ _ us hl => match us, hl with | [_], _ => rfl
  have F36 := fun_mk (st := s_Link_clone) l36 c36 k36
  have b36 := F36.binds (ps := ["self"]) fun _ _ _ _ _ _ us hl => match us, hl with | [_], _ => rfl
  have F37 := fun_mk (st := s_Link___eq__) l37 c37 k37
  have b37 := F37.binds (ps := ["self", "other"]) fun _ _ _ _ _ _ us hl => match us, hl with | [_, _], _ => rfl
  have F38 := fun_mk (st := s_read_number) l38 c38 k38
  have b38 := F38.binds (ps := ["word", "least", "most"]) fun _ _ _ _ _ _ us hl => match us, hl with | [_, _, _], _ => rfl
  have F39 := fun_mk (st := s_read_amount) l39 c39 k39
  have b39 := F39.binds (ps := ["word"]) fun _ _ _ _ _ _ us hl => match us, hl with | [_], _ => rfl
  have F40 := fun_mk (st := s_read_budget) l40 c40 k40
  have b40 := F40.binds (ps := ["word"]) fun _ _ _ _ _ _ us hl => match us, hl with | [_], _ => rfl
  have F41 := fun_mk (st := s_show_link) l41 c41 k41
  have b41 := F41.binds (ps := ["link"]) fun _ _ _ _ _ _ us hl => match us, hl with | [_], _ => rfl
  have F42 := fun_mk (st := s_read_budget_row) l42 c42 k42
  have b42 := F42.binds (ps := ["row"]) fun _ _ _ _ _ _ us hl => match us, hl with | [_], _ => rfl
  have F43 := fun_mk (st := s_read_sender_row) l43 c43 k43
  have b43 := F43.binds (ps := ["row"]) fun _ _ _ _ _ _ us hl => match us, hl with | [_], _ => rfl
  have F44 := fun_mk (st := s_read_senders) l44 c44 k44
  have b44 := F44.binds (ps := ["rows"]) fun _ _ _ _ _ _ us hl => match us, hl with | [_], _ => rfl
  have F45 := fun_mk (st := s_read_link) l45 c45 k45
  have b45 := F45.binds (ps := ["text"]) fun _ _ _ _ _ _ us hl => match us, hl with | [_], _ => rfl
  have F46 := fun_mk (st := s__law_take) l46 c46 k46
  have b46 := F46.binds (ps := ["_law_hand_here", "_law_many"]) fun _ _ _ _ _ _ us hl => match us, hl with | [_, _], _ => rfl
  have F47 := fun_mk (st := s__law_of) l47 c47 k47
  have b47 := F47.binds (ps := ["_law_hand_here", "_law_some"]) fun _ _ _ _ _ _ us hl => match us, hl with | [_, _], _ => rfl
  have F48 := fun_mk (st := s__law_hand) l48 c48 k48
  have b48 := F48.binds (ps := ["_law_script", "_law_k"]) fun _ _ _ _ _ _ us hl => match us, hl with | [_, _], _ => rfl
  have F49 := fun_mk (st := s__law_name) l49 c49 k49
  have b49 := F49.binds (ps := ["_law_hand_here"]) fun _ _ _ _ _ _ us hl => match us, hl with | [_], _ => rfl
  have F50 := fun_mk (st := s__law_amount) l50 c50 k50
  have b50 := F50.binds (ps := ["_law_hand_here"]) fun _ _ _ _ _ _ us hl => match us, hl with | [_], _ => rfl
  have F51 := fun_mk (st := s__law_spends) l51 c51 k51
  have b51 := F51.binds (ps := ["_law_hand_here", "_law_budget"]) fun _ _ _ _ _ _ us hl => match us, hl with | [_, _], _ => rfl
  have F52 := fun_mk (st := s__law_wish) l52 c52 k52
  have b52 := F52.binds (ps := ["_law_hand_here", "_law_link"]) fun _ _ _ _ _ _ us hl => match us, hl with | [_, _], _ => rfl
  have F53 := fun_mk (st := s__law_link_text) l53 c53 k53
  have b53 := F53.binds (ps := ["_law_link"]) fun _ _ _ _ _ _ us hl => match us, hl with | [_], _ => rfl
  have F54 := fun_mk (st := s__law_asked) l54 c54 k54
  have b54 := F54.binds (ps := ["_law_link", "_law_word", "_law_parts"]) fun _ _ _ _ _ _ us hl => match us, hl with | [_, _, _], _ => rfl
  have F55 := fun_mk (st := s__law_done) l55 c55 k55
  have b55 := F55.binds (ps := ["_law_link", "_law_wish_here"]) fun _ _ _ _ _ _ us hl => match us, hl with | [_, _], _ => rfl
  have F56 := fun_mk (st := s__law_error) l56 c56 k56
  have b56 := F56.binds (ps := ["_law_caught"]) fun _ _ _ _ _ _ us hl => match us, hl with | [_], _ => rfl
  have F57 := fun_mk (st := s__law_met) l57 c57 k57
  have b57 := F57.binds (ps := ["_law_ask"]) fun _ _ _ _ _ _ us hl => match us, hl with | [_], _ => rfl
  have F58 := fun_mk (st := s__law_history) l58 c58 k58
  have b58 := F58.binds (ps := ["_law_hand_here", "_law_budget", "_law_many"]) fun _ _ _ _ _ _ us hl => match us, hl with | [_, _, _], _ => rfl
  have F59 := fun_mk (st := s__law_back_right) l59 c59 k59
  have b59 := F59.binds (ps := ["_law_link", "_law_read", "_law_texts"]) fun _ _ _ _ _ _ us hl => match us, hl with | [_, _, _], _ => rfl
  have F60 := fun_mk (st := s__law_right) l60 c60 k60
  have b60 := F60.binds (ps := ["_law_hand_here"]) fun _ _ _ _ _ _ us hl => match us, hl with | [_], _ => rfl
  have F61 := fun_mk (st := s_law) l61 c61 k61
  have b61 := F61.binds (ps := ["_law_script"]) fun _ _ _ _ _ _ us hl => match us, hl with | [_], _ => rfl
  refine ⟨PySem.W.fnOf "law" "law" (defArgs s_law) (defBody s_law) (defScope s_law) .none kV61 dc61 pm61 an61 cd61 ct61, [(cc8, pp8), (cc14, pp14), (cc58, pp58), (cc59, pp59), (cc60, pp60)], (sp_law K [(pp8, qLam "poorest_first"), (pp14, qLam "poorest_name"), (pp58, qLam "_law_history"), (pp59, qLam "_law_back_right"), (pp60, qLam "_law_right")]), (List.forall_mem_cons.mpr ⟨y8, (List.forall_mem_cons.mpr ⟨y14, (List.forall_mem_cons.mpr ⟨y58, (List.forall_mem_cons.mpr ⟨y59, (List.forall_mem_cons.mpr ⟨y60, (List.forall_mem_nil _)⟩)⟩)⟩)⟩)⟩), (List.forall_mem_cons.mpr ⟨n8, (List.forall_mem_cons.mpr ⟨n14, (List.forall_mem_cons.mpr ⟨n58, (List.forall_mem_cons.mpr ⟨n59, (List.forall_mem_cons.mpr ⟨n60, (List.forall_mem_nil _)⟩)⟩)⟩)⟩)⟩), (List.forall_mem_cons.mpr ⟨PySem.W.codeHd_of_K KI h8, (List.forall_mem_cons.mpr ⟨PySem.W.codeHd_of_K KI h14, (List.forall_mem_cons.mpr ⟨PySem.W.codeHd_of_K KI h58, (List.forall_mem_cons.mpr ⟨PySem.W.codeHd_of_K KI h59, (List.forall_mem_cons.mpr ⟨PySem.W.codeHd_of_K KI h60, (List.forall_mem_nil _)⟩)⟩)⟩)⟩)⟩), fun s v => .of_eq rfl, fun H a ns hl hT hS => ⟨a, ns, rfl, hS, hl, ?_, fun _ => rfl⟩, fun base _ _ hTB => ?_⟩
  · exact (List.forall_mem_cons.mpr ⟨LamX.TabS.nil (hT (cc8, pp8) (List.mem_cons_self ..)), (List.forall_mem_cons.mpr ⟨LamX.TabS.nil (hT (cc14, pp14) (List.mem_cons_of_mem _ (List.mem_cons_self ..))), (List.forall_mem_cons.mpr ⟨LamX.TabS.nil (hT (cc58, pp58) (List.mem_cons_of_mem _ (List.mem_cons_of_mem _ (List.mem_cons_self ..)))), (List.forall_mem_cons.mpr ⟨LamX.TabS.nil (hT (cc59, pp59) (List.mem_cons_of_mem _ (List.mem_cons_of_mem _ (List.mem_cons_of_mem _ (List.mem_cons_self ..))))), (List.forall_mem_cons.mpr ⟨LamX.TabS.nil (hT (cc60, pp60) (List.mem_cons_of_mem _ (List.mem_cons_of_mem _ (List.mem_cons_of_mem _ (List.mem_cons_of_mem _ (List.mem_cons_self ..)))))), (List.forall_mem_nil _)⟩)⟩)⟩)⟩)⟩)
  generalize hTT : ([(pp8, qLam "poorest_first"), (pp14, qLam "poorest_name"), (pp58, qLam "_law_history"), (pp59, qLam "_law_back_right"), (pp60, qLam "_law_right")] : List (Addr × Str)) = T
  have tb8 := hTB (cc8, pp8) (List.mem_cons_self ..)
  have mt8 : (pp8, qLam "poorest_first") ∈ T := by rw [← hTT]; exact (List.mem_cons_self ..)
  have ut8 : ∀ r ∈ T, r.1 = pp8 → r.2 = qLam "poorest_first" := by rw [← hTT]; exact (List.forall_mem_cons.mpr ⟨fun _ => rfl, (List.forall_mem_cons.mpr ⟨fun z => absurd z (by simpa using d14_8), (List.forall_mem_cons.mpr ⟨fun z => absurd z (by simpa using d58_8), (List.forall_mem_cons.mpr ⟨fun z => absurd z (by simpa using d59_8), (List.forall_mem_cons.mpr ⟨fun z => absurd z (by simpa using d60_8), (List.forall_mem_nil _)⟩)⟩)⟩)⟩)⟩)
  have tb14 := hTB (cc14, pp14) (List.mem_cons_of_mem _ (List.mem_cons_self ..))
  have mt14 : (pp14, qLam "poorest_name") ∈ T := by rw [← hTT]; exact (List.mem_cons_of_mem _ (List.mem_cons_self ..))
  have ut14 : ∀ r ∈ T, r.1 = pp14 → r.2 = qLam "poorest_name" := by rw [← hTT]; exact (List.forall_mem_cons.mpr ⟨fun z => absurd z.symm (by simpa using d14_8), (List.forall_mem_cons.mpr ⟨fun _ => rfl, (List.forall_mem_cons.mpr ⟨fun z => absurd z (by simpa using d58_14), (List.forall_mem_cons.mpr ⟨fun z => absurd z (by simpa using d59_14), (List.forall_mem_cons.mpr ⟨fun z => absurd z (by simpa using d60_14), (List.forall_mem_nil _)⟩)⟩)⟩)⟩)⟩)
  have tb58 := hTB (cc58, pp58) (List.mem_cons_of_mem _ (List.mem_cons_of_mem _ (List.mem_cons_self ..)))
  have mt58 : (pp58, qLam "_law_history") ∈ T := by rw [← hTT]; exact (List.mem_cons_of_mem _ (List.mem_cons_of_mem _ (List.mem_cons_self ..)))
  have ut58 : ∀ r ∈ T, r.1 = pp58 → r.2 = qLam "_law_history" := by rw [← hTT]; exact (List.forall_mem_cons.mpr ⟨fun z => absurd z.symm (by simpa using d58_8), (List.forall_mem_cons.mpr ⟨fun z => absurd z.symm (by simpa using d58_14), (List.forall_mem_cons.mpr ⟨fun _ => rfl, (List.forall_mem_cons.mpr ⟨fun z => absurd z (by simpa using d59_58), (List.forall_mem_cons.mpr ⟨fun z => absurd z (by simpa using d60_58), (List.forall_mem_nil _)⟩)⟩)⟩)⟩)⟩)
  have tb59 := hTB (cc59, pp59) (List.mem_cons_of_mem _ (List.mem_cons_of_mem _ (List.mem_cons_of_mem _ (List.mem_cons_self ..))))
  have mt59 : (pp59, qLam "_law_back_right") ∈ T := by rw [← hTT]; exact (List.mem_cons_of_mem _ (List.mem_cons_of_mem _ (List.mem_cons_of_mem _ (List.mem_cons_self ..))))
  have ut59 : ∀ r ∈ T, r.1 = pp59 → r.2 = qLam "_law_back_right" := by rw [← hTT]; exact (List.forall_mem_cons.mpr ⟨fun z => absurd z.symm (by simpa using d59_8), (List.forall_mem_cons.mpr ⟨fun z => absurd z.symm (by simpa using d59_14), (List.forall_mem_cons.mpr ⟨fun z => absurd z.symm (by simpa using d59_58), (List.forall_mem_cons.mpr ⟨fun _ => rfl, (List.forall_mem_cons.mpr ⟨fun z => absurd z (by simpa using d60_59), (List.forall_mem_nil _)⟩)⟩)⟩)⟩)⟩)
  have tb60 := hTB (cc60, pp60) (List.mem_cons_of_mem _ (List.mem_cons_of_mem _ (List.mem_cons_of_mem _ (List.mem_cons_of_mem _ (List.mem_cons_self ..)))))
  have mt60 : (pp60, qLam "_law_right") ∈ T := by rw [← hTT]; exact (List.mem_cons_of_mem _ (List.mem_cons_of_mem _ (List.mem_cons_of_mem _ (List.mem_cons_of_mem _ (List.mem_cons_self ..)))))
  have ut60 : ∀ r ∈ T, r.1 = pp60 → r.2 = qLam "_law_right" := by rw [← hTT]; exact (List.forall_mem_cons.mpr ⟨fun z => absurd z.symm (by simpa using d60_8), (List.forall_mem_cons.mpr ⟨fun z => absurd z.symm (by simpa using d60_14), (List.forall_mem_cons.mpr ⟨fun z => absurd z.symm (by simpa using d60_58), (List.forall_mem_cons.mpr ⟨fun z => absurd z.symm (by simpa using d60_59), (List.forall_mem_cons.mpr ⟨fun _ => rfl, (List.forall_mem_nil _)⟩)⟩)⟩)⟩)⟩)
  have FINa := fun_mk (st := i_BadName) liNa ciNa kiNa
  have bINa := FINa.binds (ps := ["self", "value"]) fun _ _ _ _ _ _ us hl => match us, hl with | [_, _], _ => rfl
  have oxNa : OexC K xNa := ⟨⟨nmNa, qNa, nNa, bsNa, bmNa, snNa, subNa, abNa, colNa, ddNa, u0Na, u1Na, u2Na, u3Na, u5Na, lNa, vNa⟩, saNa, exNa, tyNa, kcNa⟩
  have TNa : Told l.prog w K mg base "BadName" xNa := ⟨gNa, _, ⟨oxNa, PySem.W.mg_of KI G aNa, iNa, tNa, bINa, noNa⟩, init_BadName FINa oxNa noNa⟩
  have eCNa : ExcC K xNa := ⟨hgNa, hkNa, exNa, hdNa, haNa, xn_, xu_, hmNa⟩
  have teNaE := PySem.W.exm_ref exE hdE tyE seNaE
  have FITa := fun_mk (st := i_TakenName) liTa ciTa kiTa
  have bITa := FITa.binds (ps := ["self", "value"]) fun _ _ _ _ _ _ us hl => match us, hl with | [_, _], _ => rfl
  have oxTa : OexC K xTa := ⟨⟨nmTa, qTa, nTa, bsTa, bmTa, snTa, subTa, abTa, colTa, ddTa, u0Ta, u1Ta, u2Ta, u3Ta, u5Ta, lTa, vTa⟩, saTa, exTa, tyTa, kcTa⟩
  have TTa : Told l.prog w K mg base "TakenName" xTa := ⟨gTa, _, ⟨oxTa, PySem.W.mg_of KI G aTa, iTa, tTa, bITa, noTa⟩, init_TakenName FITa oxTa noTa⟩
  have eCTa : ExcC K xTa := ⟨hgTa, hkTa, exTa, hdTa, haTa, xn_, xu_, hmTa⟩
  have teTaE := PySem.W.exm_ref exE hdE tyE seTaE
  have FIUn := fun_mk (st := i_UnknownName) liUn ciUn kiUn
  have bIUn := FIUn.binds (ps := ["self", "value"]) fun _ _ _ _ _ _ us hl => match us, hl with | [_, _], _ => rfl
  have oxUn : OexC K xUn := ⟨⟨nmUn, qUn, nUn, bsUn, bmUn, snUn, subUn, abUn, colUn, ddUn, u0Un, u1Un, u2Un, u3Un, u5Un, lUn, vUn⟩, saUn, exUn, tyUn, kcUn⟩
  have TUn : Told l.prog w K mg base "UnknownName" xUn := ⟨gUn, _, ⟨oxUn, PySem.W.mg_of KI G aUn, iUn, tUn, bIUn, noUn⟩, init_UnknownName FIUn oxUn noUn⟩
  have eCUn : ExcC K xUn := ⟨hgUn, hkUn, exUn, hdUn, haUn, xn_, xu_, hmUn⟩
  have teUnE := PySem.W.exm_ref exE hdE tyE seUnE
  have FIAm := fun_mk (st := i_BadAmount) liAm ciAm kiAm
  have bIAm := FIAm.binds (ps := ["self", "value"]) fun _ _ _ _ _ _ us hl => match us, hl with | [_, _], _ => rfl
  have oxAm : OexC K xAm := ⟨⟨nmAm, qAm, nAm, bsAm, bmAm, snAm, subAm, abAm, colAm, ddAm, u0Am, u1Am, u2Am, u3Am, u5Am, lAm, vAm⟩, saAm, exAm, tyAm, kcAm⟩
  have TAm : Told l.prog w K mg base "BadAmount" xAm := ⟨gAm, _, ⟨oxAm, PySem.W.mg_of KI G aAm, iAm, tAm, bIAm, noAm⟩, init_BadAmount FIAm oxAm noAm⟩
  have eCAm : ExcC K xAm := ⟨hgAm, hkAm, exAm, hdAm, haAm, xn_, xu_, hmAm⟩
  have teAmE := PySem.W.exm_ref exE hdE tyE seAmE
  have FIBu := fun_mk (st := i_BadBudget) liBu ciBu kiBu
  have bIBu := FIBu.binds (ps := ["self", "value"]) fun _ _ _ _ _ _ us hl => match us, hl with | [_, _], _ => rfl
  have oxBu : OexC K xBu := ⟨⟨nmBu, qBu, nBu, bsBu, bmBu, snBu, subBu, abBu, colBu, ddBu, u0Bu, u1Bu, u2Bu, u3Bu, u5Bu, lBu, vBu⟩, saBu, exBu, tyBu, kcBu⟩
  have TBu : Told l.prog w K mg base "BadBudget" xBu := ⟨gBu, _, ⟨oxBu, PySem.W.mg_of KI G aBu, iBu, tBu, bIBu, noBu⟩, init_BadBudget FIBu oxBu noBu⟩
  have eCBu : ExcC K xBu := ⟨hgBu, hkBu, exBu, hdBu, haBu, xn_, xu_, hmBu⟩
  have teBuE := PySem.W.exm_ref exE hdE tyE seBuE
  have FISp := fun_mk (st := i_BadSpends) liSp ciSp kiSp
  have bISp := FISp.binds (ps := ["self", "value"]) fun _ _ _ _ _ _ us hl => match us, hl with | [_, _], _ => rfl
  have oxSp : OexC K xSp := ⟨⟨nmSp, qSp, nSp, bsSp, bmSp, snSp, subSp, abSp, colSp, ddSp, u0Sp, u1Sp, u2Sp, u3Sp, u5Sp, lSp, vSp⟩, saSp, exSp, tySp, kcSp⟩
  have TSp : Told l.prog w K mg base "BadSpends" xSp := ⟨gSp, _, ⟨oxSp, PySem.W.mg_of KI G aSp, iSp, tSp, bISp, noSp⟩, init_BadSpends FISp oxSp noSp⟩
  have eCSp : ExcC K xSp := ⟨hgSp, hkSp, exSp, hdSp, haSp, xn_, xu_, hmSp⟩
  have teSpE := PySem.W.exm_ref exE hdE tyE seSpE
  have FIOv := fun_mk (st := i_OverBudget) liOv ciOv kiOv
  have bIOv := FIOv.binds (ps := ["self", "value"]) fun _ _ _ _ _ _ us hl => match us, hl with | [_, _], _ => rfl
  have oxOv : OexC K xOv := ⟨⟨nmOv, qOv, nOv, bsOv, bmOv, snOv, subOv, abOv, colOv, ddOv, u0Ov, u1Ov, u2Ov, u3Ov, u5Ov, lOv, vOv⟩, saOv, exOv, tyOv, kcOv⟩
  have TOv : Told l.prog w K mg base "OverBudget" xOv := ⟨gOv, _, ⟨oxOv, PySem.W.mg_of KI G aOv, iOv, tOv, bIOv, noOv⟩, init_OverBudget FIOv oxOv noOv⟩
  have eCOv : ExcC K xOv := ⟨hgOv, hkOv, exOv, hdOv, haOv, xn_, xu_, hmOv⟩
  have teOvE := PySem.W.exm_ref exE hdE tyE seOvE
  have FIRe := fun_mk (st := i_Refused) liRe ciRe kiRe
  have bIRe := FIRe.binds (ps := ["self", "value"]) fun _ _ _ _ _ _ us hl => match us, hl with | [_, _], _ => rfl
  have oxRe : OexC K xRe := ⟨⟨nmRe, qRe, nRe, bsRe, bmRe, snRe, subRe, abRe, colRe, ddRe, u0Re, u1Re, u2Re, u3Re, u5Re, lRe, vRe⟩, saRe, exRe, tyRe, kcRe⟩
  have TRe : Told l.prog w K mg base "Refused" xRe := ⟨gRe, _, ⟨oxRe, PySem.W.mg_of KI G aRe, iRe, tRe, bIRe, noRe⟩, init_Refused FIRe oxRe noRe⟩
  have eCRe : ExcC K xRe := ⟨hgRe, hkRe, exRe, hdRe, haRe, xn_, xu_, hmRe⟩
  have teReE := PySem.W.exm_ref exE hdE tyE seReE
  have FITx := fun_mk (st := i_BadText) liTx ciTx kiTx
  have bITx := FITx.binds (ps := ["self", "value"]) fun _ _ _ _ _ _ us hl => match us, hl with | [_, _], _ => rfl
  have oxTx : OexC K xTx := ⟨⟨nmTx, qTx, nTx, bsTx, bmTx, snTx, subTx, abTx, colTx, ddTx, u0Tx, u1Tx, u2Tx, u3Tx, u5Tx, lTx, vTx⟩, saTx, exTx, tyTx, kcTx⟩
  have TTx : Told l.prog w K mg base "BadText" xTx := ⟨gTx, _, ⟨oxTx, PySem.W.mg_of KI G aTx, iTx, tTx, bITx, noTx⟩, init_BadText FITx oxTx noTx⟩
  have eCTx : ExcC K xTx := ⟨hgTx, hkTx, exTx, hdTx, haTx, xn_, xu_, hmTx⟩
  have teTxE := PySem.W.exm_ref exE hdE tyE seTxE
  have y_Fu : ExA K mg "FullLink" xFu := ⟨xxFu, PySem.W.mg_of KI G aFu, kcFu, exFu, tyFu⟩
  have eCFu : ExcC K xFu := ⟨hgFu, hkFu, exFu, hdFu, haFu, xn_, xu_, hmFu⟩
  have teFuE := PySem.W.exm_ref exE hdE tyE seFuE
  have y_Ud : ExA K mg "NothingToUndo" xUd := ⟨xxUd, PySem.W.mg_of KI G aUd, kcUd, exUd, tyUd⟩
  have eCUd : ExcC K xUd := ⟨hgUd, hkUd, exUd, hdUd, haUd, xn_, xu_, hmUd⟩
  have teUdE := PySem.W.exm_ref exE hdE tyE seUdE
  obtain ⟨C, eC⟩ : ∃ C : Addr, C = xLink := ⟨_, rfl⟩
  obtain ⟨X, eX⟩ : ∃ X : LkX, X = ⟨xNa, xTa, xUn, xAm, xBu, xSp, xOv, xRe, xFu, xUd⟩ := ⟨_, rfl⟩
  have LC : LinkC K C := by
    subst eC
    exact ⟨⟨pgLink, hdLink, poLink, saLink⟩, nLink_budget, nLink_balances, nLink_past⟩
  subst eC
  have t_BadName : Told l.prog w K mg base "BadName" X.name := by subst eX; exact TNa
  have t_TakenName : Told l.prog w K mg base "TakenName" X.taken := by subst eX; exact TTa
  have t_UnknownName : Told l.prog w K mg base "UnknownName" X.unknown := by subst eX; exact TUn
  have t_BadAmount : Told l.prog w K mg base "BadAmount" X.amount := by subst eX; exact TAm
  have t_BadBudget : Told l.prog w K mg base "BadBudget" X.budget := by subst eX; exact TBu
  have t_BadSpends : Told l.prog w K mg base "BadSpends" X.spends := by subst eX; exact TSp
  have t_OverBudget : Told l.prog w K mg base "OverBudget" X.over := by subst eX; exact TOv
  have t_Refused : Told l.prog w K mg base "Refused" X.refused := by subst eX; exact TRe
  have x_FullLink : ExA K mg "FullLink" X.full := by subst eX; exact y_Fu
  have x_NothingToUndo : ExA K mg "NothingToUndo" X.undo := by subst eX; exact y_Ud
  have o_name : XOne K X xE .name := by subst eX; exact ⟨eCNa, teNaE, fun _ => noNa, fun y => match y with | .name => kNaNa | .taken => kTaNa | .unknown => kUnNa | .amount => kAmNa | .budget => kBuNa | .spends => kSpNa | .over => kOvNa | .refused => kReNa | .full => kFuNa | .undo => kUdNa, kVNa⟩
  have o_taken : XOne K X xE .taken := by subst eX; exact ⟨eCTa, teTaE, fun _ => noTa, fun y => match y with | .name => kNaTa | .taken => kTaTa | .unknown => kUnTa | .amount => kAmTa | .budget => kBuTa | .spends => kSpTa | .over => kOvTa | .refused => kReTa | .full => kFuTa | .undo => kUdTa, kVTa⟩
  have o_unknown : XOne K X xE .unknown := by subst eX; exact ⟨eCUn, teUnE, fun _ => noUn, fun y => match y with | .name => kNaUn | .taken => kTaUn | .unknown => kUnUn | .amount => kAmUn | .budget => kBuUn | .spends => kSpUn | .over => kOvUn | .refused => kReUn | .full => kFuUn | .undo => kUdUn, kVUn⟩
  have o_amount : XOne K X xE .amount := by subst eX; exact ⟨eCAm, teAmE, fun _ => noAm, fun y => match y with | .name => kNaAm | .taken => kTaAm | .unknown => kUnAm | .amount => kAmAm | .budget => kBuAm | .spends => kSpAm | .over => kOvAm | .refused => kReAm | .full => kFuAm | .undo => kUdAm, kVAm⟩
  have o_budget : XOne K X xE .budget := by subst eX; exact ⟨eCBu, teBuE, fun _ => noBu, fun y => match y with | .name => kNaBu | .taken => kTaBu | .unknown => kUnBu | .amount => kAmBu | .budget => kBuBu | .spends => kSpBu | .over => kOvBu | .refused => kReBu | .full => kFuBu | .undo => kUdBu, kVBu⟩
  have o_spends : XOne K X xE .spends := by subst eX; exact ⟨eCSp, teSpE, fun _ => noSp, fun y => match y with | .name => kNaSp | .taken => kTaSp | .unknown => kUnSp | .amount => kAmSp | .budget => kBuSp | .spends => kSpSp | .over => kOvSp | .refused => kReSp | .full => kFuSp | .undo => kUdSp, kVSp⟩
  have o_over : XOne K X xE .over := by subst eX; exact ⟨eCOv, teOvE, fun _ => noOv, fun y => match y with | .name => kNaOv | .taken => kTaOv | .unknown => kUnOv | .amount => kAmOv | .budget => kBuOv | .spends => kSpOv | .over => kOvOv | .refused => kReOv | .full => kFuOv | .undo => kUdOv, kVOv⟩
  have o_refused : XOne K X xE .refused := by subst eX; exact ⟨eCRe, teReE, fun _ => noRe, fun y => match y with | .name => kNaRe | .taken => kTaRe | .unknown => kUnRe | .amount => kAmRe | .budget => kBuRe | .spends => kSpRe | .over => kOvRe | .refused => kReRe | .full => kFuRe | .undo => kUdRe, kVRe⟩
  have o_full : XOne K X xE .full := by subst eX; exact ⟨eCFu, teFuE, fun z => absurd z (by decide), fun y => match y with | .name => kNaFu | .taken => kTaFu | .unknown => kUnFu | .amount => kAmFu | .budget => kBuFu | .spends => kSpFu | .over => kOvFu | .refused => kReFu | .full => kFuFu | .undo => kUdFu, kVFu⟩
  have o_undo : XOne K X xE .undo := by subst eX; exact ⟨eCUd, teUdE, fun z => absurd z (by decide), fun y => match y with | .name => kNaUd | .taken => kTaUd | .unknown => kUnUd | .amount => kAmUd | .budget => kBuUd | .spends => kSpUd | .over => kOvUd | .refused => kReUd | .full => kFuUd | .undo => kUdUd, kVUd⟩
  have UX : XAll K mg X xE := by
    refine ⟨PySem.W.mg_of KI G aE, by subst eX; exact PySem.W.mg_of KI G aNa, by subst eX; exact PySem.W.mg_of KI G aTa, by subst eX; exact PySem.W.mg_of KI G aUn, by subst eX; exact PySem.W.mg_of KI G aAm, by subst eX; exact PySem.W.mg_of KI G aBu, by subst eX; exact PySem.W.mg_of KI G aSp, by subst eX; exact PySem.W.mg_of KI G aOv, by subst eX; exact PySem.W.mg_of KI G aRe, by subst eX; exact PySem.W.mg_of KI G aFu, by subst eX; exact PySem.W.mg_of KI G aUd, fun x => ?_⟩
    · cases x
      · exact o_name
      · exact o_taken
      · exact o_unknown
      · exact o_amount
      · exact o_budget
      · exact o_spends
      · exact o_over
      · exact o_refused
      · exact o_full
      · exact o_undo
  obtain ⟨BT, eBT⟩ : ∃ BT : Addr, BT = xTx := ⟨_, rfl⟩
  have t_BadText : Told l.prog w K mg base "BadText" BT := by subst eBT; exact TTx
  have h_BadText : ToldH l.prog w K mg base "BadText" BT := by subst eBT; exact ⟨gTx, _, ⟨oxTx, PySem.W.mg_of KI G aTx, iTx, tTx, bITx, noTx⟩, inith_BadText FITx oxTx noTx⟩
  have x_Refused : mg "Refused" = some (.ref X.refused) := by subst eX; exact PySem.W.mg_of KI G aRe
  have r_Refused : PySem.W.exmOne K (.ref X.refused) (.ref X.refused) = some true := by subst eX; exact PySem.W.exm_ref exRe hdRe tyRe seRR
  have XC : XCmd K mg X xCm BT := by
    refine ⟨PySem.W.mg_of KI G aCm, by subst eBT; exact PySem.W.mg_of KI G aTx, fun x => ?_⟩
    cases x
    · subst eX eBT; exact ⟨kCmNa, kTxNa⟩
    · subst eX eBT; exact ⟨kCmTa, kTxTa⟩
    · subst eX eBT; exact ⟨kCmUn, kTxUn⟩
    · subst eX eBT; exact ⟨kCmAm, kTxAm⟩
    · subst eX eBT; exact ⟨kCmBu, kTxBu⟩
    · subst eX eBT; exact ⟨kCmSp, kTxSp⟩
    · subst eX eBT; exact ⟨kCmOv, kTxOv⟩
    · subst eX eBT; exact ⟨kCmRe, kTxRe⟩
    · subst eX eBT; exact ⟨kCmFu, kTxFu⟩
    · subst eX eBT; exact ⟨kCmUd, kTxUd⟩
  have IC : C8.InsC K C := ⟨⟨pgLink, hdLink, poLink, saLink⟩, fca, xn_, xu_, fcm, fme⟩
  have cNe : PySem.W.findIn K (.ref C) "__ne__" = some (some (.builtin "object.__ne__")) := fne
  have xC : mg "Link" = some (.ref C) := PySem.W.mg_of KI G aLink
  have C_is_integer : Cl l.prog w K mg base CX0 1 "is_integer" 1 (sp_is_integer K) := ⟨⟨_, _, _, ok_is_integer (k := 0) F0 m_isinstance m_int m_bool, PySem.W.mg_of KI G a0, k0, b0⟩⟩
  have C_is_between : Cl l.prog w K mg base CX0 2 "is_between" 3 (sp_is_between K) := ⟨⟨_, _, _, ok_is_between (k := 0) F1 C_is_integer, PySem.W.mg_of KI G a1, k1, b1⟩⟩
  have C_is_amount : Cl l.prog w K mg base CX0 3 "is_amount" 1 (sp_is_amount K) := ⟨⟨_, _, _, ok_is_amount (k := 0) F2 mg_MOST_CREDITS C_is_between, PySem.W.mg_of KI G a2, k2, b2⟩⟩
  have C_is_budget : Cl l.prog w K mg base CX0 3 "is_budget" 1 (sp_is_budget K) := ⟨⟨_, _, _, ok_is_budget (k := 0) F3 mg_MOST_BUDGET C_is_between, PySem.W.mg_of KI G a3, k3, b3⟩⟩
  have C_is_name : Cl l.prog w K mg base CX0 1 "is_name" 1 (sp_is_name K) := ⟨⟨_, _, _, ok_is_name (k := 0) F4 m_isinstance m_str m_len m_all mg_MOST_LETTERS mg_LETTERS, PySem.W.mg_of KI G a4, k4, b4⟩⟩
  have C_thresholds : Cl l.prog w K mg base CX0 1 "thresholds" 2 (sp_thresholds K) := ⟨⟨_, _, _, ok_thresholds (k := 0) F5 m_range m_tuple, PySem.W.mg_of KI G a5, k5, b5⟩⟩
  have C_sums : Cl l.prog w K mg base CX0 1 "sums" 1 (sp_sums K) := ⟨⟨_, _, _, ok_sums (k := 0) F6 m_sorted m_tuple, PySem.W.mg_of KI G a6, k6, b6⟩⟩
  have C_gap : Cl l.prog w K mg base CX0 2 "gap" 2 (sp_gap K) := ⟨⟨_, _, _, ok_gap (k := 0) F7 m_enumerate m_len C_thresholds C_sums, PySem.W.mg_of KI G a7, k7, b7⟩⟩
  have C_poorest_first : Cl l.prog w K mg base CX0 4 "poorest_first" 2 (sp_poorest_first K T) := ⟨⟨_, _, _, ok_poorest_first (k := 0) F8 q8 tb8 mt8 ut8 m_sorted, PySem.W.mg_of KI G a8, k8, b8⟩⟩
  have C_weak_set : Cl l.prog w K mg base CX0 5 "weak_set" 2 (sp_weak_set K T) := ⟨⟨_, _, _, ok_weak_set (k := 0) F9 m_list m_range m_len m_tuple m_sorted C_gap C_poorest_first, PySem.W.mg_of KI G a9, k9, b9⟩⟩
  have C_least_beside : Cl l.prog w K mg base CX0 2 "least_beside" 2 (sp_least_beside K) := ⟨⟨_, _, _, ok_least_beside (k := 0) F10 m_max m_zip m_len C_sums C_thresholds, PySem.W.mg_of KI G a10, k10, b10⟩⟩
  have C_require_amount : Cl l.prog w K mg base (L2.CX l.prog w) 4 "require_amount" 1 (sp_require_amount K X) := ⟨⟨_, _, _, ok_require_amount (k := 0) F11 t_BadAmount C_is_amount, PySem.W.mg_of KI G a11, k11, b11⟩⟩
  have C_require_budget : Cl l.prog w K mg base (L2.CX l.prog w) 4 "require_budget" 1 (sp_require_budget K X) := ⟨⟨_, _, _, ok_require_budget (k := 0) F12 t_BadBudget C_is_budget, PySem.W.mg_of KI G a12, k12, b12⟩⟩
  have C_weak_names : Cl l.prog w K mg base CX0 6 "weak_names" 2 (sp_weak_names K T) := ⟨⟨_, _, _, ok_weak_names (k := 0) F13 m_sorted m_tuple C_weak_set, PySem.W.mg_of KI G a13, k13, b13⟩⟩
  have C_poorest_name : Cl l.prog w K mg base CX0 4 "poorest_name" 1 (sp_poorest_name K T) := ⟨⟨_, _, _, ok_poorest_name (k := 0) F14 q14 tb14 mt14 ut14 m_len m_min m_sorted, PySem.W.mg_of KI G a14, k14, b14⟩⟩
  have C_is_spend : Cl l.prog w K mg base CX0 2 "is_spend" 1 (sp_is_spend K) := ⟨⟨_, _, _, ok_is_spend (k := 0) F15 m_isinstance m_tuple m_len C_is_name C_is_integer, PySem.W.mg_of KI G a15, k15, b15⟩⟩
  have C_is_spends : Cl l.prog w K mg base CX0 3 "is_spends" 1 (sp_is_spends K) := ⟨⟨_, _, _, ok_is_spends (k := 0) F16 m_isinstance m_tuple m_all m_zip C_is_spend, PySem.W.mg_of KI G a16, k16, b16⟩⟩
  have M_require_known : ClM l.prog w K mg base (L2.CX l.prog w) 3 C "require_known" (sp_Link_require_known K C X) := ⟨⟨_, _, _, ok_Link_require_known (k := 0) F17 LC t_UnknownName C_is_name, ⟨a17, j17, k17⟩, b17⟩⟩
  have M_keep : ClM l.prog w K mg base CX0 1 C "keep" (sp_Link_keep C T) := ⟨⟨_, _, _, ok_Link_keep (k := 0) F18 LC, ⟨a18, j18, k18⟩, b18⟩⟩
  have M_change : ClM l.prog w K mg base (L2.CX l.prog w) 7 C "change" (sp_Link_change K C T X) := ⟨⟨_, _, _, ok_Link_change (k := 0) F19 LC t_Refused C_weak_names M_keep, ⟨a19, j19, k19⟩, b19⟩⟩
  have N_Link : ClN l.prog w K mg base (L2.CX l.prog w) 5 "Link" C (sp_Link___init__ K C X) := ⟨PySem.W.mg_of KI G aLink, ⟨_, _, _, ok_Link___init__ (k := 0) F20 LC C_require_budget, ⟨mkLink, a20, j20, kcLink⟩, b20⟩⟩
  have M___len__ : ClM l.prog w K mg base CX0 1 C "__len__" (sp_Link___len__ C) := ⟨⟨_, _, _, ok_Link___len__ (k := 0) F21 LC m_len, ⟨a21, j21, k21⟩, b21⟩⟩
  have M_enter : ClM l.prog w K mg base (L2.CX l.prog w) 8 C "enter" (sp_op K C T X 2 (op2 enterF)) := ⟨⟨_, _, _, ok_Link_enter (k := 0) F22 LC m_len mg_MOST_SENDERS t_BadName t_TakenName x_FullLink C_is_name C_require_amount M_change, ⟨a22, j22, k22⟩, b22⟩⟩
  have M_leave : ClM l.prog w K mg base (L2.CX l.prog w) 4 C "leave" (sp_op K C T X 1 (op1 leaveF)) := ⟨⟨_, _, _, ok_Link_leave (k := 0) F23 LC M_require_known M_keep, ⟨a23, j23, k23⟩, b23⟩⟩
  have M_names : ClM l.prog w K mg base CX0 1 C "names" (sp_Link_names K C) := ⟨⟨_, _, _, ok_Link_names (k := 0) F24 LC m_tuple m_sorted, ⟨a24, j24, k24⟩, b24⟩⟩
  have M_balance_of : ClM l.prog w K mg base (L2.CX l.prog w) 4 C "balance_of" (sp_Link_balance_of K C X) := ⟨⟨_, _, _, ok_Link_balance_of (k := 0) F25 LC M_require_known, ⟨a25, j25, k25⟩, b25⟩⟩
  have M_total : ClM l.prog w K mg base CX0 1 C "total" (sp_Link_total C) := ⟨⟨_, _, _, ok_Link_total (k := 0) F26 LC m_sum, ⟨a26, j26, k26⟩, b26⟩⟩
  have M_current_budget : ClM l.prog w K mg base CX0 1 C "current_budget" (sp_Link_current_budget C) := ⟨⟨_, _, _, ok_Link_current_budget (k := 0) F27 LC, ⟨a27, j27, k27⟩, b27⟩⟩
  have M_deposit : ClM l.prog w K mg base (L2.CX l.prog w) 5 C "deposit" (sp_op K C T X 2 (op2 depositF)) := ⟨⟨_, _, _, ok_Link_deposit (k := 0) F28 LC C_require_amount M_require_known M_keep, ⟨a28, j28, k28⟩, b28⟩⟩
  have M_withdraw : ClM l.prog w K mg base (L2.CX l.prog w) 8 C "withdraw" (sp_op K C T X 2 (op2 withdrawF)) := ⟨⟨_, _, _, ok_Link_withdraw (k := 0) F29 LC C_require_amount M_require_known M_change, ⟨a29, j29, k29⟩, b29⟩⟩
  have M_transfer : ClM l.prog w K mg base (L2.CX l.prog w) 8 C "transfer" (sp_op K C T X 3 (op3 transferF)) := ⟨⟨_, _, _, ok_Link_transfer (k := 0) F30 LC m_dict C_require_amount M_require_known M_change, ⟨a30, j30, k30⟩, b30⟩⟩
  have M_set_budget : ClM l.prog w K mg base (L2.CX l.prog w) 8 C "set_budget" (sp_op K C T X 1 (op1 budgetF)) := ⟨⟨_, _, _, ok_Link_set_budget (k := 0) F31 LC C_require_budget M_change, ⟨a31, j31, k31⟩, b31⟩⟩
  have M_spare_of : ClM l.prog w K mg base (L2.CX l.prog w) 4 C "spare_of" (sp_Link_spare_of K C X) := ⟨⟨_, _, _, ok_Link_spare_of (k := 0) F32 LC C_least_beside M_require_known, ⟨a32, j32, k32⟩, b32⟩⟩
  have M_tick : ClM l.prog w K mg base (L2.CX l.prog w) 5 C "tick" (sp_op K C T X 1 (op1 tickF)) := ⟨⟨_, _, _, ok_Link_tick (k := 0) F33 LC m_sum m_dict t_BadSpends t_OverBudget C_is_spends C_poorest_name M_require_known M_keep, ⟨a33, j33, k33⟩, b33⟩⟩
  have M_undo : ClM l.prog w K mg base (L2.CX l.prog w) 1 C "undo" (sp_op K C T X 0 fun s _ => undoF s) := ⟨⟨_, _, _, ok_Link_undo (k := 0) F34 LC m_len x_NothingToUndo, ⟨a34, j34, k34⟩, b34⟩⟩
  have M_changes : ClM l.prog w K mg base CX0 1 C "changes" (sp_Link_changes C) := ⟨⟨_, _, _, ok_Link_changes (k := 0) F35 LC m_len, ⟨a35, j35, k35⟩, b35⟩⟩
  have M_clone : ClM l.prog w K mg base CX0 7 C "clone" (sp_Link_clone C) := ⟨⟨_, _, _, ok_Link_clone (k := 0) F36 LC m_dict N_Link, ⟨a36, j36, k36⟩, b36⟩⟩
  have M___eq__ : ClM l.prog w K mg base CX0 1 C "__eq__" (sp_Link___eq__ K C) := ⟨⟨_, _, _, ok_Link___eq__ (k := 0) F37 LC IC xC m_isinstance, ⟨a37, j37, k37⟩, b37⟩⟩
  have C_read_number : Cl l.prog w K mg base CX0 1 "read_number" 3 (sp_read_number K) := ⟨⟨_, _, _, ok_read_number (k := 0) F38 m_len m_all m_int mg_MOST_DIGITS mg_DIGITS, PySem.W.mg_of KI G a38, k38, b38⟩⟩
  have C_read_amount : Cl l.prog w K mg base CX0 2 "read_amount" 1 (sp_read_amount K) := ⟨⟨_, _, _, ok_read_amount (k := 0) F39 mg_MOST_CREDITS C_read_number, PySem.W.mg_of KI G a39, k39, b39⟩⟩
  have C_read_budget : Cl l.prog w K mg base CX0 2 "read_budget" 1 (sp_read_budget K) := ⟨⟨_, _, _, ok_read_budget (k := 0) F40 mg_MOST_BUDGET C_read_number, PySem.W.mg_of KI G a40, k40, b40⟩⟩
  have C_show_link : Cl l.prog w K mg base CX0 5 "show_link" 1 (sp_show_link K C) := ⟨⟨_, _, _, ok_show_link (k := 0) F41 LC M_names M_current_budget M_balance_of, PySem.W.mg_of KI G a41, k41, b41⟩⟩
  have C_read_budget_row : Cl l.prog w K mg base CX0 3 "read_budget_row" 1 (sp_read_budget_row K) := ⟨⟨_, _, _, ok_read_budget_row (k := 0) F42 m_len C_read_budget, PySem.W.mg_of KI G a42, k42, b42⟩⟩
  have C_read_sender_row : Cl l.prog w K mg base CX0 3 "read_sender_row" 1 (sp_read_sender_row K) := ⟨⟨_, _, _, ok_read_sender_row (k := 0) F43 m_len C_is_name C_read_amount, PySem.W.mg_of KI G a43, k43, b43⟩⟩
  have C_read_senders : Cl l.prog w K mg base (L2.CX l.prog w) 4 "read_senders" 1 (sp_read_senders K BT) := ⟨⟨_, _, _, ok_read_senders (k := 0) F44 m_enumerate mg_MOST_SENDERS t_BadText C_read_sender_row, PySem.W.mg_of KI G a44, k44, b44⟩⟩
  have M_change_N : ClM l.prog w K mg base (L2N.CX l.prog w) 7 C "change" (sp_change_N K C T X) := ⟨⟨_, _, _, ntw_Link_change (k := 0) F19 LC t_Refused C_weak_names M_keep, ⟨a19, j19, k19⟩, b19⟩⟩
  have M_enter_N : ClM l.prog w K mg base (L2N.CX l.prog w) 8 C "enter" (sp_enter_N K C T X) := ⟨⟨_, _, _, ntw_Link_enter (k := 0) F22 LC m_len mg_MOST_SENDERS C_is_name C_require_amount M_change_N, ⟨a22, j22, k22⟩, b22⟩⟩
  have C_read_link : Cl l.prog w K mg base (L2.CX l.prog w) 9 "read_link" 1 (sp_read_link K C T BT) := ⟨⟨_, _, _, ok_read_link (k := 0) F45 LC m_isinstance m_str m_len t_BadText h_BadText x_Refused r_Refused C_read_budget_row C_read_senders N_Link M_enter_N M_clone, PySem.W.mg_of KI G a45, k45, b45⟩⟩
  have C_l_take : Cl l.prog w K mg base CX0 1 "_law_take" 2 (sp_l_take K) := ⟨⟨_, _, _, ok__law_take (k := 0) F46 , PySem.W.mg_of KI G a46, k46, b46⟩⟩
  have C_l_of : Cl l.prog w K mg base CX0 2 "_law_of" 2 (sp_l_of K) := ⟨⟨_, _, _, ok__law_of (k := 0) F47 m_len C_l_take, PySem.W.mg_of KI G a47, k47, b47⟩⟩
  have C_l_hand : Cl l.prog w K mg base CX0 1 "_law_hand" 2 (sp_l_hand K) := ⟨⟨_, _, _, ok__law_hand (k := 0) F48 m_len m_abs m_int, PySem.W.mg_of KI G a48, k48, b48⟩⟩
  have C_l_name : Cl l.prog w K mg base CX0 3 "_law_name" 1 (sp_l_name K) := ⟨⟨_, _, _, ok__law_name (k := 0) F49 C_l_of, PySem.W.mg_of KI G a49, k49, b49⟩⟩
  have C_l_amount : Cl l.prog w K mg base CX0 3 "_law_amount" 1 (sp_l_amount K) := ⟨⟨_, _, _, ok__law_amount (k := 0) F50 C_l_take C_l_of, PySem.W.mg_of KI G a50, k50, b50⟩⟩
  have C_l_spends : Cl l.prog w K mg base CX0 3 "_law_spends" 2 (sp_l_spends K) := ⟨⟨_, _, _, ok__law_spends (k := 0) F51 m_max m_tuple C_l_take C_l_of, PySem.W.mg_of KI G a51, k51, b51⟩⟩
  have C_l_wish : Cl l.prog w K mg base CX0 4 "_law_wish" 2 (sp_l_wish K C) := ⟨⟨_, _, _, ok__law_wish (k := 0) F52 LC m_tuple C_l_take C_l_of C_l_name C_l_amount C_l_spends M_names M_current_budget, PySem.W.mg_of KI G a52, k52, b52⟩⟩
  have C_l_link_text : Cl l.prog w K mg base CX0 5 "_law_link_text" 1 (sp_l_link_text K C) := ⟨⟨_, _, _, ok__law_link_text (k := 0) F53 LC m_str m_sorted M_names M_current_budget M_balance_of, PySem.W.mg_of KI G a53, k53, b53⟩⟩
  have C_l_asked : Cl l.prog w K mg base (L2.CX l.prog w) 9 "_law_asked" 3 (sp_l_asked K C T X) := ⟨⟨_, _, _, ok__law_asked (k := 0) F54 LC m_str M_leave M_tick M_balance_of M_spare_of M_total C_l_link_text, PySem.W.mg_of KI G a54, k54, b54⟩⟩
  have C_l_done : Cl l.prog w K mg base (L2.CX l.prog w) 10 "_law_done" 2 (sp_l_done K C T X) := ⟨⟨_, _, _, ok__law_done (k := 0) F55 LC M_enter M_deposit M_withdraw M_transfer M_set_budget M_undo C_l_asked, PySem.W.mg_of KI G a55, k55, b55⟩⟩
  have C_l_error : Cl l.prog w K mg base CX0 1 "_law_error" 1 (sp_l_err K X) := ⟨⟨_, _, _, ok__law_error (k := 0) F56 m_isinstance m_ValueError UX XC, PySem.W.mg_of KI G a56, k56, b56⟩⟩
  have X_l_met : ClH l.prog w K mg base 12 "_law_met" (TTmet K X) := ⟨⟨_, _, _, _, _, F57, PySem.W.mg_of KI G a57, b57, sc__law_met, rfl, .inl rfl, by decide, by decide, hands__law_met UX C_l_error⟩⟩
  have X_l_done := C_l_done
  have C_l_history : Cl l.prog w K mg base CX0 14 "_law_history" 3 (sp_l_history C T) := ⟨⟨_, _, _, ok__law_history (k := 0) F58 q58 tb58 mt58 ut58 m_range N_Link C_l_wish X_l_met X_l_done, PySem.W.mg_of KI G a58, k58, b58⟩⟩
  have C_l_back_right : Cl l.prog w K mg base CX0 14 "_law_back_right" 3 (sp_l_back C T) := ⟨⟨_, _, _, ok__law_back_right (k := 0) F59 LC q59 tb59 mt59 ut59 M_undo M_changes M_names M_total C_show_link X_l_met, PySem.W.mg_of KI G a59, k59, b59⟩⟩
  have C_l_right : Cl l.prog w K mg base CX0 15 "_law_right" 1 (sp_l_right T) := ⟨⟨_, _, _, ok__law_right (k := 0) F60 LC IC cNe q60 tb60 mt60 ut60 m_repr m_range C_l_take C_l_history C_l_wish X_l_met X_l_done C_show_link C_read_link M_changes M___eq__ C_l_back_right, PySem.W.mg_of KI G a60, k60, b60⟩⟩
  exact ok_law (k := 0) F61 m_range m_all m_max m_min m_len C_l_hand C_l_right
end Cf
open PySem PySem.W PyProof.Rows
set_option maxHeartbeats 0 in
theorem PySem.Challenge.cw_creditfloor_k66_whole_links_that_were_re_holds : PySem.Challenge.rw_creditfloor_k66_whole_links_that_were_re.Holds := by
  w_on; o_law; k_head; (case hw => w_witness2)
  k_fill
  refine Cf.walkL (l := PySem.Challenge.rw_creditfloor_k66_whole_links_that_were_re) (n := 63) (k := 16) (x := "_law_script") rfl (by decide) rfl ⟨rfl, by decide, by decide⟩ (fun w h Y => PySem.W.km_in_of Y) ?F
  case F =>
    intro w mg fa h Y LL KX G hmg
    refine' Cf.all_mk KX G hmg ?aLink ?pgLink ?hdLink ?poLink ?saLink ?mkLink ?kcLink ?nLink_budget ?nLink_balances ?nLink_past ?a0 ?l0 ?c0 ?k0 ?a1 ?l1 ?c1 ?k1 ?a2 ?l2 ?c2 ?k2 ?a3 ?l3 ?c3 ?k3 ?a4 ?l4 ?c4 ?k4 ?a5 ?l5 ?c5 ?k5 ?a6 ?l6 ?c6 ?k6 ?a7 ?l7 ?c7 ?k7 ?a8 ?l8 ?c8 ?k8 ?q8 ?t8 ?p8 ?h8 ?n8 ?y8 ?a9 ?l9 ?c9 ?k9 ?a10 ?l10 ?c10 ?k10 ?a11 ?l11 ?c11 ?k11 ?a12 ?l12 ?c12 ?k12 ?a13 ?l13 ?c13 ?k13 ?a14 ?l14 ?c14 ?k14 ?q14 ?t14 ?p14 ?h14 ?n14 ?y14 ?a15 ?l15 ?c15 ?k15 ?a16 ?l16 ?c16 ?k16 ?a17 ?j17 ?l17 ?c17 ?k17 ?a18 ?j18 ?l18 ?c18 ?k18 ?a19 ?j19 ?l19 ?c19 ?k19 ?a20 ?j20 ?l20 ?c20 ?k20 ?a21 ?j21 ?l21 ?c21 ?k21 ?a22 ?j22 ?l22 ?c22 ?k22 ?a23 ?j23 ?l23 ?c23 ?k23 ?a24 ?j24 ?l24 ?c24 ?k24 ?a25 ?j25 ?l25 ?c25 ?k25 ?a26 ?j26 ?l26 ?c26 ?k26 ?a27 ?j27 ?l27 ?c27 ?k27 ?a28 ?j28 ?l28 ?c28 ?k28 ?a29 ?j29 ?l29 ?c29 ?k29 ?a30 ?j30 ?l30 ?c30 ?k30 ?a31 ?j31 ?l31 ?c31 ?k31 ?a32 ?j32 ?l32 ?c32 ?k32 ?a33 ?j33 ?l33 ?c33 ?k33 ?a34 ?j34 ?l34 ?c34 ?k34 ?a35 ?j35 ?l35 ?c35 ?k35 ?a36 ?j36 ?l36 ?c36 ?k36 ?a37 ?j37 ?l37 ?c37 ?k37 ?a38 ?l38 ?c38 ?k38 ?a39 ?l39 ?c39 ?k39 ?a40 ?l40 ?c40 ?k40 ?a41 ?l41 ?c41 ?k41 ?a42 ?l42 ?c42 ?k42 ?a43 ?l43 ?c43 ?k43 ?a44 ?l44 ?c44 ?k44 ?a45 ?l45 ?c45 ?k45 ?a46 ?l46 ?c46 ?k46 ?a47 ?l47 ?c47 ?k47 ?a48 ?l48 ?c48 ?k48 ?a49 ?l49 ?c49 ?k49 ?a50 ?l50 ?c50 ?k50 ?a51 ?l51 ?c51 ?k51 ?a52 ?l52 ?c52 ?k52 ?a53 ?l53 ?c53 ?k53 ?a54 ?l54 ?c54 ?k54 ?a55 ?l55 ?c55 ?k55 ?a56 ?l56 ?c56 ?k56 ?a57 ?l57 ?c57 ?k57 ?a58 ?l58 ?c58 ?k58 ?q58 ?t58 ?p58 ?h58 ?n58 ?y58 ?a59 ?l59 ?c59 ?k59 ?q59 ?t59 ?p59 ?h59 ?n59 ?y59 ?a60 ?l60 ?c60 ?k60 ?q60 ?t60 ?p60 ?h60 ?n60 ?y60 ?a61 ?l61 ?c61 ?k61 ?d14_8 ?d58_8 ?d58_14 ?d59_8 ?d59_14 ?d59_58 ?d60_8 ?d60_14 ?d60_58 ?d60_59 ?z_isinstance ?z_int ?z_bool ?z_str ?z_len ?z_all ?z_range ?z_tuple ?z_sorted ?z_enumerate ?z_list ?z_max ?z_zip ?z_min ?z_sum ?z_dict ?z_abs ?z_ValueError ?z_repr ?o_MOST_CREDITS ?o_MOST_BUDGET ?g_MOST_LETTERS ?g_LETTERS ?g_MOST_SENDERS ?g_MOST_DIGITS ?g_DIGITS ?aE ?aCm ?aNa ?aTa ?aUn ?aAm ?aBu ?aSp ?aOv ?aRe ?aTx ?exE ?hdE ?tyE ?xn_ ?xu_ ?lNa ?vNa ?saNa ?exNa ?tyNa ?kcNa ?iNa ?tNa ?noNa ?liNa ?ciNa ?kiNa ?hgNa ?hkNa ?hdNa ?haNa ?hmNa ?seNaE ?kNaNa ?kTaNa ?kUnNa ?kAmNa ?kBuNa ?kSpNa ?kOvNa ?kReNa ?kFuNa ?kUdNa ?kVNa ?kCmNa ?kTxNa ?lTa ?vTa ?saTa ?exTa ?tyTa ?kcTa ?iTa ?tTa ?noTa ?liTa ?ciTa ?kiTa ?hgTa ?hkTa ?hdTa ?haTa ?hmTa ?seTaE ?kNaTa ?kTaTa ?kUnTa ?kAmTa ?kBuTa ?kSpTa ?kOvTa ?kReTa ?kFuTa ?kUdTa ?kVTa ?kCmTa ?kTxTa ?lUn ?vUn ?saUn ?exUn ?tyUn ?kcUn ?iUn ?tUn ?noUn ?liUn ?ciUn ?kiUn ?hgUn ?hkUn ?hdUn ?haUn ?hmUn ?seUnE ?kNaUn ?kTaUn ?kUnUn ?kAmUn ?kBuUn ?kSpUn ?kOvUn ?kReUn ?kFuUn ?kUdUn ?kVUn ?kCmUn ?kTxUn ?lAm ?vAm ?saAm ?exAm ?tyAm ?kcAm ?iAm ?tAm ?noAm ?liAm ?ciAm ?kiAm ?hgAm ?hkAm ?hdAm ?haAm ?hmAm ?seAmE ?kNaAm ?kTaAm ?kUnAm ?kAmAm ?kBuAm ?kSpAm ?kOvAm ?kReAm ?kFuAm ?kUdAm ?kVAm ?kCmAm ?kTxAm ?lBu ?vBu ?saBu ?exBu ?tyBu ?kcBu ?iBu ?tBu ?noBu ?liBu ?ciBu ?kiBu ?hgBu ?hkBu ?hdBu ?haBu ?hmBu ?seBuE ?kNaBu ?kTaBu ?kUnBu ?kAmBu ?kBuBu ?kSpBu ?kOvBu ?kReBu ?kFuBu ?kUdBu ?kVBu ?kCmBu ?kTxBu ?lSp ?vSp ?saSp ?exSp ?tySp ?kcSp ?iSp ?tSp ?noSp ?liSp ?ciSp ?kiSp ?hgSp ?hkSp ?hdSp ?haSp ?hmSp ?seSpE ?kNaSp ?kTaSp ?kUnSp ?kAmSp ?kBuSp ?kSpSp ?kOvSp ?kReSp ?kFuSp ?kUdSp ?kVSp ?kCmSp ?kTxSp ?lOv ?vOv ?saOv ?exOv ?tyOv ?kcOv ?iOv ?tOv ?noOv ?liOv ?ciOv ?kiOv ?hgOv ?hkOv ?hdOv ?haOv ?hmOv ?seOvE ?kNaOv ?kTaOv ?kUnOv ?kAmOv ?kBuOv ?kSpOv ?kOvOv ?kReOv ?kFuOv ?kUdOv ?kVOv ?kCmOv ?kTxOv ?lRe ?vRe ?saRe ?exRe ?tyRe ?kcRe ?iRe ?tRe ?noRe ?liRe ?ciRe ?kiRe ?hgRe ?hkRe ?hdRe ?haRe ?hmRe ?seReE ?kNaRe ?kTaRe ?kUnRe ?kAmRe ?kBuRe ?kSpRe ?kOvRe ?kReRe ?kFuRe ?kUdRe ?kVRe ?kCmRe ?kTxRe ?lTx ?vTx ?saTx ?exTx ?tyTx ?kcTx ?iTx ?tTx ?noTx ?liTx ?ciTx ?kiTx ?hgTx ?hkTx ?hdTx ?haTx ?hmTx ?seTxE ?aFu ?xxFu ?kcFu ?exFu ?tyFu ?hgFu ?hkFu ?hdFu ?haFu ?hmFu ?seFuE ?kNaFu ?kTaFu ?kUnFu ?kAmFu ?kBuFu ?kSpFu ?kOvFu ?kReFu ?kFuFu ?kUdFu ?kVFu ?kCmFu ?kTxFu ?aUd ?xxUd ?kcUd ?exUd ?tyUd ?hgUd ?hkUd ?hdUd ?haUd ?hmUd ?seUdE ?kNaUd ?kTaUd ?kUnUd ?kAmUd ?kBuUd ?kSpUd ?kOvUd ?kReUd ?kFuUd ?kUdUd ?kVUd ?kCmUd ?kTxUd ?seRR ?fca ?fcm ?fme ?fne
    (case aLink => k_is); (case pgLink => k_is); (case hdLink => k_is); (case poLink => k_is); (case saLink => k_is); (case mkLink => k_is); (case kcLink => k_is); (case nLink_budget => k_is); (case nLink_balances => k_is); (case nLink_past => k_is); (case a0 => k_is); (case l0 => k_is); (case c0 => k_is); (case k0 => k_is); (case a1 => k_is); (case l1 => k_is); (case c1 => k_is); (case k1 => k_is); (case a2 => k_is); (case l2 => k_is); (case c2 => k_is); (case k2 => k_is); (case a3 => k_is); (case l3 => k_is); (case c3 => k_is); (case k3 => k_is); (case a4 => k_is); (case l4 => k_is); (case c4 => k_is); (case k4 => k_is); (case a5 => k_is); (case l5 => k_is); (case c5 => k_is); (case k5 => k_is); (case a6 => k_is); (case l6 => k_is); (case c6 => k_is); (case k6 => k_is); (case a7 => k_is); (case l7 => k_is); (case c7 => k_is); (case k7 => k_is); (case a8 => k_is); (case l8 => k_is); (case c8 => k_is); (case k8 => k_is); (case q8 => rfl); (case t8 => k_is); (case p8 => rfl); (case h8 => kernel_rfl); (case n8 => kernel_rfl); (case y8 => exact PySem.W.km_tabs_of Y _ (by k_mem)); (case a9 => k_is); (case l9 => k_is); (case c9 => k_is); (case k9 => k_is); (case a10 => k_is); (case l10 => k_is); (case c10 => k_is); (case k10 => k_is); (case a11 => k_is); (case l11 => k_is); (case c11 => k_is); (case k11 => k_is); (case a12 => k_is); (case l12 => k_is); (case c12 => k_is); (case k12 => k_is); (case a13 => k_is); (case l13 => k_is); (case c13 => k_is); (case k13 => k_is); (case a14 => k_is); (case l14 => k_is); (case c14 => k_is); (case k14 => k_is); (case q14 => rfl); (case t14 => k_is); (case p14 => rfl); (case h14 => kernel_rfl); (case n14 => kernel_rfl); (case y14 => exact PySem.W.km_tabs_of Y _ (by k_mem)); (case a15 => k_is); (case l15 => k_is); (case c15 => k_is); (case k15 => k_is); (case a16 => k_is); (case l16 => k_is); (case c16 => k_is); (case k16 => k_is); (case a17 => k_is); (case j17 => k_is); (case l17 => k_is); (case c17 => k_is); (case k17 => k_is); (case a18 => k_is); (case j18 => k_is); (case l18 => k_is); (case c18 => k_is); (case k18 => k_is); (case a19 => k_is); (case j19 => k_is); (case l19 => k_is); (case c19 => k_is); (case k19 => k_is); (case a20 => k_is); (case j20 => k_is); (case l20 => k_is); (case c20 => k_is); (case k20 => k_is); (case a21 => k_is); (case j21 => k_is); (case l21 => k_is); (case c21 => k_is); (case k21 => k_is); (case a22 => k_is); (case j22 => k_is); (case l22 => k_is); (case c22 => k_is); (case k22 => k_is); (case a23 => k_is); (case j23 => k_is); (case l23 => k_is); (case c23 => k_is); (case k23 => k_is); (case a24 => k_is); (case j24 => k_is); (case l24 => k_is); (case c24 => k_is); (case k24 => k_is); (case a25 => k_is); (case j25 => k_is); (case l25 => k_is); (case c25 => k_is); (case k25 => k_is); (case a26 => k_is); (case j26 => k_is); (case l26 => k_is); (case c26 => k_is); (case k26 => k_is); (case a27 => k_is); (case j27 => k_is); (case l27 => k_is); (case c27 => k_is); (case k27 => k_is); (case a28 => k_is); (case j28 => k_is); (case l28 => k_is); (case c28 => k_is); (case k28 => k_is); (case a29 => k_is); (case j29 => k_is); (case l29 => k_is); (case c29 => k_is); (case k29 => k_is); (case a30 => k_is); (case j30 => k_is); (case l30 => k_is); (case c30 => k_is); (case k30 => k_is); (case a31 => k_is); (case j31 => k_is); (case l31 => k_is); (case c31 => k_is); (case k31 => k_is); (case a32 => k_is); (case j32 => k_is); (case l32 => k_is); (case c32 => k_is); (case k32 => k_is); (case a33 => k_is); (case j33 => k_is); (case l33 => k_is); (case c33 => k_is); (case k33 => k_is); (case a34 => k_is); (case j34 => k_is); (case l34 => k_is); (case c34 => k_is); (case k34 => k_is); (case a35 => k_is); (case j35 => k_is); (case l35 => k_is); (case c35 => k_is); (case k35 => k_is); (case a36 => k_is); (case j36 => k_is); (case l36 => k_is); (case c36 => k_is); (case k36 => k_is); (case a37 => k_is); (case j37 => k_is); (case l37 => k_is); (case c37 => k_is); (case k37 => k_is); (case a38 => k_is); (case l38 => k_is); (case c38 => k_is); (case k38 => k_is); (case a39 => k_is); (case l39 => k_is); (case c39 => k_is); (case k39 => k_is); (case a40 => k_is); (case l40 => k_is); (case c40 => k_is); (case k40 => k_is); (case a41 => k_is); (case l41 => k_is); (case c41 => k_is); (case k41 => k_is); (case a42 => k_is); (case l42 => k_is); (case c42 => k_is); (case k42 => k_is); (case a43 => k_is); (case l43 => k_is); (case c43 => k_is); (case k43 => k_is); (case a44 => k_is); (case l44 => k_is); (case c44 => k_is); (case k44 => k_is); (case a45 => k_is); (case l45 => k_is); (case c45 => k_is); (case k45 => k_is); (case a46 => k_is); (case l46 => k_is); (case c46 => k_is); (case k46 => k_is); (case a47 => k_is); (case l47 => k_is); (case c47 => k_is); (case k47 => k_is); (case a48 => k_is); (case l48 => k_is); (case c48 => k_is); (case k48 => k_is); (case a49 => k_is); (case l49 => k_is); (case c49 => k_is); (case k49 => k_is); (case a50 => k_is); (case l50 => k_is); (case c50 => k_is); (case k50 => k_is); (case a51 => k_is); (case l51 => k_is); (case c51 => k_is); (case k51 => k_is); (case a52 => k_is); (case l52 => k_is); (case c52 => k_is); (case k52 => k_is); (case a53 => k_is); (case l53 => k_is); (case c53 => k_is); (case k53 => k_is); (case a54 => k_is); (case l54 => k_is); (case c54 => k_is); (case k54 => k_is); (case a55 => k_is); (case l55 => k_is); (case c55 => k_is); (case k55 => k_is); (case a56 => k_is); (case l56 => k_is); (case c56 => k_is); (case k56 => k_is); (case a57 => k_is); (case l57 => k_is); (case c57 => k_is); (case k57 => k_is); (case a58 => k_is); (case l58 => k_is); (case c58 => k_is); (case k58 => k_is); (case q58 => rfl); (case t58 => k_is); (case p58 => rfl); (case h58 => kernel_rfl); (case n58 => kernel_rfl); (case y58 => exact PySem.W.km_tabs_of Y _ (by k_mem)); (case a59 => k_is); (case l59 => k_is); (case c59 => k_is); (case k59 => k_is); (case q59 => rfl); (case t59 => k_is); (case p59 => rfl); (case h59 => kernel_rfl); (case n59 => kernel_rfl); (case y59 => exact PySem.W.km_tabs_of Y _ (by k_mem)); (case a60 => k_is); (case l60 => k_is); (case c60 => k_is); (case k60 => k_is); (case q60 => rfl); (case t60 => k_is); (case p60 => rfl); (case h60 => kernel_rfl); (case n60 => kernel_rfl); (case y60 => exact PySem.W.km_tabs_of Y _ (by k_mem)); (case a61 => k_is); (case l61 => k_is); (case c61 => k_is); (case k61 => k_is); (case d14_8 => decide); (case d58_8 => decide); (case d58_14 => decide); (case d59_8 => decide); (case d59_14 => decide); (case d59_58 => decide); (case d60_8 => decide); (case d60_14 => decide); (case d60_58 => decide); (case d60_59 => decide); (case z_isinstance => k_is); (case z_int => k_is); (case z_bool => k_is); (case z_str => k_is); (case z_len => k_is); (case z_all => k_is); (case z_range => k_is); (case z_tuple => k_is); (case z_sorted => k_is); (case z_enumerate => k_is); (case z_list => k_is); (case z_max => k_is); (case z_zip => k_is); (case z_min => k_is); (case z_sum => k_is); (case z_dict => k_is); (case z_abs => k_is); (case z_ValueError => k_is); (case z_repr => k_is); (case o_MOST_CREDITS => exact Cf.loose_int LL (by k_mem)); (case o_MOST_BUDGET => exact Cf.loose_int LL (by k_mem)); (case g_MOST_LETTERS => k_is); (case g_LETTERS => k_is); (case g_MOST_SENDERS => k_is); (case g_MOST_DIGITS => k_is); (case g_DIGITS => k_is); (case aE => k_is); (case aCm => k_is); (case aNa => k_is); (case aTa => k_is); (case aUn => k_is); (case aAm => k_is); (case aBu => k_is); (case aSp => k_is); (case aOv => k_is); (case aRe => k_is); (case aTx => k_is); (case exE => k_is); (case hdE => k_is); (case tyE => k_is); (case xn_ => k_is); (case xu_ => k_is); (case lNa => k_is); (case vNa => first | rfl | decide +kernel); (case saNa => k_is); (case exNa => k_is); (case tyNa => k_is); (case kcNa => k_is); (case iNa => k_is); (case tNa => k_is); (case noNa => k_is); (case liNa => k_is); (case ciNa => k_is); (case kiNa => k_is); (case hgNa => k_is); (case hkNa => k_is); (case hdNa => k_is); (case haNa => k_is); (case hmNa => k_is); (case seNaE => first | rfl | k_is); (case kNaNa => first | k_is | kernel_rfl | rfl); (case kTaNa => first | k_is | kernel_rfl | rfl); (case kUnNa => first | k_is | kernel_rfl | rfl); (case kAmNa => first | k_is | kernel_rfl | rfl); (case kBuNa => first | k_is | kernel_rfl | rfl); (case kSpNa => first | k_is | kernel_rfl | rfl); (case kOvNa => first | k_is | kernel_rfl | rfl); (case kReNa => first | k_is | kernel_rfl | rfl); (case kFuNa => first | k_is | kernel_rfl | rfl); (case kUdNa => first | k_is | kernel_rfl | rfl); (case kVNa => first | k_is | kernel_rfl | rfl); (case kCmNa => first | k_is | kernel_rfl | rfl); (case kTxNa => first | k_is | kernel_rfl | rfl); (case lTa => k_is); (case vTa => first | rfl | decide +kernel); (case saTa => k_is); (case exTa => k_is); (case tyTa => k_is); (case kcTa => k_is); (case iTa => k_is); (case tTa => k_is); (case noTa => k_is); (case liTa => k_is); (case ciTa => k_is); (case kiTa => k_is); (case hgTa => k_is); (case hkTa => k_is); (case hdTa => k_is); (case haTa => k_is); (case hmTa => k_is); (case seTaE => first | rfl | k_is); (case kNaTa => first | k_is | kernel_rfl | rfl); (case kTaTa => first | k_is | kernel_rfl | rfl); (case kUnTa => first | k_is | kernel_rfl | rfl); (case kAmTa => first | k_is | kernel_rfl | rfl); (case kBuTa => first | k_is | kernel_rfl | rfl); (case kSpTa => first | k_is | kernel_rfl | rfl); (case kOvTa => first | k_is | kernel_rfl | rfl); (case kReTa => first | k_is | kernel_rfl | rfl); (case kFuTa => first | k_is | kernel_rfl | rfl); (case kUdTa => first | k_is | kernel_rfl | rfl); (case kVTa => first | k_is | kernel_rfl | rfl); (case kCmTa => first | k_is | kernel_rfl | rfl); (case kTxTa => first | k_is | kernel_rfl | rfl); (case lUn => k_is); (case vUn => first | rfl | decide +kernel); (case saUn => k_is); (case exUn => k_is); (case tyUn => k_is); (case kcUn => k_is); (case iUn => k_is); (case tUn => k_is); (case noUn => k_is); (case liUn => k_is); (case ciUn => k_is); (case kiUn => k_is); (case hgUn => k_is); (case hkUn => k_is); (case hdUn => k_is); (case haUn => k_is); (case hmUn => k_is); (case seUnE => first | rfl | k_is); (case kNaUn => first | k_is | kernel_rfl | rfl); (case kTaUn => first | k_is | kernel_rfl | rfl); (case kUnUn => first | k_is | kernel_rfl | rfl); (case kAmUn => first | k_is | kernel_rfl | rfl); (case kBuUn => first | k_is | kernel_rfl | rfl); (case kSpUn => first | k_is | kernel_rfl | rfl); (case kOvUn => first | k_is | kernel_rfl | rfl); (case kReUn => first | k_is | kernel_rfl | rfl); (case kFuUn => first | k_is | kernel_rfl | rfl); (case kUdUn => first | k_is | kernel_rfl | rfl); (case kVUn => first | k_is | kernel_rfl | rfl); (case kCmUn => first | k_is | kernel_rfl | rfl); (case kTxUn => first | k_is | kernel_rfl | rfl); (case lAm => k_is); (case vAm => first | rfl | decide +kernel); (case saAm => k_is); (case exAm => k_is); (case tyAm => k_is); (case kcAm => k_is); (case iAm => k_is); (case tAm => k_is); (case noAm => k_is); (case liAm => k_is); (case ciAm => k_is); (case kiAm => k_is); (case hgAm => k_is); (case hkAm => k_is); (case hdAm => k_is); (case haAm => k_is); (case hmAm => k_is); (case seAmE => first | rfl | k_is); (case kNaAm => first | k_is | kernel_rfl | rfl); (case kTaAm => first | k_is | kernel_rfl | rfl); (case kUnAm => first | k_is | kernel_rfl | rfl); (case kAmAm => first | k_is | kernel_rfl | rfl); (case kBuAm => first | k_is | kernel_rfl | rfl); (case kSpAm => first | k_is | kernel_rfl | rfl); (case kOvAm => first | k_is | kernel_rfl | rfl); (case kReAm => first | k_is | kernel_rfl | rfl); (case kFuAm => first | k_is | kernel_rfl | rfl); (case kUdAm => first | k_is | kernel_rfl | rfl); (case kVAm => first | k_is | kernel_rfl | rfl); (case kCmAm => first | k_is | kernel_rfl | rfl); (case kTxAm => first | k_is | kernel_rfl | rfl); (case lBu => k_is); (case vBu => first | rfl | decide +kernel); (case saBu => k_is); (case exBu => k_is); (case tyBu => k_is); (case kcBu => k_is); (case iBu => k_is); (case tBu => k_is); (case noBu => k_is); (case liBu => k_is); (case ciBu => k_is); (case kiBu => k_is); (case hgBu => k_is); (case hkBu => k_is); (case hdBu => k_is); (case haBu => k_is); (case hmBu => k_is); (case seBuE => first | rfl | k_is); (case kNaBu => first | k_is | kernel_rfl | rfl); (case kTaBu => first | k_is | kernel_rfl | rfl); (case kUnBu => first | k_is | kernel_rfl | rfl); (case kAmBu => first | k_is | kernel_rfl | rfl); (case kBuBu => first | k_is | kernel_rfl | rfl); (case kSpBu => first | k_is | kernel_rfl | rfl); (case kOvBu => first | k_is | kernel_rfl | rfl); (case kReBu => first | k_is | kernel_rfl | rfl); (case kFuBu => first | k_is | kernel_rfl | rfl); (case kUdBu => first | k_is | kernel_rfl | rfl); (case kVBu => first | k_is | kernel_rfl | rfl); (case kCmBu => first | k_is | kernel_rfl | rfl); (case kTxBu => first | k_is | kernel_rfl | rfl); (case lSp => k_is); (case vSp => first | rfl | decide +kernel); (case saSp => k_is); (case exSp => k_is); (case tySp => k_is); (case kcSp => k_is); (case iSp => k_is); (case tSp => k_is); (case noSp => k_is); (case liSp => k_is); (case ciSp => k_is); (case kiSp => k_is); (case hgSp => k_is); (case hkSp => k_is); (case hdSp => k_is); (case haSp => k_is); (case hmSp => k_is); (case seSpE => first | rfl | k_is); (case kNaSp => first | k_is | kernel_rfl | rfl); (case kTaSp => first | k_is | kernel_rfl | rfl); (case kUnSp => first | k_is | kernel_rfl | rfl); (case kAmSp => first | k_is | kernel_rfl | rfl); (case kBuSp => first | k_is | kernel_rfl | rfl); (case kSpSp => first | k_is | kernel_rfl | rfl); (case kOvSp => first | k_is | kernel_rfl | rfl); (case kReSp => first | k_is | kernel_rfl | rfl); (case kFuSp => first | k_is | kernel_rfl | rfl); (case kUdSp => first | k_is | kernel_rfl | rfl); (case kVSp => first | k_is | kernel_rfl | rfl); (case kCmSp => first | k_is | kernel_rfl | rfl); (case kTxSp => first | k_is | kernel_rfl | rfl); (case lOv => k_is); (case vOv => first | rfl | decide +kernel); (case saOv => k_is); (case exOv => k_is); (case tyOv => k_is); (case kcOv => k_is); (case iOv => k_is); (case tOv => k_is); (case noOv => k_is); (case liOv => k_is); (case ciOv => k_is); (case kiOv => k_is); (case hgOv => k_is); (case hkOv => k_is); (case hdOv => k_is); (case haOv => k_is); (case hmOv => k_is); (case seOvE => first | rfl | k_is); (case kNaOv => first | k_is | kernel_rfl | rfl); (case kTaOv => first | k_is | kernel_rfl | rfl); (case kUnOv => first | k_is | kernel_rfl | rfl); (case kAmOv => first | k_is | kernel_rfl | rfl); (case kBuOv => first | k_is | kernel_rfl | rfl); (case kSpOv => first | k_is | kernel_rfl | rfl); (case kOvOv => first | k_is | kernel_rfl | rfl); (case kReOv => first | k_is | kernel_rfl | rfl); (case kFuOv => first | k_is | kernel_rfl | rfl); (case kUdOv => first | k_is | kernel_rfl | rfl); (case kVOv => first | k_is | kernel_rfl | rfl); (case kCmOv => first | k_is | kernel_rfl | rfl); (case kTxOv => first | k_is | kernel_rfl | rfl); (case lRe => k_is); (case vRe => first | rfl | decide +kernel); (case saRe => k_is); (case exRe => k_is); (case tyRe => k_is); (case kcRe => k_is); (case iRe => k_is); (case tRe => k_is); (case noRe => k_is); (case liRe => k_is); (case ciRe => k_is); (case kiRe => k_is); (case hgRe => k_is); (case hkRe => k_is); (case hdRe => k_is); (case haRe => k_is); (case hmRe => k_is); (case seReE => first | rfl | k_is); (case kNaRe => first | k_is | kernel_rfl | rfl); (case kTaRe => first | k_is | kernel_rfl | rfl); (case kUnRe => first | k_is | kernel_rfl | rfl); (case kAmRe => first | k_is | kernel_rfl | rfl); (case kBuRe => first | k_is | kernel_rfl | rfl); (case kSpRe => first | k_is | kernel_rfl | rfl); (case kOvRe => first | k_is | kernel_rfl | rfl); (case kReRe => first | k_is | kernel_rfl | rfl); (case kFuRe => first | k_is | kernel_rfl | rfl); (case kUdRe => first | k_is | kernel_rfl | rfl); (case kVRe => first | k_is | kernel_rfl | rfl); (case kCmRe => first | k_is | kernel_rfl | rfl); (case kTxRe => first | k_is | kernel_rfl | rfl); (case lTx => k_is); (case vTx => first | rfl | decide +kernel); (case saTx => k_is); (case exTx => k_is); (case tyTx => k_is); (case kcTx => k_is); (case iTx => k_is); (case tTx => k_is); (case noTx => k_is); (case liTx => k_is); (case ciTx => k_is); (case kiTx => k_is); (case hgTx => k_is); (case hkTx => k_is); (case hdTx => k_is); (case haTx => k_is); (case hmTx => k_is); (case seTxE => first | rfl | k_is); (case aFu => k_is); (case xxFu => k_exc); (case kcFu => k_is); (case exFu => k_is); (case tyFu => k_is); (case hgFu => k_is); (case hkFu => k_is); (case hdFu => k_is); (case haFu => k_is); (case hmFu => k_is); (case seFuE => first | rfl | k_is); (case kNaFu => first | k_is | kernel_rfl | rfl); (case kTaFu => first | k_is | kernel_rfl | rfl); (case kUnFu => first | k_is | kernel_rfl | rfl); (case kAmFu => first | k_is | kernel_rfl | rfl); (case kBuFu => first | k_is | kernel_rfl | rfl); (case kSpFu => first | k_is | kernel_rfl | rfl); (case kOvFu => first | k_is | kernel_rfl | rfl); (case kReFu => first | k_is | kernel_rfl | rfl); (case kFuFu => first | k_is | kernel_rfl | rfl); (case kUdFu => first | k_is | kernel_rfl | rfl); (case kVFu => first | k_is | kernel_rfl | rfl); (case kCmFu => first | k_is | kernel_rfl | rfl); (case kTxFu => first | k_is | kernel_rfl | rfl); (case aUd => k_is); (case xxUd => k_exc); (case kcUd => k_is); (case exUd => k_is); (case tyUd => k_is); (case hgUd => k_is); (case hkUd => k_is); (case hdUd => k_is); (case haUd => k_is); (case hmUd => k_is); (case seUdE => first | rfl | k_is); (case kNaUd => first | k_is | kernel_rfl | rfl); (case kTaUd => first | k_is | kernel_rfl | rfl); (case kUnUd => first | k_is | kernel_rfl | rfl); (case kAmUd => first | k_is | kernel_rfl | rfl); (case kBuUd => first | k_is | kernel_rfl | rfl); (case kSpUd => first | k_is | kernel_rfl | rfl); (case kOvUd => first | k_is | kernel_rfl | rfl); (case kReUd => first | k_is | kernel_rfl | rfl); (case kFuUd => first | k_is | kernel_rfl | rfl); (case kUdUd => first | k_is | kernel_rfl | rfl); (case kVUd => first | k_is | kernel_rfl | rfl); (case kCmUd => first | k_is | kernel_rfl | rfl); (case kTxUd => first | k_is | kernel_rfl | rfl); (case seRR => first | rfl | k_is); (case fca => k_is); (case fcm => k_is); (case fme => first | k_is | kernel_rfl | rfl); (case fne => k_is)
