import PyProof.Rows.All
import Wide.All
import OpenK.AllK
import Wide.FinOn
import HandS.ForMost
import HandS.Flow
import HandS.Wide
import HandS.RaiseMore
import HandS.SortInts
import HandS.Zip
import HandS.Walk
import HandS.Star
import HandS.TupAny
import HandS.TupMul
import HandS.IsInst
import PyProof.ReprRoads
import KE.KDictZip
import KE.GoesMore
import PyProof.EnumMake
import HandS.FStr
import HandS.Conv
import HandS.Strs
import KE.GoesZip
import KE.GoesEnum
import HandS.Lambda
import KE.KSortKey
import KE.SortCalls
import HandS.Keys
import HandS.EndTab
import HandS.TupLe
import HandS.Deep
import KE.DataMinMax
import KE.SortData
import HandS.Style
import HandS.SetFor
import HandS.SortRule
import KE.DataMinKey
import KE.KRevSl
import HandS.DictTup
import HandS.TupSets
import KE.KSortTupG
import HandS.ExcIs
import HandS.Exc
import HandS.ExcOwn
import HandS.ExcValue
import HandS.ExcField
import HandS.ExcInit
import HandS.ReHeld
import KE.KExcIs
import PyProof.StrLawsRepr
import PyProof.Ascii
import PyProof.Rows.IntBool
import PyProof.Rows.EqBoolInt
import HandS.Text
import PyProof.ReprReads
import HandS.DictComp
import HandS.TryMany
import PyProof.TupleOfSeq
import KE.KDictPairs
import HandS.SortOrd
import HandS.DictEq
import HandS.More
import HandS.ListItems
import HandS.SetTxt0
import PyProof.NeKinds
import HandS.SlotsOwn
import HandS.Codes
import HandS.SuiteRaise
import HandS.RaiseFrom
import HandS.ExcInitHot
import HandS.SortKw
import KE.GoesEnumKw
import PySem.Challenge.RW_creditfloor_k61_texts_of_any_kind
set_option Elab.async false
set_option linter.all false
set_option maxRecDepth 100000
namespace Cf
open PySem PySem.Spec PyProof.Rows L2

/-! defs that run where nothing is being shown (no guard is up), so that repr may be used in them -/
structure FnG (P : Program) (w : World) (K : PySem.W.Frag) (mg : Str → Option Value)
    (base : Heap) (CX : CXT) (k : Nat) (f : Addr) (fd : FuncData)
    (ps : List Str) (sp : Sp) : Prop where
  len : ∀ vs H Q E, sp vs H Q E →
    vs.length = ps.length
  run : ∀ (A : Around) (outer : List Env) (s : Shared) (H : Hp) (args : Args) (us : List Value)
    (vs : List V) (Q : VK) (E : XK), Room k A → A.guards = some [] →
    Env0 P w K mg base A outer s H → BindsTo s fd args (ps.zip us) →
    Vals vs us → sp vs H Q E →
    codeAny (model P w) A (.call (.ref f) args) (CR CX outer P w H s Q E) s

section
variable {P : Program} {w : World} {K : PySem.W.Frag}
  {mg : Str → Option Value} {base : Heap}
theorem FnG.mono {CX : CXT} {j k : Nat} {f : Addr} {fd : FuncData} {ps : List Str} {sp : Sp}
    (F : FnG P w K mg base CX j f fd ps sp) (h : j ≤ k) :
    FnG P w K mg base CX k f fd ps sp :=
  ⟨F.len, fun A o s H a us vs Q E hr hg e b r q => F.run A o s H a us vs Q E (hr.mono h) hg e b r q⟩

theorem fnG_of {CX : CXT} {k : Nat} {x qual : Str} {st : Stmt} {f : Addr} {fd : FuncData}
    {N ps : List Str} {sp : Sp} (F : Fun K x qual st f fd) (S : FnScope N ps (defScope st))
    (len : ∀ vs H Q E, sp vs H Q E → vs.length = ps.length)
    (body : ∀ (cdv : Value) (A : Around) (outer : List Env) (s : Shared) (H : Hp) (vs : List V) (Q : VK) (E : XK),
      A.guards = some [] → Room k (A.deeper (envOfC qual (defScope st) s.heap.objs.size f cdv)) → sp vs H Q E →
      ∃ t, PSs (cxOf CX P w K mg base N qual (defScope st) f cdv A outer s H E) (defBody st) t ∧
        t { nx := fun _ H' => Q .non H', rt := Q } (start N vs) H) :
    FnG P w K mg base CX (k + 1) f fd ps sp := by
  obtain ⟨oc, od, kV, doc, pm, an, cd, ct, sl, rfl, look, code⟩ := F.ex
  constructor
  · exact len
  intro A outer s H args us vs Q E room gd env bind rel wish
  have hlen := len vs H Q E wish
  have keeps : ∀ b o, base.get? b = some o → s.heap.get? b = some o :=
    fun b o e => (env.bs b o e).1
  have inK : K.In s.heap := env.mod.kin.keeps keeps
  have noLim : s.heap.NoLimit := env.mod.nolimit.keeps keeps
  refine codeAny_call_function room.depth (inK f _ look) rfl S.co S.gen rfl
    (PySem.W.codeRec_of inK code) (bind _ _ _ _ ?_)
  refine wpAny_newFunctionEnv_cells S.kind ?_ ?_
  · rintro ⟨n, v⟩ hy
    cases S.par n (List.of_mem_zip hy).1 with
    | inl q => exact Or.inl q
    | inr q => exact Or.inr ⟨q, PySem.W.cellsFrom_some _ _ _ (Or.inl q)⟩
  · intro en hen s1 inCall
    subst hen
    refine ⟨noLim.keeps inCall.toInCall.keep, codeAny_func ?_⟩
    obtain ⟨t, judged, reading⟩ := body cd A outer s H vs Q E gd (room.deeper _) wish
    have I0 := inv_start (CX := CX) (E := E) S room.hd env hlen rel inCall
    have ends : ∀ {σ' : L2.St} {H' : Hp} {v : V} {u : Value} {s' : Shared},
        Inv (cxOf CX P w K mg base N qual (defScope st) f cd A outer s H E) [] σ' H' s' →
        RelV v u → Q v H' → CE outer P w H s Q u s' := by
      intro σ' H' v u s' J rv q
      exact ⟨v, H', J.os, J.bare, J.base, J.hok, rv, q⟩
    refine wpAny_mono (judged.run [] s1 (start N vs) H _ I0 reading) ?_ (fun _ _ h => h)
    intro fl s' hs
    match fl, hs with
    | .ret u, hs =>
      obtain ⟨v, σ', H', J, rv, q⟩ := hs
      exact ends J rv q
    | .next, hs =>
      obtain ⟨σ', H', J, q⟩ := hs
      exact ends (v := V.non) (u := Value.none) J rfl q
    | .brk, hs =>
      obtain ⟨_, _, _, q⟩ := hs
      exact q.elim
    | .cont, hs =>
      obtain ⟨_, _, _, q⟩ := hs
      exact q.elim

/-- a def that lets no exception out -/
theorem ok0 {k : Nat} {x qual : Str} {st : Stmt} {f : Addr} {fd : FuncData}
    {N ps : List Str} {sp : Sp} (F : Fun K x qual st f fd) (S : FnScope N ps (defScope st))
    (len : ∀ vs H Q E, sp vs H Q E → vs.length = ps.length)
    (body : ∀ (cdv : Value) (A : Around) (outer : List Env) (s : Shared) (H : Hp) (vs : List V) (Q : VK) (E : XK),
      (A.deeper (envOfC qual (defScope st) s.heap.objs.size f cdv)).guards = some [] → Room k (A.deeper (envOfC qual (defScope st) s.heap.objs.size f cdv)) → sp vs H Q E →
      ∃ t, PSs (cxOf CX0 P w K mg base N qual (defScope st) f cdv A outer s H E).nox (defBody st) t ∧
        t { nx := fun _ H' => Q .non H', rt := Q } (start N vs) H) :
    FnG P w K mg base CX0 (k + 1) f fd ps sp :=
  fnG_of F S len fun cd A o s H vs Q E g hr q =>
    let ⟨t, h, r⟩ := body cd A o s H vs Q E g hr q
    ⟨t, h.nox, r⟩

/-- what a caller knows of a def by its name -/
structure Cl (P : Program) (w : World) (K : PySem.W.Frag) (mg : Str → Option Value) (base : Heap)
    (CX : CXT) (k : Nat) (x : Str) (n : Nat) (sp : Sp) : Prop where
  ex : ∃ (f : Addr) (fd : FuncData) (ps : List Str), FnG P w K mg base CX k f fd ps sp ∧
    mg x = some (.ref f) ∧ PySem.W.keepIn K (.ref f) = true ∧ Binds K fd ps []
end
section
variable {X : Cx} {CX : CXT} {k n : Nat} {sp : Sp} {E : XK} {x : Str} {p pos : Pos} {e : Expr} {es : List Expr} {t : TA}
theorem pe_cl (C : Cl X.prog X.w X.K X.mg X.base CX k x n sp) (hr : Room k X.A) (hgd : X.A.guards = some [])
    (hx : Passes CX X E) (hg : Gl X x) (ha : PA X (e :: es) t)
    (hdb : (x == ("__debug__" : Str)) = false := by decide)
    (he : starEach (e :: es) X.env = (false, eval e X.env) :: starEach es X.env := by rfl)
    (hpl : (backTo pos (starEach es X.env)).any (·.1) = false := by rfl) :
    PE X (.Call (.Name x p) (e :: es) [] pos) (tCall sp [] E t) := by
  obtain ⟨f, fd, ps, F, hm, hk, hb⟩ := C.ex
  constructor
  intro pins s σ H Q I h
  refine wpAny_Call_Name_kw (ld_glob I hg hm ?_ hdb)
  refine PySem.W.callWith_K (h₀ := X.base) I.ok.mod.kin hk
    (thn (ha.run pos pins s σ H _ I h) ?_) he hpl
  rintro us s1 ⟨vs, H1, I1, r, q⟩
  refine ⟨I1.kIn, ?_⟩
  have q' : sp vs H1 Q E := by
    have q2 : sp (vs ++ []) H1 Q E := q
    rwa [List.append_nil] at q2
  have hl : us.length = ps.length := by
    rw [← r.length]
    exact F.len _ _ _ _ q'
  have hb' := hb s1 us I1.kIn (by rw [List.append_nil]; exact hl)
  rw [List.append_nil] at hb'
  refine wpAny_call (codeAny_mono (F.run X.A X.stack s1 H1 ⟨us, []⟩ us vs Q E hr hgd I1.env0 hb' r q') ?_)
  intro res s' hq
  match res, hq with
  | .error er, hq => exact hx pins σ H1 s1 er s' I1 hq
  | .ok (.ret u), hq => exact I1.after hq
  | .ok .next, hq => exact hq.elim
  | .ok .brk, hq => exact hq.elim
  | .ok .cont, hq => exact hq.elim

/-- repr(x) of data: None, bools, ints, texts, lists and tuples of such -/
def Shows (d : PyData) : Prop := d.showable = true ∧ d.depth ≤ 60 ∧ d.shown.length ≤ sizeLine
def rRepr (K : PySem.W.Frag) : List V → Hp → VK → Prop := fun xs H Q =>
  ∃ x d, xs = [x] ∧ Dp K H x d ∧ Shows d ∧ Q (.str d.shown) H
mutual
theorem noDict {K : PySem.W.Frag} {H : Hp} : ∀ {v : V} {d : PyData}, Dp K H v d → d.hasDict = false
  | _, _, .non => by simp only [PyData.hasDict]
  | _, _, .bl _ => by simp only [PyData.hasDict]
  | _, _, .int _ => by simp only [PyData.hasDict]
  | _, _, .str _ => by simp only [PyData.hasDict]
  | _, _, .lst _ h => by
    simp only [PyData.hasDict]
    exact noDicts h
  | _, _, .tup _ h => by
    simp only [PyData.hasDict]
    exact noDicts h
theorem noDicts {K : PySem.W.Frag} {H : Hp} : ∀ {vs : List V} {ds : List PyData}, DpAll K H vs ds → PyData.hasDictAll ds = false
  | _, _, .nil => by simp only [PyData.hasDictAll]
  | _, _, .cons h t => by
    simp only [PyData.hasDictAll]
    rw [noDict h, noDicts t]
    rfl
end
theorem call_repr {k : Nat} (hr : Room k X.A) (hgd : X.A.guards = some []) : CallR X (.builtin "repr") (rRepr X.K) := by
  intro pins s σ H xs us Q I r h
  obtain ⟨x, d, rfl, hd, ⟨hs, hdp, hz⟩, q⟩ := h
  obtain ⟨u, rfl, ru⟩ := vals1 r
  obtain ⟨as, rd⟩ := Dp.reads I d x u hd ru
  have nd := noDict hd
  have hun := hr.un
  cases hd with
  | non =>
    have e : u = Value.none := ru
    subst e
    simp only [PyData.shown] at q
    exact PySem.P.repr_of_none ⟨.str _, H, I.tok _, ⟨_, rfl⟩, q⟩
  | bl b =>
    have e : u = Value.bool b := ru
    subst e
    simp only [PyData.shown] at q
    exact PySem.P.repr_of_bool ⟨.str _, H, I.tok _, ⟨_, rfl⟩, q⟩
  | int i =>
    obtain ⟨t, rfl⟩ := ru
    simp only [PyData.shown] at q
    simp only [PyData.showable, decide_eq_true_eq] at hs
    exact PySem.P.repr_of_int hs ⟨.str _, H, I.tok _, ⟨_, rfl⟩, q⟩
  | str y =>
    obtain ⟨t, rfl⟩ := ru
    simp only [PyData.shown] at q hz
    exact PySem.P.repr_of_str ⟨.str _, H, I.tok _, ⟨_, rfl⟩, q⟩ hz
  | lst sq al =>
    have e : u = Value.ref _ := ru
    subst e
    exact repr_of_reads' rd hs (PyData.noDict_hsm nd) hgd (by omega) (fun _ _ h => h)
      (fun h' t tk hk => ⟨.str _, H, I.kept hk, ⟨_, rfl⟩, q⟩) hz
  | tup sq al =>
    have e : u = Value.ref _ := ru
    subst e
    exact repr_of_reads' rd hs (PyData.noDict_hsm nd) hgd (by omega) (fun _ _ h => h)
      (fun h' t tk hk => ⟨.str _, H, I.kept hk, ⟨_, rfl⟩, q⟩) hz
end

section
variable {P : Program} {w : World} {K : PySem.W.Frag} {mg mb : Str → Option Value} {CX : CXT}
  {k : Nat} {fa a : Addr} {fd : FuncData} {x : Str} {sp : Sp}
end
/-! ### heaps that grow, and change at most at S -/
def Kp (S : List Addr) (H H' : Hp) : Prop := ∀ b o, b ∉ S → H b = some o → H' b = some o
/-- changed at p alone -/
def Md (p : Addr) (H H' : Hp) : Prop := ∀ b, b ≠ p → H' b = H b
section
variable {K : PySem.W.Frag} {S T : List Addr} {H H1 H2 : Hp} {p b : Addr} {o : HO} {xs : List V}
theorem Kp.refl : Kp S H H := fun _ _ _ h => h
theorem Kp.trans (a : Kp S H H1) (c : Kp S H1 H2) : Kp S H H2 := fun q o n h => c q o n (a q o n h)
theorem Kp.mono (a : Kp S H H1) (h : ∀ q ∈ S, q ∈ T) : Kp T H H1 := fun q o n e => a q o (fun z => n (h q z)) e
theorem Kp.wide (a : Kp [] H H1) : Kp S H H1 := a.mono fun _ z => nomatch z
theorem Kp.new (n : H p = none) : Kp S H (upd H p o) := fun q u _ e => by
  rw [upd_ne (ne_of_none e n)]
  exact e
theorem Kp.md (a : Kp S H H1) (h : H p = none ∨ p ∈ S) (m : Md p H1 H2) : Kp S H H2 := fun q u n e => by
  have hq : q ≠ p := by
    rintro rfl
    cases h with
    | inl h => rw [h] at e; cases e
    | inr h => exact n h
  rw [m q hq]
  exact a q u n e
theorem Md.upd : Md p H (upd H p o) := fun _ h => upd_ne h
theorem Md.kp (m : Md p H H1) : Kp [p] H H1 := fun q u n e => by
  rw [m q (fun z => n (by rw [z]; exact List.mem_singleton.mpr rfl))]
  exact e
theorem Kp.free (a : Kp S H H1) (n : p ∉ S) (h : H1 p = none) : H p = none := by
  cases q : H p with
  | none => rfl
  | some u => rw [a p u n q] at h; cases h
theorem Kp.free0 (a : Kp [] H H1) (h : H1 p = none) : H p = none := a.free (fun z => nomatch z) h
theorem Kp.at0 (a : Kp [] H H1) (h : H p = some o) : H1 p = some o := a p o (fun z => nomatch z) h
theorem Kp.at1 (a : Kp [b] H H1) (n : p ≠ b) (h : H p = some o) : H1 p = some o :=
  a p o (fun z => n (List.mem_singleton.mp z)) h
theorem Kp.lst (a : Kp S H H1) (n : p ∉ S) (h : SqL K H p xs) : SqL K H1 p xs := by
  rcases h with (h | ⟨u, h⟩) | h
  · exact .inl (.inl (a _ _ n h))
  · exact .inl (.inr ⟨u, a _ _ n h⟩)
  · exact .inr h
theorem Kp.lst0 (a : Kp [] H H1) (h : SqL K H p xs) : SqL K H1 p xs := a.lst (fun z => nomatch z) h
theorem Kp.lst1 (a : Kp [b] H H1) (n : p ≠ b) (h : SqL K H p xs) : SqL K H1 p xs := a.lst (fun z => n (List.mem_singleton.mp z)) h
theorem Kp.tup (a : Kp S H H1) (n : ∀ u, H p = some u → p ∉ S) (h : SqT K H p xs) : SqT K H1 p xs := by
  rcases h with (h | ⟨u, h⟩) | h
  · exact .inl (.inl (a _ _ (n _ h) h))
  · exact .inl (.inr ⟨u, a _ _ (n _ h) h⟩)
  · exact .inr h
theorem Kp.tup0 (a : Kp [] H H1) (h : SqT K H p xs) : SqT K H1 p xs := a.tup (fun _ _ z => nomatch z) h
/-- a tuple stays where a list is changed -/
theorem Kp.tup1 {ys : List V} (a : Kp [b] H H1) (hb : H b = some (.lst ys)) (h : SqT K H p xs) : SqT K H1 p xs := by
  have ne : ∀ u, H p = some u → (u = .tup xs ∨ ∃ o, u = .frz o (.tup xs)) → p ≠ b := by
    rintro u hu hz rfl
    rw [hb] at hu
    cases hu
    rcases hz with hz | ⟨_, hz⟩ <;> cases hz
  rcases h with (h | ⟨u, h⟩) | h
  · exact .inl (.inl (a.at1 (ne _ h (.inl rfl)) h))
  · exact .inl (.inr ⟨u, a.at1 (ne _ h (.inr ⟨_, rfl⟩)) h⟩)
  · exact .inr h
theorem sqL (h : H p = some (.lst xs)) : SqL K H p xs := .inl (.inl h)
theorem sqT (h : H p = some (.tup xs)) : SqT K H p xs := .inl (.inl h)
end
/-! ### rules whose readings keep heaps closed, and speak of ints -/
abbrev IL (H : Hp) (p : Addr) (ns : List Int) : Prop := H p = some (.lst (ns.map V.int))
section
variable {X : Cx} {e : Expr} {es : List Expr} {ta : TA} {te : TE} {pos : Pos}
theorem pe_imp {t t' : TE} (h : PE X e t) (w : ∀ σ H Q, t' σ H Q → t σ H Q) : PE X e t' :=
  ⟨fun pins s σ H Q I q => h.run pins s σ H Q I (w σ H Q q)⟩
/-- a new object: where it lies, and the heap around it -/
def New (H : Hp) (o : HO) (Q : V → Hp → Prop) : Prop := ∀ p H1, H p = none → Kp [] H H1 → H1 p = some o → Q (.ref p) H1
theorem New.go {H : Hp} {o : HO} {Q : V → Hp → Prop} (h : New H o Q) : ∀ p, H p = none → Q (.ref p) (upd H p o) :=
  fun p n => h p _ n (Kp.new n) upd_same

/-- a rule whose reading may be strengthened on the way -/
def upE (t : TE) : TE := fun σ H Q => ∃ Q0 : VK, t σ H Q0 ∧ ∀ v H1, Q0 v H1 → Q v H1
def upA (t : TA) : TA := fun σ H Q => ∃ Q0 : List V → Hp → Prop, t σ H Q0 ∧ ∀ v H1, Q0 v H1 → Q v H1
theorem pe_up {t : TE} (h : PE X e t) : PE X e (upE t) := ⟨fun pins s σ H Q I ⟨Q0, q, w⟩ =>
  thn (h.run pins s σ H Q0 I q) fun u s1 ⟨v, H1, I1, r, z⟩ => ⟨v, H1, I1, r, w v H1 z⟩⟩
theorem pa_up {t : TA} (h : PA X es t) : PA X es (upA t) := ⟨fun pos pins s σ H Q I ⟨Q0, q, w⟩ =>
  thn (h.run pos pins s σ H Q0 I q) fun u s1 ⟨v, H1, I1, r, z⟩ => ⟨v, H1, I1, r, w v H1 z⟩⟩
/-- [a, b, ..] of ints -/
def tLI (t : TA) : TE := fun σ H Q => t σ H fun xs H1 => ∃ ns : List Int, xs = ns.map V.int ∧ ns.length ≤ sizeLine ∧ New H1 (.lst (ns.map V.int)) Q
theorem pe_li (h : PA X es ta) : PE X (.List es pos) (tLI ta) :=
  pe_imp (pe_lst (pa_up h)) fun σ H Q q => ⟨_, q, fun xs H1 ⟨ns, ex, hl, n⟩ => by
    subst ex
    exact ⟨by rw [List.length_map]; exact hl, n.go⟩⟩
/-- [..] of anything -/
def tLA (t : TA) : TE := fun σ H Q => t σ H fun xs H1 => xs.length ≤ sizeLine ∧ New H1 (.lst xs) Q
theorem pe_la (h : PA X es ta) : PE X (.List es pos) (tLA ta) :=
  pe_imp (pe_lst (pa_up h)) fun σ H Q q => ⟨_, q, fun xs H1 ⟨hl, n⟩ => ⟨hl, n.go⟩⟩
def tTI (t : TA) : TE := fun σ H Q => t σ H fun xs H1 => ∃ ns : List Int, xs = ns.map V.int ∧ ns.length ≤ sizeLine ∧ New H1 (.tup (ns.map V.int)) Q
theorem pe_ti {k : Nat} (h : PA X es ta) : PE X (.Tuple es k pos) (tTI ta) :=
  pe_imp (pe_tup (pa_up h)) fun σ H Q q => ⟨_, q, fun xs H1 ⟨ns, ex, hl, n⟩ => by
    subst ex
    exact ⟨by rw [List.length_map]; exact hl, n.go⟩⟩
def tTA (t : TA) : TE := fun σ H Q => t σ H fun xs H1 => xs.length ≤ sizeLine ∧ New H1 (.tup xs) Q
theorem pe_ta {k : Nat} (h : PA X es ta) : PE X (.Tuple es k pos) (tTA ta) :=
  pe_imp (pe_tup (pa_up h)) fun σ H Q q => ⟨_, q, fun xs H1 ⟨hl, n⟩ => ⟨hl, n.go⟩⟩
theorem call_imp {f : Value} {r r' : List V → Hp → VK → Prop} (h : CallR X f r) (w : ∀ xs H Q, r' xs H Q → r xs H Q) : CallR X f r' :=
  fun pins s σ H xs us Q I rl q => h pins s σ H xs us Q I rl (w xs H Q q)
theorem op_imp {f : Value → Value → Sem Value} {r r' : R2} (h : OpR X f r) (w : ∀ x y H Q, r' x y H Q → r x y H Q) : OpR X f r' :=
  fun pins s σ H x y v u Q I rx ry q => h pins s σ H x y v u Q I rx ry (w x y H Q q)
theorem ix_imp {r r' : R2} (h : IxR X r) (w : ∀ x y H Q, r' x y H Q → r x y H Q) : IxR X r' :=
  fun e1 e2 pins s σ H x y v u Q I rx ry q => h e1 e2 pins s σ H x y v u Q I rx ry (w x y H Q q)
theorem sl_imp {r r' : V → Option Int → Option Int → Hp → VK → Prop} (h : SlR X r) (w : ∀ x lo hi H Q, r' x lo hi H Q → r x lo hi H Q) : SlR X r' :=
  fun pins s σ H x v vl vu lo hi sl Q I rx a b c q => h pins s σ H x v vl vu lo hi sl Q I rx a b c (w x lo hi H Q q)
theorem mt_imp {id : String} {r r' : V → List V → Hp → VK → Prop} (h : MtM X id r) (w : ∀ x xs H Q, r' x xs H Q → r x xs H Q) : MtM X id r' :=
  fun pins s σ H x xs v us Q I rx rs q => h pins s σ H x xs v us Q I rx rs (w x xs H Q q)
theorem set_imp {t t' : TSet} (h : PSet X t) (w : ∀ o i v H Q, t' o i v H Q → t o i v H Q) : PSet X t' :=
  fun pins s σ H o i v ov iv u Q I a b c q => h pins s σ H o i v ov iv u Q I a b c (w o i v H Q q)
/-- tuple(xs), list(xs) of a list or a tuple of ints -/
theorem call_tupL : CallR X (.type "tuple") (fun vs H Q => ∃ p xs, vs = [.ref p] ∧ SqL X.K H p xs ∧ New H (.tup xs) Q) :=
  call_imp call_tuple_of fun _ _ _ ⟨p, xs, e, h, n⟩ => ⟨p, xs, e, .inl ⟨h, n.go⟩⟩
/-- xs[i] of ints, 0 ≤ i -/
theorem getD_map {ns : List Int} {j : Nat} (h : j < ns.length) : (ns.map V.int)[j]? = some (.int (ns.getD j 0)) := by
  rw [List.getElem?_map, List.getElem?_eq_getElem h, List.getD_eq_getElem?_getD, List.getElem?_eq_getElem h]
  rfl
def rIxI (S : Hp → Addr → List V → Prop) : R2 := fun x y H Q => ∃ p, ∃ ns : List Int, ∃ i : Int, x = .ref p ∧ y = .int i ∧ S H p (ns.map V.int) ∧ (0 ≤ i ∧ i < (ns.length : Int)) ∧ Q (.int (ns.getD i.toNat 0)) H
theorem at_of {ns : List Int} {i : Int} (h : 0 ≤ i ∧ i < (ns.length : Int)) : atI (ns.map V.int) i = some (.int (ns.getD i.toNat 0)) := by
  have e : ((i.toNat : Nat) : Int) = i := by omega
  have q := atI_nat (getD_map (ns := ns) (j := i.toNat) (by omega))
  rw [e] at q
  exact q
theorem ix_li : IxR X (rIxI (SqL X.K)) := ix_imp ix_list fun _ _ _ _ ⟨p, ns, i, a, b, c, d, q⟩ => ⟨p, _, i, _, a, b, c, at_of d, q⟩
theorem ix_ti : IxR X (rIxI (SqT X.K)) := ix_imp ix_tup fun _ _ _ _ ⟨p, ns, i, a, b, c, d, q⟩ => ⟨p, _, i, _, a, b, c, at_of d, q⟩
/-- xs[i] of ints, 0 ≤ i, its value said -/
def Get (ns : List Int) (i v : Int) : Prop := 0 ≤ i ∧ ns[i.toNat]? = some v
def rIxV (S : Hp → Addr → List V → Prop) : R2 := fun x y H Q => ∃ p, ∃ ns : List Int, ∃ i v : Int, x = .ref p ∧ y = .int i ∧ S H p (ns.map V.int) ∧ Get ns i v ∧ Q (.int v) H
theorem at_get {ns : List Int} {i v : Int} (h : Get ns i v) : atI (ns.map V.int) i = some (.int v) := by
  have q : (ns.map V.int)[i.toNat]? = some (.int v) := by
    rw [List.getElem?_map, h.2]
    rfl
  have z := atI_nat q
  rw [show ((i.toNat : Nat) : Int) = i by have := h.1; omega] at z
  exact z
theorem ix_lv : IxR X (rIxV (SqL X.K)) := ix_imp ix_list fun _ _ _ _ ⟨p, ns, i, v, a, b, c, d, q⟩ => ⟨p, _, i, _, a, b, c, at_get d, q⟩
/-- xs[:k] of ints, 0 ≤ k -/
theorem cut_take (xs : List V) (k : Nat) : cutV xs none (some (k : Int)) = xs.take k := by
  unfold cutV
  rw [HT.sIx_none, HT.sIx_nat]
  simp only [List.drop_zero, Nat.sub_zero]
  rcases Nat.le_total k xs.length with h | h
  · rw [Nat.min_eq_left h]
  · rw [Nat.min_eq_right h, List.take_of_length_le (Nat.le_refl _), List.take_of_length_le h]
theorem sl_liTo : SlR X (fun x lo hi H Q => ∃ p, ∃ ns : List Int, ∃ k : Int, x = .ref p ∧ lo = none ∧ hi = some k ∧ SqL X.K H p (ns.map V.int) ∧ 0 ≤ k ∧ New H (.lst ((ns.take k.toNat).map V.int)) Q) :=
  sl_imp sl_list fun x lo hi H Q ⟨p, ns, k, a, b, c, d, hk, n⟩ => by
    subst a b c
    refine ⟨p, _, rfl, d, ?_⟩
    have e : cutV (ns.map V.int) none (some k) = (ns.take k.toNat).map V.int := by
      have q := cut_take (ns.map V.int) k.toNat
      rw [show ((k.toNat : Nat) : Int) = k by omega] at q
      rw [q, List.map_take]
    rw [e]
    exact n.go
/-- xs.append(n) -/
theorem mt_app : MtM X "list.append" (fun x vs H Q => ∃ l xs y, x = .ref l ∧ vs = [y] ∧ H l = some (.lst xs) ∧ xs.length < sizeLine ∧ ∀ H1, Md l H H1 → H1 l = some (.lst (xs ++ [y])) → Q .non H1) :=
  mt_imp mt_append fun _ _ _ _ ⟨l, xs, y, a, b, h, z, q⟩ => ⟨l, xs, y, a, b, h, z, q _ Md.upd upd_same⟩
theorem mt_appI : MtM X "list.append" (fun x vs H Q => ∃ l, ∃ ns : List Int, ∃ y : Int, x = .ref l ∧ vs = [.int y] ∧ IL H l ns ∧ ns.length < sizeLine ∧ ∀ H1, Md l H H1 → IL H1 l (ns ++ [y]) → Q .non H1) :=
  mt_imp mt_app fun _ _ _ _ ⟨l, ns, y, a, b, h, z, q⟩ => ⟨l, _, _, a, b, h, by rw [List.length_map]; exact z, fun H1 m e => q H1 m (e.trans (by rw [List.map_append]; rfl))⟩
/-- xs[i] = n, 0 ≤ i -/
theorem set_li : PSet X (fun o i v H Q => ∃ p, ∃ ns : List Int, ∃ k n : Int, o = .ref p ∧ i = .int k ∧ v = .int n ∧ IL H p ns ∧ (0 ≤ k ∧ k < (ns.length : Int)) ∧ ∀ H1, Md p H H1 → IL H1 p (ns.set k.toNat n) → Q H1) :=
  set_imp set_list fun o i v H Q ⟨p, ns, k, n, a, b, c, h, hk, q⟩ => by
    subst c
    refine ⟨p, _, k, k.toNat, a, b, h, ?_, q _ Md.upd ?_⟩
    · unfold ixN
      rw [if_pos hk.1, List.length_map, if_pos hk.2]
    · show upd H p _ p = _
      rw [upd_same, List.map_set]

/-- a if t else b, an int whichever way: P is what is known of it behind -/
def tIfI (t : TT) (ta tb : TE) : TE := fun σ H Q => ∃ P : Int → Prop, (t σ H fun c H1 =>
  if c = true then (ta σ H1 fun v H2 => ∃ i, v = .int i ∧ H2 = H ∧ P i) else (tb σ H1 fun v H2 => ∃ i, v = .int i ∧ H2 = H ∧ P i)) ∧ ∀ i, P i → Q (.int i) H
theorem pe_ifI {c a b : Expr} {tA : TT} {ta tb : TE} (hc : PT X c tA) (ha : PE X a ta) (hb : PE X b tb) : PE X (.IfExp c a b pos) (tIfI tA ta tb) :=
  pe_imp (pe_up (pe_ifExp hc ha hb)) fun σ H Q ⟨P, h, q⟩ => ⟨_, h, fun v H1 ⟨i, a, b, p⟩ => by subst a b; exact q i p⟩
/-- two ways that come together: J is what is known behind both -/
def tIfJ (c : TT) (t u : TS) : TS := fun D σ H => ∃ J : L2.St → Hp → Prop, (c σ H fun b H1 => if b = true then t { D with nx := J } σ H1 else u { D with nx := J } σ H1) ∧ ∀ σ' H', J σ' H' → D.nx σ' H'
theorem ps_ifJ {c : Expr} {a b : List Stmt} {tc : TT} {t u : TS} (hc : PT X c tc) (ha : PSs X a t) (hb : PSs X b u) : PS X (.If c a b pos) (tIfJ tc t u) := by
  refine ⟨fun pins s σ H D I ⟨J, h, w⟩ => ?_⟩
  refine thn ((ps_if hc ha hb).run pins s σ H { D with nx := J } I h) ?_
  intro fl s' hs
  cases fl with
  | next =>
    obtain ⟨σ', H', I', q⟩ := hs
    exact ⟨σ', H', I', w σ' H' q⟩
  | ret u => exact hs
  | brk => exact hs
  | cont => exact hs

/-! ### loops by walks -/
def upI (t : TI) : TI := fun σ H R => ∃ R0 : It → Hp → Prop, t σ H R0 ∧ ∀ J H1, R0 J H1 → R J H1
theorem pi_up {tg iter : Expr} {t : TI} (h : PI X tg iter t) : PI X tg iter (upI t) := by
  refine ⟨fun pins s σ H R I ⟨R0, q, w⟩ => ?_⟩
  refine thn (h.run pins s σ H R0 I q) fun v s1 h1 => thn h1 ?_
  rintro itv s2 ⟨it, fp, tn, J, H', a, b, c, d, e, f⟩
  exact ⟨it, fp, tn, J, H', a, b, c, d, e, w J H' f⟩
def upG (t : TG) : TG := fun v σ H Q => ∃ Q0 : L2.St → Hp → Prop, t v σ H Q0 ∧ ∀ σ' H', Q0 σ' H' → Q σ' H'
theorem pg_up {tg : Expr} {t : TG} (h : PG X tg t) : PG X tg (upG t) := by
  refine ⟨fun pins s σ H v u Q I r ⟨Q0, q, w⟩ => ?_⟩
  refine thn (h.run pins s σ H v u Q0 I r q) ?_
  rintro _ s' ⟨σ', H', I', z⟩
  exact ⟨σ', H', I', w σ' H' z⟩
def upT (t : TT) : TT := fun σ H Q => ∃ Q0 : Bool → Hp → Prop, t σ H Q0 ∧ ∀ b H1, Q0 b H1 → Q b H1
theorem pts_up {ifs : List Expr} {t : TT} (h : PTs X ifs t) : PTs X ifs (upT t) := by
  refine ⟨fun pins s σ H Q I ⟨Q0, q, w⟩ => ?_⟩
  refine thn (h.run pins s σ H Q0 I q) ?_
  rintro b s' ⟨H', I', z⟩
  exact ⟨H', I', w b H' z⟩
/-- for: n turns of J, what holds of the heap that it may go on (G), what a turn gives (Y), the invariant Pv -/
def tForW (wi : TI) (g : TG) (tb : TS) : TS := fun D σ H => wi σ H fun J H1 => ∃ n G Y, Walk J n G Y ∧ ∃ Pv : Nat → L2.St → Hp → Prop, Pv 0 σ H1 ∧
  (∀ i σ H, i ≤ n → Pv i σ H → G H) ∧
  (∀ i x σ H H', i < n → Pv i σ H → Y i H x H' → g x σ H' fun σ2 H2 => tb { D with nx := Pv (i + 1), ct := Pv (i + 1), bk := D.nx } σ2 H2) ∧
  ∀ σ H, Pv n σ H → D.nx σ H
theorem ps_forW {tg iter : Expr} {body : List Stmt} {wi : TI} {g : TG} {tb : TS} (hp : PassesOwn (model X.prog X.w) X.A X.env X.xe) (hc : X.calm = true)
    (hi : PI X tg iter wi) (hg : PG X tg g) (hb : PSs X body tb) (hs : ∀ x, foldedSetIterable iter X.env x = pure x := by intro _; rfl) :
    PS X (.For tg iter body [] pos) (tForW wi g tb) := by
  refine ⟨fun pins s σ H D I h => (ps_for hp hc (pi_up hi) hg hb (hs := hs)).run pins s σ H D I ⟨_, h, ?_⟩⟩
  rintro J H1 ⟨n, G, Y, w, Pv, h0, hG, hs, hd⟩
  exact for_it w Pv h0 hG hs hd
/-- [e for x in ..]: acc is what is made so far -/
def LcW (J : It) (g : TG) (tt : TT) (te : TE) (vs : List Nat) (σ : L2.St) (H1 : Hp) (Q : VK) : Prop := ∃ n G Y, Walk J n G Y ∧ n < sizeLine ∧
  ∀ D H2, H1 D = none → Kp [] H1 H2 → H2 D = some (.lst []) → ∃ Pv : Nat → List V → Hp → Prop, Pv 0 [] H2 ∧ (∀ i acc H, i ≤ n → Pv i acc H → G H) ∧
  (∀ i acc x H H', i < n → Pv i acc H → H D = some (.lst acc) → Y i H x H' → g x (wipe σ vs) H' fun σ2 H3 => wipe σ2 vs = wipe σ vs ∧ tt σ2 H3 fun b H4 =>
    if b = true then (te σ2 H4 fun y H5 => H5 D = some (.lst acc) ∧ ∀ H6, Md D H5 H6 → H6 D = some (.lst (acc ++ [y])) → Pv (i + 1) (acc ++ [y]) H6)
    else H4 D = some (.lst acc) ∧ Pv (i + 1) acc H4) ∧
  ∀ acc H, acc.length ≤ n → H D = some (.lst acc) → Pv n acc H → Q (.ref D) H
def tLcW (wi : TI) (g : TG) (tt : TT) (te : TE) (vs : List Nat) : TE := fun σ H Q => wi σ H fun J H1 => LcW J g tt te vs σ H1 Q
theorem lc_w {wi : TI} {g : TG} {tt : TT} {te : TE} {vs : List Nat} {σ : L2.St} {H : Hp} {Q : VK} (h : tLcW wi g tt te vs σ H Q) : tLc (upI wi) (upG g) (upT tt) (upE te) vs σ H Q := by
  refine ⟨_, h, ?_⟩
  rintro J H1 ⟨n, G, Y, w, hn, body⟩ D nD
  obtain ⟨Pv, h0, hG, hs, hd⟩ := body D _ nD (Kp.new nD) upd_same
  refine lc_it w (fun i H => ∃ acc, H D = some (.lst acc) ∧ acc.length ≤ i ∧ Pv i acc H) ⟨[], upd_same, Nat.le_refl _, h0⟩ (fun i H hi ⟨acc, _, _, p⟩ => hG i acc H hi p) ?_ (fun H ⟨acc, e, l, p⟩ => hd acc H l e p)
  rintro i x H H' hi ⟨acc, ea, la, p⟩ y
  refine ⟨_, hs i acc x H H' hi p ea y, ?_⟩
  rintro σ2 H3 ⟨ew, ht⟩
  refine ⟨ew, _, ht, ?_⟩
  intro b H4 hb
  cases b with
  | true =>
    rw [if_pos rfl] at hb ⊢
    refine ⟨_, hb, ?_⟩
    rintro v H5 ⟨e5, q5⟩
    exact ⟨acc, e5, by omega, acc ++ [v], upd_same, by rw [List.length_append]; exact Nat.succ_le_succ la, q5 _ Md.upd upd_same⟩
  | false =>
    rw [if_neg Bool.false_ne_true] at hb ⊢
    exact ⟨acc, hb.1, by omega, hb.2⟩
theorem pe_lcW {elt tg iter : Expr} {ifs : List Expr} {scope : Scope} {own : List (Str × Nat)} {wi : TI} {g : TG} {tt : TT} {te : TE} (hc : X.calm = true) (hN : X.N.Nodup) (hi : PI X tg iter wi) (ok : BlkOk X.N X.env.scope scope own)
    (hg : ∀ (s : Shared) (H : Hp) (C : Addr) (cl : List (Str × Addr)) (fp : List Addr), PG (X.blk s H scope (compEnvC scope cl C X.env) fp) tg g)
    (ht : ∀ (s : Shared) (H : Hp) (C : Addr) (cl : List (Str × Addr)) (fp : List Addr), PTs (X.blk s H scope (compEnvC scope cl C X.env) fp) ifs tt)
    (he : ∀ (s : Shared) (H : Hp) (C : Addr) (cl : List (Str × Addr)) (fp : List Addr), PE (X.blk s H scope (compEnvC scope cl C X.env) fp) elt te)
    (hs : ∀ x, foldedSetIterable iter X.env x = pure x := by intro _; rfl) :
    PE X (.ListComp elt [⟨tg, iter, ifs, 0⟩] scope pos) (tLcW wi g tt te (own.map (·.2))) :=
  pe_imp (pe_lc hc hN (pi_up hi) ok (fun a b c d e => pg_up (hg a b c d e)) (fun a b c d e => pts_up (ht a b c d e)) (fun a b c d e => pe_up (he a b c d e)) hs) fun _ _ _ q => lc_w q
theorem ps_setLcW {i : Nat} {y : Str} {py spos : Pos} {elt tg iter : Expr} {ifs : List Expr} {scope : Scope} {own : List (Str × Nat)} {wi : TI} {g : TG} {tt : TT} {te : TE} (hc : X.calm = true) (hN : X.N.Nodup)
    (hy : X.N[i]? = some y) (hyl : X.env.scope.names.lookup y = some .local)
    (hsw : swapsWith (.ListComp elt [⟨tg, iter, ifs, 0⟩] scope pos) (some (.Name y py)) spos.line X.env = pure true) (hi : PI X tg iter wi) (ok : BlkOk X.N X.env.scope scope own)
    (hg : ∀ (s : Shared) (H : Hp) (C : Addr) (cl : List (Str × Addr)) (fp : List Addr), PG (X.blk s H scope (compEnvC scope cl C X.env) fp) tg g)
    (ht : ∀ (s : Shared) (H : Hp) (C : Addr) (cl : List (Str × Addr)) (fp : List Addr), PTs (X.blk s H scope (compEnvC scope cl C X.env) fp) ifs tt)
    (he : ∀ (s : Shared) (H : Hp) (C : Addr) (cl : List (Str × Addr)) (fp : List Addr), PE (X.blk s H scope (compEnvC scope cl C X.env) fp) elt te)
    (hs : ∀ x, foldedSetIterable iter X.env x = pure x := by intro _; rfl) :
    PS X (.Assign [.Name y py] (.ListComp elt [⟨tg, iter, ifs, 0⟩] scope pos) spos) (tAsg (tLcW wi g tt te (own.map (·.2))) (gName i)) :=
  ⟨fun pins s σ H D I q => (ps_setLc hc hN hy hyl hsw (pi_up hi) ok (fun a b c d e => pg_up (hg a b c d e)) (fun a b c d e => pts_up (ht a b c d e)) (fun a b c d e => pe_up (he a b c d e)) hs).run pins s σ H D I (lc_w q)⟩
end

/-! ### walks over ints -/
def YI (ns : List Int) : Nat → Hp → V → Hp → Prop := fun i H x H' => H' = H ∧ x = .int (ns.getD i 0)
def YR (lo : Int) : Nat → Hp → V → Hp → Prop := fun i H x H' => H' = H ∧ x = .int (lo + i)
/-- a new pair of ints each turn -/
def YE (ns : List Int) : Nat → Hp → V → Hp → Prop := fun i H x H' => ∃ T, x = .ref T ∧ H T = none ∧ Kp [] H H' ∧ H' T = some (.tup [.int (i : Int), .int (ns.getD i 0)])
theorem getD_at {ns : List Int} {i : Nat} {x : V} (hi : i < ns.length) (h : (ns.map V.int)[i]? = some x) : x = .int (ns.getD i 0) := by
  rw [getD_map hi] at h
  exact (Option.some.inj h).symm
section
variable {K : PySem.W.Frag} {a b : Addr} {ns ms : List Int}
theorem walk_li : Walk (Itl K a) ns.length (fun H => SqL K H a (ns.map V.int)) (YI ns) := by
  have w := walk_list (K := K) (a := a) (xs := ns.map V.int)
  rw [List.length_map] at w
  exact w.mono (fun _ h => h) fun i H x H' hi _ ⟨e, h⟩ => ⟨e, getD_at hi h⟩
theorem walk_ti : Walk (Itt K a) ns.length (fun H => SqT K H a (ns.map V.int)) (YI ns) := by
  have w := walk_tup (K := K) (a := a) (xs := ns.map V.int)
  rw [List.length_map] at w
  exact w.mono (fun _ h => h) fun i H x H' hi _ ⟨e, h⟩ => ⟨e, getD_at hi h⟩
theorem walk_rg {lo : Int} {n : Nat} : Walk (Itr lo n) n (fun _ => True) (YR lo) := walk_range
end
theorem yesT {σ : L2.St} {H : Hp} {A B : Hp → Prop} (h : A H) : tYes σ H fun b H4 => if b = true then A H4 else B H4 := by
  show if true = true then A H else B H
  rw [if_pos rfl]
  exact h

/-! ### how long a shown thing is -/
theorem log_small {n k : Nat} (hk : 0 < k) (h : n < 2 ^ k) : n.log2 < k := by
  by_cases h0 : n = 0
  · subst h0
    exact hk
  · exact (Nat.log2_lt h0).mpr h
theorem int_shown {i : Int} (h : i.natAbs < 2 ^ 100) : (PyData.int i).shown.length ≤ 101 := by
  simp only [PyData.shown]
  have hl : i.natAbs.log2 < 100 := log_small (by decide) h
  have q := int_text_length_le (a := i) (k := 100) (by decide) hl
  rw [PySem.ofString_length]
  exact q
theorem shownAll_map : ∀ ds : List PyData, PyData.shownAll ds = ds.map PyData.shown
  | [] => rfl
  | d :: r => by simp only [PyData.shownAll, List.map_cons]; rw [shownAll_map r]
theorem showableAll_of : ∀ {ds : List PyData}, (∀ d ∈ ds, d.showable = true) → PyData.showableAll ds = true
  | [], _ => by simp only [PyData.showableAll]
  | d :: r, h => by
    simp only [PyData.showableAll]
    rw [h d (List.mem_cons_self), showableAll_of fun e he => h e (List.mem_cons_of_mem _ he)]
    rfl
theorem depthAll_of {m : Nat} : ∀ {ds : List PyData}, (∀ d ∈ ds, d.depth ≤ m) → PyData.depthAll ds ≤ m
  | [], _ => by simp only [PyData.depthAll]; omega
  | d :: r, h => by
    simp only [PyData.depthAll]
    have h1 := h d (List.mem_cons_self)
    have h2 := depthAll_of fun e he => h e (List.mem_cons_of_mem _ he)
    omega
theorem piled_of {m : Nat} : ∀ {ts : List Str}, (∀ t ∈ ts, t.length ≤ m) → piled ts ≤ ts.length * (m + 2)
  | [], _ => by simp [piled]
  | t :: r, h => by
    rw [piled_cons, List.length_cons, Nat.succ_mul]
    have h1 := h t (List.mem_cons_self)
    have h2 := piled_of fun e he => h e (List.mem_cons_of_mem _ he)
    omega
theorem tupleText_le (ts : List Str) : (tupleText ts).length ≤ piled ts + 3 := by
  unfold tupleText
  rw [strLen_append, strLen_append]
  have e1 : ((("(" : String) : Str)).length = 1 := rfl
  have e3 : (((if ts.length == 1 then ",)" else ")" : String) : Str)).length ≤ 2 := by split <;> decide
  rw [e1]
  cases ts with
  | nil =>
    have e4 : (Str.join ", " []).length = 0 := rfl
    rw [e4]
    omega
  | cons t r =>
    have := join_length_add (t :: r) (by simp)
    omega
theorem listText_le (ts : List Str) : (listText ts).length ≤ piled ts + 3 := by
  cases ts with
  | nil => decide
  | cons t r =>
    have h := textFrom_length_pos r 1 (("[" : Str) ++ (if (0 : Nat) > 0 then ", " else "" : String) ++ t) (Nat.succ_pos 0)
    have e : ((("[" : Str) ++ (if (0 : Nat) > 0 then ", " else "" : String) ++ t)).length = 1 + t.length := by
      rw [strLen_append, strLen_append]
      rfl
    unfold listText
    rw [strLen_append]
    have e2 : ((("]" : String) : Str)).length = 1 := rfl
    have e3 : (textFrom 0 "[" (t :: r)).length = (textFrom 1 (("[" : Str) ++ (if (0 : Nat) > 0 then ", " else "" : String) ++ t) r).length := rfl
    rw [e2, e3, h, e, piled_cons]
    omega
theorem int_ok {i : Int} (h : i.natAbs < 2 ^ 100) : (PyData.int i).showable = true ∧ (PyData.int i).depth ≤ 0 := by
  refine ⟨?_, ?_⟩
  · simp only [PyData.showable, decide_eq_true_eq]
    exact Nat.lt_trans (log_small (by decide) h) (by decide)
  · simp only [PyData.depth]
    omega
theorem dp_ints {K : PySem.W.Frag} {H : Hp} : ∀ ns : List Int, DpAll K H (ns.map V.int) (ns.map PyData.int)
  | [] => .nil
  | n :: r => .cons (.int n) (dp_ints r)
theorem dp_ti {K : PySem.W.Frag} {H : Hp} {p : Addr} {ns : List Int} (h : SqT K H p (ns.map V.int)) : Dp K H (.ref p) (.tuple (ns.map PyData.int)) := .tup h (dp_ints ns)
section
variable {X : Cx} {e : Expr} {es : List Expr} {ta : TA} {pos : Pos}
/-- a if t else b: P is what is known of it behind -/
def tIfP (t : TT) (ta tb : TE) : TE := fun σ H Q => ∃ P : V → Hp → Prop, (t σ H fun c H1 => if c = true then ta σ H1 P else tb σ H1 P) ∧ ∀ v H1, P v H1 → Q v H1
theorem pe_ifP {c a b : Expr} {tA : TT} {ta tb : TE} (hc : PT X c tA) (ha : PE X a ta) (hb : PE X b tb) : PE X (.IfExp c a b pos) (tIfP tA ta tb) :=
  pe_imp (pe_up (pe_ifExp hc ha hb)) fun σ H Q ⟨P, h, q⟩ => ⟨P, h, q⟩
/-- sorted(xs) of a list of ints -/
theorem cr_srtL : CallR X (.builtin "sorted") (fun vs H Q => ∃ p, ∃ ns : List Int, vs = [.ref p] ∧ SqL X.K H p (ns.map V.int) ∧ ∀ ms : List Int, ms.Perm ns → ms.Pairwise (· ≤ ·) → New H (.lst (ms.map V.int)) Q) :=
  call_imp cr_sortedI fun vs H Q ⟨p, ns, a, b, w⟩ => ⟨p, ns, a, b, fun ms q h1 h2 h3 => (w ms h1 h2).go q h3⟩
end
theorem ifNo {c A B : Prop} [Decidable c] (hc : ¬ c) (h : B) : if decide c = true then A else B := by
  rw [decide_eq_false hc, if_neg Bool.false_ne_true]
  exact h
theorem ifYes {c A B : Prop} [Decidable c] (hc : c) (h : A) : if decide c = true then A else B := by
  rw [decide_eq_true hc, if_pos rfl]
  exact h
end Cf

set_option Elab.async false
set_option linter.all false
set_option maxRecDepth 100000
namespace Cf
open PySem PySem.Spec PyProof.Rows L2
/-! ### enumerate(zip(xs, ys)) -/
section
variable {prog : Program} {w : World} {A : Around} {E : Value → Shared → Prop} {s : Shared}
/-- enumerate's next turn over any iterator: what the iterator gives is told by inner -/
theorem enum_item {e it : Addr} {i : Nat} {old : Value} {Q : Value → Shared → Prop} (he : IsEnum s.heap e it i old)
    (inner : wpAny (model prog w) A (Builtin.SmallTypes.nextOf (.ref it)) (fun x s1 => IsEnum s1.heap e it i old ∧
      ∀ h', IsEnumOut h' e it ((i : Int) + 1) x s1.heap.objs.size →
        h'.get? s1.heap.objs.size = some { cls := .type "tuple", data := .seq #[.int i s1.toks, x] } →
        h'.objs.size = s1.heap.objs.size + 1 → (∀ b o, b ≠ e → s1.heap.get? b = some o → h'.get? b = some o) →
        Q (.ref s1.heap.objs.size) { s1 with heap := h', toks := s1.toks + 1 }) E s) :
    wpAny (model prog w) A (Builtin.«enumerate.__next__» ⟨[.ref e], []⟩) (fun fin s' => ∃ v, fin = .done (.ret v) ∧ Q v s') E s := by
  show wpAny _ _ (field (.ref e) 2 >>= _) _ _ _
  refine wpAny_bind (wpAny_field he rfl (x := .ref it) rfl ?_)
  refine wpAny_bind (thn inner ?_)
  rintro x ⟨hp, gn, dd, tk, os⟩ ⟨e1, wish⟩
  replace e1 : IsEnum hp e it i old := e1
  show wpAny _ _ (field (.ref e) 3 >>= _) _ _ ⟨hp, gn, dd, tk, os⟩
  refine wpAny_bind (wpAny_field e1 rfl (x := rawInt i) rfl ?_)
  show wpAny _ _ (field (.ref e) 4 >>= _) _ _ ⟨hp, gn, dd, tk, os⟩
  refine wpAny_bind (wpAny_field e1 rfl (x := .none) rfl ?_)
  show wpAny _ _ (mkInt i >>= _) _ _ ⟨hp, gn, dd, tk, os⟩
  refine wpAny_bind (wpAny_mkInt ?_)
  show wpAny _ _ (setField (.ref e) 3 (rawInt ((i : Int) + 1)) >>= _) _ _ ⟨hp, gn, dd, tk + 1, os⟩
  refine wpAny_bind (wpAny_setField_rec e1 (by simp) fun g2 e2 k2 => ?_)
  replace k2 : Heap.SameBut e hp g2 := k2
  replace e2 : IsEnum g2 e it ((i : Int) + 1) old := e2
  show wpAny _ _ (setField (.ref e) 4 .none >>= _) _ _ ⟨g2, gn, dd, tk + 1, os⟩
  refine wpAny_bind (wpAny_setField_rec e2 (by simp) fun g3 e3 k3 => ?_)
  replace k3 : Heap.SameBut e g2 g3 := k3
  replace e3 : IsEnum g3 e it ((i : Int) + 1) old := e3
  show wpAny _ _ (newTuple [.int i tk, x] >>= _) _ _ ⟨g3, gn, dd, tk + 1, os⟩
  refine wpAny_bind (wpAny_newTuple ?_)
  have size3 : g3.objs.size = hp.objs.size := by rw [k3.1, k2.1]
  have below : e < hp.objs.size := Heap.lt_size e1
  have e4 : IsEnum (g3.push { cls := .type "tuple", data := .seq #[.int i tk, x] }) e it ((i : Int) + 1) old := Heap.get?_push_of_some _ e3
  have t4 : (g3.push { cls := .type "tuple", data := .seq #[.int i tk, x] }).get? hp.objs.size = some { cls := .type "tuple", data := .seq #[.int i tk, x] } := by
    rw [← size3]
    exact Heap.get?_push_size _ rfl
  have size4 : (g3.push { cls := .type "tuple", data := .seq #[.int i tk, x] }).objs.size = hp.objs.size + 1 := by
    rw [Heap.size_push, size3]
  have kept : ∀ b o, b ≠ e → hp.get? b = some o → (g3.push { cls := .type "tuple", data := .seq #[.int i tk, x] }).get? b = some o := by
    intro b o hb q
    exact Heap.get?_push_of_some _ (k3.extBut b o hb (k2.extBut b o hb q))
  generalize g3.push { cls := .type "tuple", data := .seq #[.int i tk, x] } = g4 at e4 t4 size4 kept
  show wpAny _ _ (Builtin.SmallTypes.ownedTupleIsFree (.ref e) >>= _) _ _ ⟨g4, gn, dd, tk + 1, os⟩
  rw [size3]
  refine wpAny_bind ?_
  unfold Builtin.SmallTypes.ownedTupleIsFree
  refine wpAny_bind (wpAny_field e4 rfl (x := .none) rfl (wpAny_pure ?_))
  simp only [if_true]
  refine wpAny_bind (wpAny_rule ?_)
  refine wpAny_bind (wpAny_field e4 rfl (x := old) rfl ?_)
  refine wpAny_bind (wpAny_setField_rec e4 (by simp) fun g5 e5 k5 => ?_)
  replace k5 : Heap.SameBut e g4 g5 := k5
  replace e5 : IsEnum g5 e it ((i : Int) + 1) x := e5
  show wpAny _ _ (Builtin.SmallTypes.ownedTupleHandOut (.ref e) (.ref hp.objs.size) >>= _) _ _ ⟨g5, gn, dd, tk + 1, os⟩
  refine wpAny_bind ?_
  unfold Builtin.SmallTypes.ownedTupleHandOut
  refine wpAny_bind (wpAny_setField_rec e5 (by simp) fun g6 e6 k6 => ?_)
  replace k6 : Heap.SameBut e g5 g6 := k6
  replace e6 : IsEnumOut g6 e it ((i : Int) + 1) x hp.objs.size := e6
  refine wpAny_setField_rec e6 (by simp) fun g7 e7 k7 => ?_
  replace k7 : Heap.SameBut e g6 g7 := k7
  replace e7 : IsEnumOut g7 e it ((i : Int) + 1) x hp.objs.size := e7
  have far : hp.objs.size ≠ e := Nat.ne_of_gt below
  refine wpAny_bind (wpAny_letGo (wpAny_pure ⟨_, rfl, wish g7 e7 ?_ ?_ ?_⟩))
  · exact k7.extBut _ _ far (k6.extBut _ _ far (k5.extBut _ _ far t4))
  · rw [k7.1, k6.1, k5.1, size4]
  · exact fun b o hb q => k7.extBut b o hb (k6.extBut b o hb (k5.extBut b o hb (kept b o hb q)))
theorem next_enum {e it : Addr} {i : Nat} {old : Value} {Q : Option Value → Shared → Prop} (he : IsEnum s.heap e it i old)
    (inner : wpAny (model prog w) A.in1 (Builtin.SmallTypes.nextOf (.ref it)) (fun x s1 => IsEnum s1.heap e it i old ∧
      ∀ h', IsEnumOut h' e it ((i : Int) + 1) x s1.heap.objs.size →
        h'.get? s1.heap.objs.size = some { cls := .type "tuple", data := .seq #[.int i s1.toks, x] } →
        h'.objs.size = s1.heap.objs.size + 1 → (∀ b o, b ≠ e → s1.heap.get? b = some o → h'.get? b = some o) →
        Q (some (.ref s1.heap.objs.size)) { s1 with heap := h', toks := s1.toks + 1 }) (fun _ _ => False) s) :
    wpAny (model prog w) A (pyNext (.ref e)) Q E s := by
  have ty : s.TypeIs (.ref e) "enumerate" := ⟨_, he, rfl⟩
  unfold pyNext
  refine wpAny_bind (wpAny_attempt (wpAny_callSpecial?_slot (name := Str.ofString "__next__") ty F.slot_enumerate_next ?_))
  refine wpAny_call_entry F.slot_enumerate_next ty F.entry_enumerate_next (enum_item he ?_) (F.args_enumerate_next_1 _)
  refine wpAny_mono inner ?_ fun _ _ z => z.elim
  rintro x s1 ⟨a, b⟩
  exact ⟨a, fun h' q1 q2 q3 q4 => wpAny_pure (b h' q1 q2 q3 q4)⟩
theorem next_enum_end {e it : Addr} {i : Int} {old : Value} {Q : Option Value → Shared → Prop} (he : IsEnum s.heap e it i old)
    (inner : wpAny (model prog w) A.in1 (Builtin.SmallTypes.nextOf (.ref it)) (fun _ _ => False)
      (fun ex s1 => ∃ a o, ex = .ref a ∧ s1.heap.get? a = some o ∧ o.cls = .type "StopIteration" ∧ Q none s1) s) :
    wpAny (model prog w) A (pyNext (.ref e)) Q E s := by
  have ty : s.TypeIs (.ref e) "enumerate" := ⟨_, he, rfl⟩
  unfold pyNext
  refine wpAny_bind (wpAny_attempt (wpAny_callSpecial?_slot (name := Str.ofString "__next__") ty F.slot_enumerate_next ?_))
  refine wpAny_call_entry F.slot_enumerate_next ty F.entry_enumerate_next ?_ (F.args_enumerate_next_1 _)
  show wpAny _ _ (field (.ref e) 2 >>= _) _ _ _
  refine wpAny_bind (wpAny_field he rfl (x := .ref it) rfl ?_)
  refine wpAny_bind (wpAny_mono inner (fun _ _ z => z.elim) ?_)
  rintro ex s1 ⟨a, o, rfl, ho, hc, q⟩
  refine wpAny_bind (wpAny_isInstance (T := "StopIteration") (b := true) ⟨o, ho, hc⟩ isSubtype_stop ?_)
  exact wpAny_pure q
end
section
variable {prog : Program} {w : World} {A : Around} {E : Value → Shared → Prop} {s : Shared}
end

end Cf

set_option Elab.async false
set_option linter.all false
set_option maxRecDepth 100000
namespace Cf
open PySem PySem.Spec PyProof.Rows L2
/-! ### enumerate(t), t a tuple -/
open AutoSeq1 in
theorem new_enum_tup (t : Addr) (items : Array Value) (o : Obj) :
    Meets (Builtin.«enumerate.__new__» ⟨[.type "enumerate", .ref t], []⟩) (fun _ R s => s.heap.get? t = some o ∧ s.heap.IsTuple t items ∧
      R (.ok (.ret (.ref (s.heap.push { cls := .type "tuple_iterator", data := .fields #[.ref t, .int 0 0] }).objs.size)))
        { s with heap := (s.heap.push { cls := .type "tuple_iterator", data := .fields #[.ref t, .int 0 0] }).push { cls := .type "enumerate", data := .fields #[.none, .bool false, .ref s.heap.objs.size, rawInt 0, .none, .none] } }) :=
  .of_wp fun prog w A R s h => by
    obtain ⟨hp, gn, dd, tk, os⟩ := s
    obtain ⟨ho, ht, h⟩ := h
    have sub := sub_enumerate
    have hT : Heap.IsTuple (Shared.heap ⟨hp, gn, dd, tk, os⟩) t items := ht
    wp_walk using wpAny_loadPart' ho
    refine wpAny_stack_any fun st => wpAny_pure ?_
    split
    · rename_i c _ _ _ _ _
      cases (c == Value.type "enumerate") <;>
        (wp_walk using wpAny_loadPart' ho, wpAny_pyIter_tuple hT
         exact ⟨_, rfl, h⟩)
    · wp_walk using wpAny_loadPart' ho, wpAny_pyIter_tuple hT
      exact ⟨_, rfl, h⟩

section
variable {prog : Program} {w : World} {A : Around} {E : Value → Shared → Prop} {s : Shared}
theorem call_enum_tup {t : Addr} {items : Array Value} {Q : Value → Shared → Prop} (ht : s.heap.IsTuple t items)
    (h : ∀ h', IsEnum h' (s.heap.objs.size + 1) s.heap.objs.size 0 .none → h'.IsTupleIter s.heap.objs.size t 0 →
      (∀ b o, s.heap.get? b = some o → h'.get? b = some o) → Q (.ref (s.heap.objs.size + 1)) { s with heap := h' }) :
    wpAny (model prog w) A (call (.type "enumerate") [.ref t]) Q E s := by
  obtain ⟨o, ho, _⟩ := id ht
  refine callType_new F.called_enumerate (by decide) (F.typeCall_enumerate_1 _) (F.newCall_enumerate_1 _)
    (fun obj => F.args_object_init_2 obj _) F.entry_enumerate_new (new_enum_tup t items o) ⟨ho, ht, ?_⟩
  have hz : (s.heap.push { cls := .type "tuple_iterator", data := .fields #[.ref t, .int 0 0] }).objs.size = s.heap.objs.size + 1 := Heap.size_push ..
  show _ ∧ _
  rw [hz]
  have he : IsEnum ((s.heap.push { cls := .type "tuple_iterator", data := .fields #[.ref t, .int 0 0] }).push { cls := .type "enumerate", data := .fields #[.none, .bool false, .ref s.heap.objs.size, rawInt 0, .none, .none] }) (s.heap.objs.size + 1) s.heap.objs.size 0 .none := by
    rw [← hz]
    exact Heap.get?_push_size _ rfl
  refine ⟨⟨_, he, rfl⟩, h _ he ?_ fun b o q => Heap.get?_push_of_some _ (Heap.get?_push_of_some _ q)⟩
  exact ⟨_, Heap.get?_push_of_some _ (Heap.get?_push_size _ rfl), rfl, rfl⟩
end
def Itet (K : PySem.W.Frag) (a : Addr) : It where
  go := fun i H => ∃ xs x, SqT K H a xs ∧ xs[i]? = some x
  yld := fun i H v H' => ∃ T x, v = .ref T ∧ H T = none ∧ Kp [] H H' ∧ H' T = some (.tup [.int (i : Nat), x]) ∧ ∀ xs, SqT K H a xs → xs[i]? = some x
  stop := fun i H => ∃ xs, SqT K H a xs ∧ xs.length ≤ i
theorem turn_et {P : Program} {w : World} {K : PySem.W.Frag} {elts : List Expr} {kk : Nat} {tpos : Pos} (a e it : Addr) (ne : e ≠ it) (na : a ≠ e) :
    Turn P w K (.Tuple elts kk tpos) (Itet K a) [e, it] e (fun i h => (∃ old, IsEnum h e it ((i : Nat) : Int) old) ∧ h.IsTupleIter it a i) where
  mem := List.mem_cons_self
  obj := by
    rintro i h ⟨⟨old, he⟩, ⟨o, ho, _, hd⟩⟩ c hc
    simp only [List.mem_cons, List.not_mem_nil, or_false] at hc
    rcases hc with rfl | rfl
    · exact ⟨_, he, fun v q => nomatch q⟩
    · exact ⟨o, ho, fun v q => by rw [hd] at q; cases q⟩
  keep := by
    rintro i h h' ⟨⟨old, he⟩, hi⟩ k
    exact ⟨⟨old, k e (by simp) _ he⟩, hi.at fun o q => k it (by simp) o q⟩
  item := by
    intro X hP hw hK hc i pins s σ H E I hf st hg
    subst hP hw hK
    obtain ⟨⟨old, he⟩, hit⟩ := st
    obtain ⟨xs, x, hq, hx⟩ := hg
    obtain ⟨its, rv, p, _⟩ := I.tuple hq
    obtain ⟨u, hu, ru⟩ := rv.get hx
    have lt : ∀ c ∈ [e, it], c < s.heap.objs.size := by
      intro c hc
      simp only [List.mem_cons, List.not_mem_nil, or_false] at hc
      rcases hc with rfl | rfl
      · exact Heap.lt_size he
      · obtain ⟨_, q, _⟩ := hit
        exact Heap.lt_size q
    refine next_enum he (PySem.wpAny_nextOf_tuple_item hit (show s.heap.IsTuple a its.toArray from p) (x := u) (by simpa using hu) ?_)
    intro g1 hit1 same1
    refine ⟨(same1.2 e ne).trans he, ?_⟩
    intro g2 E2 T2 size2 kept2
    refine ⟨_, rfl, wpAny_letOwnedTupleGo_enum (s := { s with heap := g2, toks := s.toks + 1 }) E2 ?_⟩
    intro g3 E3 same3
    replace same3 : Heap.SameBut e g2 g3 := same3
    have size1 : g1.objs.size = s.heap.objs.size := same1.1
    have ltE : e < g1.objs.size := by
      rw [size1]
      exact lt e (List.mem_cons_self)
    have T3 : g3.get? s.heap.objs.size = some { cls := .type "tuple", data := .seq #[.int i s.toks, u] } := by
      rw [← size1]
      exact (same3.2 _ (Nat.ne_of_gt ltE)).trans T2
    have hn : H s.heap.objs.size = none := I.hok.fresh (Nat.le_refl _)
    have I2 : L2.Inv X pins σ (upd H s.heap.objs.size (.tup [.int (i : Nat), x])) { s with heap := g3, toks := s.toks + 1 } := by
      refine I.turnedNew (ch := [e, it]) ?_ hf (Nat.le_refl _) ?_
      · intro c o hc q
        have hce : c ≠ e := fun z => hc (by simp [z])
        have hci : c ≠ it := fun z => hc (by simp [z])
        exact (same3.2 c hce).trans (kept2 c o hce ((same1.2 c hci).trans q))
      · exact ⟨by show 2 ≤ sizeLine; decide, [.int i s.toks, u], .cons ⟨_, rfl⟩ (.cons ru .nil), ⟨_, T3, rfl, _, rfl⟩⟩
    have eT : Value.ref g1.objs.size = Value.ref s.heap.objs.size := by rw [size1]
    refine ⟨.ref s.heap.objs.size, _, I2, eT, ⟨_, x, rfl, hn, Kp.new hn, upd_same, ?_⟩, ⟨⟨u, ?_⟩, ?_⟩, ?_⟩
    · intro l hl
      rw [I.tuple_inj hl hq]
      exact hx
    · rw [show ((i + 1 : Nat) : Int) = (i : Int) + 1 by omega]
      exact E3
    · exact hit1.at fun o q => (same3.2 it ne.symm).trans (kept2 it o ne.symm q)
    · intro c hc
      rw [upd_ne (Nat.ne_of_lt (lt c hc))]
      exact (hf c hc).1
  done := by
    intro X hP hw hK hc i pins s σ H E I hf st hg
    subst hP hw hK
    obtain ⟨⟨old, he⟩, hit⟩ := st
    obtain ⟨xs, hq, hl⟩ := hg
    obtain ⟨its, rv, p, _⟩ := I.tuple hq
    have n1 := rv.length
    refine next_enum_end he (PySem.wpAny_nextOf_tuple_end (I.ok.hd hc) hit (show s.heap.IsTuple a its.toArray from p) (by simp; omega) ?_)
    rintro g1 ex kept ⟨o, ho, hcl⟩
    refine ⟨ex, o, rfl, ho, hcl, rfl, ?_⟩
    refine I.turnedL (t' := s.toks) (ch := [e, it]) ?_ hf
    intro c ob hb q
    exact kept c ob (fun z => hb (by simp [z])) q
  self := by
    rintro A i s Q E ⟨⟨old, he⟩, _⟩ h
    exact wpAny_pyIter_enum he h
def iEt (K : PySem.W.Frag) (ta : TA) : TI := fun σ H R => ta σ H fun vs H1 => ∃ a xs, vs = [.ref a] ∧ SqT K H1 a xs ∧ R (Itet K a) H1
theorem pi_et {X : Cx} {e : Expr} {ta : TA} {p pos tpos : Pos} {elts : List Expr} {kk : Nat} (hg : Gl X "enumerate") (hm : X.mg "enumerate" = none)
    (ha : PA X [e] ta) (hs : starEach [e] X.env = [(false, eval e X.env)] := by rfl) :
    PI X (.Tuple elts kk tpos) (.Call (.Name "enumerate" p) [e] [] pos) (iEt X.K ta) := by
  refine ⟨fun pins s σ H R I h => ?_⟩
  refine Call_ (ld_blt I hg hm PyProof.Rows.boot_enumerate (PyProof.Rows.callWith_type1 (thn (ha.run pos pins s σ H _ I h) ?_) hs rfl))
  rintro us s1 ⟨vs, H1, I1, r1, a, xs, ex, hq, q⟩
  subst ex
  cases r1 with
  | cons r rr =>
    cases rr
    cases r
    obtain ⟨its, rv, p1, _⟩ := I1.tuple hq
    refine call_enum_tup (show s1.heap.IsTuple a its.toArray from p1) ?_
    intro g1 he hit kept
    refine wpAny_pyIter_enum he ?_
    have I2 : L2.Inv X pins σ H1 { s1 with heap := g1 } := I1.kept (t' := s1.toks) kept
    have la : a < s1.heap.objs.size := by
      obtain ⟨o, ho, _⟩ := p1
      exact Heap.lt_size ho
    refine ⟨s1.heap.objs.size + 1, [s1.heap.objs.size + 1, s1.heap.objs.size], _, Itet X.K a, H1, rfl, I2,
      turn_et a (s1.heap.objs.size + 1) s1.heap.objs.size (Nat.succ_ne_self _) (Nat.ne_of_lt (Nat.lt_succ_of_lt la)), ⟨⟨.none, he⟩, hit⟩, ?_, q⟩
    intro c hc
    have hle : s1.heap.objs.size ≤ c := by
      simp only [List.mem_cons, List.not_mem_nil, or_false] at hc
      rcases hc with rfl | rfl
      · exact Nat.le_add_right _ _
      · exact Nat.le_refl _
    exact I1.fpOk hle (I1.hok.fresh hle)
theorem walk_et {K : PySem.W.Frag} {a : Addr} {ns : List Int} : Walk (Itet K a) ns.length (fun H => SqT K H a (ns.map V.int)) (YE ns) := by
  refine ⟨fun i H hi q => ⟨_, _, q, getD_map hi⟩, fun H q => ⟨_, q, by rw [List.length_map]; exact Nat.le_refl _⟩, ?_⟩
  rintro i H x H' hi q ⟨T, x1, e, n, kp, hT, e1⟩
  have z1 := getD_at hi (e1 _ q)
  subst z1
  exact ⟨T, e, n, kp, hT⟩
end Cf

set_option Elab.async false
set_option linter.all false
set_option maxRecDepth 100000
namespace Cf
open PySem PySem.Spec PyProof.Rows L2
/-! ### sorted, sum, min, max of a tuple of ints -/
section
variable {prog : Program} {w : World} {A : Around} {E : Value → Shared → Prop} {s : Shared} {l : Addr}
theorem collect_tup {vs : List Value} {Q : List Value → Shared → Prop} (hl : s.heap.IsTuple l vs.toArray) (hsz : vs.length ≤ sizeLine)
    (h : Q vs { s with heap := (s.heap.push (seqObj "list" #[] 0)).update s.heap.objs.size (Obj.mapSeq (· ++ vs.toArray)) }) :
    wpAny (model prog w) A (collect (.ref l)) Q E s := by
  obtain ⟨o, ho, hc, n, hd⟩ := id hl
  unfold collect
  refine wpAny_bind (wpAny_runValue (codeAny_builtin entry_proto_collect' ?_))
  show wpAny _ _ (do again (.builtin "list.__iadd__" ⟨[← newList [], .ref l], []⟩)) _ _ s
  refine wpAny_bind (wpAny_newList (wpAny_pure ⟨Code.quiet_builtin _ (by decide +kernel), codeAny_builtin entry_list_iadd' ?_⟩))
  show wpAny _ _ (Builtin.List.listExtendWith (.ref s.heap.objs.size) (.ref l) (.ref s.heap.objs.size)) _ _ { s with heap := s.heap.push (seqObj "list" #[] 0) }
  unfold Builtin.List.listExtendWith
  have hp : (s.heap.push (seqObj "list" #[] 0)).get? l = some o := Heap.get?_push_of_some _ ho
  refine wpAny_bind (wpAny_typeOf (T := "tuple") ⟨o, hp, hc⟩ ?_)
  rw [if_pos (by simp)]
  refine wpAny_bind (listItems_at hp hd ?_)
  refine wpAny_bind (listItems_at (xs := #[]) (n := 0) (Heap.get?_push_size _ rfl) rfl ?_)
  rw [if_neg (by simp)]
  refine wpAny_bind (listUpdate_at (xs := #[]) (n := 0) (Heap.get?_push_size _ rfl) rfl ?_ (Nat.zero_le _) ?_)
  · refine wpAny_pure ?_
    show wpAny (model prog w) A (do
      let o ← load s.heap.objs.size
      match o.data with
      | .seq xs _ => pure xs.toList
      | _ => unsupported "internal:collect") Q E _
    refine wpAny_bind (wpAny_load (get?_update_seq (Heap.get?_push_size _ rfl) _) ?_)
    show wpAny _ _ (pure ((#[] : Array Value) ++ vs.toArray).toList) Q E _
    rw [show ((#[] : Array Value) ++ vs.toArray).toList = vs by simp]
    exact wpAny_pure h
  · show (#[] ++ vs.toArray).size ≤ sizeLine + 1
    simp only [Array.size_append, List.size_toArray, List.length_nil]
    omega
theorem sorted_tup {vs : List Value} {ltv : Value → Value → Bool} {Q : Value → Shared → Prop} (O : SrtO.Swo ltv) (hl : s.heap.IsTuple l vs.toArray) (hz : vs.length ≤ sizeLine)
    (hS : 2 ≤ vs.length → ∀ (h1 : Heap) (a : Addr), h1.get? a = some (seqObj "list" vs.toArray 0) → SrtO.SortableO prog w A.in1.in1 { s with heap := h1 } a vs ltv)
    (h : ∀ out : List Value, SrtO.Srtd ltv out → SrtO.Stb ltv out vs → Q (.ref (s.heap.objs.size + 1)) { s with heap := sortedAll s.heap vs out.toArray }) :
    wpAny (model prog w) A (call (.builtin "sorted") [.ref l]) Q E s := by
  refine Calls.call_function_entry kind_sorted plain_sorted entry_sorted (args_sorted1 _) ?_
  unfold Builtin.«sorted»
  refine wpAny_bind (m := checkCount "sorted" 1 1 _) (wpAny_pure ?_)
  refine wpAny_bind (collect_tup hl hz ?_)
  refine wpAny_bind (wpAny_newList ?_ hz)
  have size1 : ((s.heap.push (seqObj "list" #[] 0)).update s.heap.objs.size (Obj.mapSeq (· ++ vs.toArray))).objs.size = s.heap.objs.size + 1 := by
    rw [Heap.size_update, Heap.size_push]
  have new : (((s.heap.push (seqObj "list" #[] 0)).update s.heap.objs.size (Obj.mapSeq (· ++ vs.toArray))).push (seqObj "list" vs.toArray 0)).get? (s.heap.objs.size + 1) = some (seqObj "list" vs.toArray 0) := by
    rw [← size1]
    exact Heap.get?_push_size _ rfl
  show wpAny _ _ _ _ _ { s with heap := ((s.heap.push (seqObj "list" #[] 0)).update s.heap.objs.size (Obj.mapSeq (· ++ vs.toArray))).push (seqObj "list" vs.toArray 0) }
  rw [size1]
  refine wpAny_bind (wpAny_holding (wpAny_call_entry slot_list_sort ⟨_, new, rfl⟩ entry_list_sort ?_ (args_list_sort _)))
  refine SrtO.list_sort_ord O new hz (fun h2 => hS h2 _ _ new) fun out hs hb => ⟨_, rfl, ?_⟩
  exact wpAny_pure ⟨_, rfl, h out hs hb⟩
end
section
variable {X : Cx}
theorem cr_srtT : CallR X (.builtin "sorted") (fun vs H Q => ∃ p, ∃ ns : List Int, vs = [.ref p] ∧ SqT X.K H p (ns.map V.int) ∧ ∀ ms : List Int, ms.Perm ns → ms.Pairwise (· ≤ ·) → New H (.lst (ms.map V.int)) Q) := by
  intro pins s σ H vs us Q I r h
  obtain ⟨a, ns, rfl, hs, q⟩ := h
  obtain ⟨its, rv, hl, hz⟩ := I.tuple hs
  rw [Vals.ref1 r]
  have hi := rv.ints
  refine sorted_tup SrtO.swo_int hl (by rw [← rv.length]; exact hz) (fun h2 h₁ a' _ => SrtO.ints_sortable hi h2) fun out h1 h2 => ?_
  obtain ⟨k1, k2, k3⟩ := SrtO.ints_out hi h1 h2
  obtain ⟨ep, he⟩ := PyProof.Rows.sortedAll_at s.heap its out.toArray
  have hlen : ((out.map SrtO.iv).map V.int).length ≤ sizeLine := by
    rw [List.length_map, k2.length_eq]
    rw [List.length_map] at hz
    exact hz
  have fresh : H (s.heap.objs.size + 1) = none := I.hok.fresh (Nat.le_succ _)
  refine ⟨.ref _, upd H (s.heap.objs.size + 1) (.lst ((out.map SrtO.iv).map V.int)), ?_, rfl, (q _ k2 k3).go _ fresh⟩
  exact I.laid (t' := s.toks) (fun _ _ => PyProof.Rows.sortedAll_old) (Nat.le_succ _) ⟨hlen, out, ep, vals_of_ints k1, he⟩
/-- sorted(x) of a list or a tuple of ints -/
theorem cr_srt : CallR X (.builtin "sorted") (fun vs H Q => ∃ p, ∃ ns : List Int, vs = [.ref p] ∧ (SqL X.K H p (ns.map V.int) ∨ SqT X.K H p (ns.map V.int)) ∧ ∀ ms : List Int, ms.Perm ns → ms.Pairwise (· ≤ ·) → New H (.lst (ms.map V.int)) Q) := by
  intro pins s σ H vs us Q I r h
  obtain ⟨a, ns, e, hs, q⟩ := h
  rcases hs with hs | hs
  · exact cr_srtL pins s σ H vs us Q I r ⟨a, ns, e, hs, q⟩
  · exact cr_srtT pins s σ H vs us Q I r ⟨a, ns, e, hs, q⟩
end

section
variable {prog : Program} {w : World} {A : Around} {E : Value → Shared → Prop} {s : Shared} {l : Addr} {xs : Array (Int × Tok)}
end
section
variable {X : Cx}
end
section
variable {X : Cx}
end
/-! ### the same, the written part by its name -/
section
variable {X : Cx}
theorem ix_liK {K : PySem.W.Frag} (e : X.K = K)  : IxR X (rIxI (SqL K)) := by
  subst e
  exact ix_li 
theorem ix_tiK {K : PySem.W.Frag} (e : X.K = K)  : IxR X (rIxI (SqT K)) := by
  subst e
  exact ix_ti 
theorem ix_lvK {K : PySem.W.Frag} (e : X.K = K)  : IxR X (rIxV (SqL K)) := by
  subst e
  exact ix_lv 
theorem call_len_seqK {K : PySem.W.Frag} (e : X.K = K)  : CallR X (.builtin "len") (fun xs H Q => ∃ p ys, xs = [.ref p] ∧ (SqL K H p ys ∨ SqT K H p ys) ∧ Q (.int ys.length) H) := by
  subst e
  exact call_len_seq 
theorem sl_liToK {K : PySem.W.Frag} (e : X.K = K)  : SlR X (fun x lo hi H Q => ∃ p, ∃ ns : List Int, ∃ k : Int, x = .ref p ∧ lo = none ∧ hi = some k ∧ SqL K H p (ns.map V.int) ∧ 0 ≤ k ∧ New H (.lst ((ns.take k.toNat).map V.int)) Q) := by
  subst e
  exact sl_liTo 
theorem call_tupLK {K : PySem.W.Frag} (e : X.K = K)  : CallR X (.type "tuple") (fun vs H Q => ∃ p xs, vs = [.ref p] ∧ SqL K H p xs ∧ New H (.tup xs) Q) := by
  subst e
  exact call_tupL 
theorem cr_srtLK {K : PySem.W.Frag} (e : X.K = K)  : CallR X (.builtin "sorted") (fun vs H Q => ∃ p, ∃ ns : List Int, vs = [.ref p] ∧ SqL K H p (ns.map V.int) ∧ ∀ ms : List Int, ms.Perm ns → ms.Pairwise (· ≤ ·) → New H (.lst (ms.map V.int)) Q) := by
  subst e
  exact cr_srtL 
theorem cr_srtK {K : PySem.W.Frag} (e : X.K = K)  : CallR X (.builtin "sorted") (fun vs H Q => ∃ p, ∃ ns : List Int, vs = [.ref p] ∧ (SqL K H p (ns.map V.int) ∨ SqT K H p (ns.map V.int)) ∧ ∀ ms : List Int, ms.Perm ns → ms.Pairwise (· ≤ ·) → New H (.lst (ms.map V.int)) Q) := by
  subst e
  exact cr_srt 
theorem cr_allK {K : PySem.W.Frag} (e : X.K = K) (hc : X.calm = true) : CallR X (.builtin "all") (rAll K) := by
  subst e
  exact cr_all hc
end
section
variable {X : Cx}
end
section
variable {X : Cx}
theorem cut_drop (xs : List V) (k : Nat) : cutV xs (some (k : Int)) none = xs.drop k := by
  unfold cutV
  rw [HT.sIx_none, HT.sIx_nat]
  rcases Nat.le_total k xs.length with h | h
  · rw [Nat.min_eq_left h, List.take_of_length_le (by rw [List.length_drop]; exact Nat.le_refl _)]
  · rw [Nat.min_eq_right h, List.drop_eq_nil_of_le (Nat.le_refl _), List.drop_eq_nil_of_le h, List.take_nil]
end
end Cf

set_option Elab.async false
set_option linter.all false
set_option maxRecDepth 100000
namespace Cf
open PySem PySem.Spec PyProof.Rows L2
section
variable {X : Cx}
end
end Cf

set_option Elab.async false
set_option linter.all false
set_option maxRecDepth 100000
namespace Cf
open PySem PySem.Spec PyProof.Rows L2
section
variable {X : Cx}
/-- a statement that is never reached -/
theorem ps_never {st : Stmt} : PS X st (fun _ _ _ => False) := ⟨fun _ _ _ _ _ _ h => h.elim⟩
/-- isinstance(x, T), T a built-in type -/
theorem call_isiB {K : PySem.W.Frag} (e : X.K = K) : CallR X (.builtin "isinstance") (fun xs H Q => ∃ (x : V) (a T : String) (b : Bool), xs = [x, .ty T] ∧ TyX K H x (.type a) ∧ kitB a T = some b ∧ Q (.bl b) H) := by
  subst e
  exact call_imp call_isi fun xs H Q ⟨x, a, T, b, ex, ty, h, q⟩ => ⟨x, _, _, _, b, ex, .ty T, ty, kit_ty h, q⟩
/-- the numbers from 0 on -/
def upto (n : Nat) : List Int := (List.range n).map fun i : Nat => (i : Int)
theorem upto_len (n : Nat) : (upto n).length = n := by simp [upto]
theorem rgV_upto (n : Nat) : rgV 0 (n : Int) = (upto n).map V.int := by
  unfold rgV upto
  rw [show ((n : Int) - 0).toNat = n by omega, List.map_map]
  refine List.map_congr_left fun i _ => ?_
  show V.int (0 + (i : Int)) = V.int (i : Int)
  rw [Int.zero_add]
/-- list(range(n)) -/
def tLstUp (ta : TE) : TE := fun σ H Q => ta σ H fun x H1 => ∃ n : Nat, x = .int (n : Int) ∧ n ≤ 1000 ∧ New H1 (.lst ((upto n).map V.int)) Q
theorem pe_listUp {a : Expr} {ta : TE} {p p2 pos pos2 : Pos} (hc : X.calm = true) (hg : Gl X "list") (hm : X.mg "list" = none) (hg2 : Gl X "range") (hm2 : X.mg "range" = none) (ha : PE X a ta)
    (na : starEach [Expr.Call (.Name "range" p2) [a] [] pos2] X.env = (false, eval (Expr.Call (.Name "range" p2) [a] [] pos2) X.env) :: starEach [] X.env := by rfl)
    (nb : starEach [a] X.env = (false, eval a X.env) :: starEach [] X.env := by rfl) :
    PE X (.Call (.Name "list" p) [.Call (.Name "range" p2) [a] [] pos2] [] pos) (tLstUp ta) :=
  pe_imp (pe_listRg hc hg hm (prg_1 hg2 hm2 (pe_up ha) nb) na) fun σ H Q h => ⟨_, h, fun v H1 ⟨n, ev, hn, w⟩ => ⟨(n : Int), ev, RgOk.of_le (by omega) (by omega) (by omega) (by omega), fun q nq => by
    rw [rgV_upto]
    exact w.go q nq⟩⟩
end

/-- a tuple that was laid by the program: it has no names of its own -/
def PlT (H : Hp) (p : Addr) : Prop := ∃ o u, H p = some (.frz o u) ∧ o.dict = none
theorem PlT.kp0 {H H' : Hp} {p : Addr} (k : Kp [] H H') (h : PlT H p) : PlT H' p := by
  obtain ⟨o, u, e, d⟩ := h
  exact ⟨o, u, k.at0 e, d⟩
theorem PlT.kp1 {H H' : Hp} {p b : Addr} (k : Kp [b] H H') (n : p ≠ b) (h : PlT H p) : PlT H' p := by
  obtain ⟨o, u, e, d⟩ := h
  exact ⟨o, u, k.at1 n e, d⟩
theorem PlT.lst1 {H H' : Hp} {p b : Addr} {xs : List V} (k : Kp [b] H H') (hb : H b = some (.lst xs)) (h : PlT H p) : PlT H' p := by
  refine h.kp1 k fun z => ?_
  obtain ⟨o, u, e, d⟩ := h
  rw [z, hb] at e
  cases e
theorem PlT.md {H H' : Hp} {p b : Addr} {xs : List V} (k : Md b H H') (hb : H b = some (.lst xs)) (h : PlT H p) : PlT H' p := h.lst1 k.kp hb
/-- laid where nothing was: a tuple, its object known -/
def NewF (H : Hp) (xs : List V) (Q : V → Hp → Prop) : Prop := ∀ p H1 o, H p = none → Kp [] H H1 → o.dict = none → H1 p = some (.frz o (.tup xs)) → Q (.ref p) H1
theorem sqF {K : PySem.W.Frag} {H : Hp} {p : Addr} {o : Obj} {xs : List V} (h : H p = some (.frz o (.tup xs))) : SqT K H p xs := .inl (.inr ⟨o, h⟩)
theorem plF {H : Hp} {p : Addr} {o : Obj} {xs : List V} (d : o.dict = none) (h : H p = some (.frz o (.tup xs))) : PlT H p := ⟨o, _, h, d⟩
section
variable {X : Cx}
theorem call_tupF {K : PySem.W.Frag} (e : X.K = K) : CallR X (.type "tuple") (fun vs H Q => ∃ p xs, vs = [.ref p] ∧ SqL K H p xs ∧ NewF H xs Q) := by
  subst e
  intro pins s σ H vs us Q I r h
  obtain ⟨p, xs, rfl, hq, w⟩ := h
  obtain ⟨u, rfl, rx⟩ := vals1 r
  cases rx
  obtain ⟨its, rv, pl, hz⟩ := I.list hq
  have hlen := rv.length
  refine call_tuple_list pl.isList (fun h1 kp => ?_) (by simp only [List.size_toArray] <;> omega)
  have J : Inv X pins σ H { s with heap := h1 } := I.kept (t' := s.toks) kp
  have fresh : H h1.objs.size = none := J.hok.fresh (Nat.le_refl _)
  have J2 : Inv X pins σ (upd H h1.objs.size (.frz { cls := .type "tuple", data := .seq its.toArray } (.tup xs))) { s with heap := h1.push { cls := .type "tuple", data := .seq its.toArray } } :=
    J.laid (t' := s.toks) (fun b o q => Heap.get?_push_of_some _ q) (Nat.le_refl _)
      (show ObjOk X.prog X.w _ _ _ (.frz _ (.tup xs)) from ⟨Heap.get?_push_size _ rfl, hz, its, rv, IsTup.new _ _⟩)
  exact ⟨.ref h1.objs.size, _, J2, rfl, w _ _ _ fresh (Kp.new fresh) rfl upd_same⟩
end
end Cf

set_option Elab.async false
set_option linter.all false
set_option maxRecDepth 100000
namespace Cf
open PySem PySem.Spec PyProof.Rows L2
/-! ### zip of lists and tuples, mixed -/
section
variable {X : Cx} {pins : List (Addr × Obj)} {σ : L2.St} {H : Hp} {s : Shared} {b : Bool} {a it : Addr} {xs ys : List V}
end
end Cf

set_option Elab.async false
set_option linter.all false
set_option maxRecDepth 100000
namespace Cf
open PySem PySem.Spec PyProof.Rows L2
/-! ### tuples of ints, one after the other -/
def tupD (ns : List Int) : PyData := .tuple (ns.map PyData.int)
inductive Rw (K : PySem.W.Frag) (H : Hp) : List V → List (List Int) → Prop
  | nil : Rw K H [] []
  | cons {p : Addr} {ns : List Int} {xs : List V} {rs : List (List Int)} : SqT K H p (ns.map V.int) → Rw K H xs rs → Rw K H (.ref p :: xs) (ns :: rs)
section
variable {K : PySem.W.Frag} {H H' : Hp} {xs ys : List V} {rs ts : List (List Int)}
theorem Rw.go (e : ∀ p zs, SqT K H p zs → SqT K H' p zs) : ∀ {xs : List V} {rs : List (List Int)}, Rw K H xs rs → Rw K H' xs rs
  | _, _, .nil => .nil
  | _, _, .cons h t => .cons (e _ _ h) (t.go e)
theorem Rw.kp0 (h : Rw K H xs rs) (k : Kp [] H H') : Rw K H' xs rs := h.go fun _ _ z => k.tup0 z
theorem Rw.len : ∀ {xs : List V} {rs : List (List Int)}, Rw K H xs rs → xs.length = rs.length
  | _, _, .nil => rfl
  | _, _, .cons _ t => by rw [List.length_cons, List.length_cons, t.len]
theorem Rw.one {p : Addr} {ns : List Int} (h : SqT K H p (ns.map V.int)) : Rw K H [.ref p] [ns] := .cons h .nil
theorem Rw.get : ∀ {xs : List V} {rs : List (List Int)} {i : Nat} {x : V}, Rw K H xs rs → xs[i]? = some x → ∃ p, x = .ref p ∧ i < rs.length ∧ SqT K H p ((rs.getD i []).map V.int)
  | _, _, i, x, .nil, h => by simp at h
  | _, _, 0, x, .cons h t, e => ⟨_, (Option.some.inj e).symm, by simp, h⟩
  | _, _, i + 1, x, .cons h t, e => by
    obtain ⟨p, a, b, c⟩ := t.get (i := i) (x := x) (by simpa using e)
    exact ⟨p, a, by simpa using b, c⟩
theorem Rw.mem (h : Rw K H xs rs) {x : V} (hx : x ∈ xs) : ∃ p ns, x = .ref p ∧ ns ∈ rs ∧ SqT K H p (ns.map V.int) := by
  obtain ⟨i, hi, e⟩ := List.mem_iff_getElem.mp hx
  obtain ⟨p, a, b, c⟩ := h.get (i := i) (x := x) (by rw [List.getElem?_eq_getElem hi, e])
  refine ⟨p, _, a, ?_, c⟩
  rw [List.getD_eq_getElem?_getD, List.getElem?_eq_getElem b]
  exact List.getElem_mem b
theorem Rw.dp : ∀ {xs : List V} {rs : List (List Int)}, Rw K H xs rs → DpAll K H xs (rs.map tupD)
  | _, _, .nil => .nil
  | _, _, .cons h t => .cons (dp_ti h) t.dp
end
section
variable {X : Cx}
end
section
variable {X : Cx}
end
theorem ty_tup {K : PySem.W.Frag} {H : Hp} {p : Addr} {xs : List V} (h : SqT K H p xs) : TyX K H (.ref p) (.type "tuple") := by
  rcases h with (h | ⟨o, h⟩) | ⟨o, its, n, hk, hc, _⟩
  · exact .base (.tup h)
  · exact .fTuple h
  · exact .kTuple hk hc
end Cf

set_option Elab.async false
set_option linter.all false
set_option maxRecDepth 100000
namespace Cf
open PySem PySem.Spec PyProof.Rows L2
open LamX (CodeO TabS Tabs ExtN TabB lamEnv lamCx lam_make2)
open PySem.W (keyToks keyToksAll EachIs SortsAt dataKind AllAlike Sortable alike alikeAll)
/-! ### a lambda of one parameter -/
structure Lam1 (sc scope : Scope) (x : Str) : Prop where
  kind : scope.kind = .function
  co : scope.isCoroutine = false
  gen : scope.isGenerator = false
  par : scope.names.lookup x = some .local
  own : ∀ y ∈ scope.names, y.2 ≠ .cell ∧ (y.2 = .local → y.1 = x)
  free : ∀ y ∈ scope.names, y.2 = .free → sc.names.lookup y.1 = some .cell ∨ sc.names.lookup y.1 = some .free
def lam1B (sc scope : Scope) (x : Str) : Bool :=
  decide (scope.kind = .function) && !scope.isCoroutine && !scope.isGenerator && decide (scope.names.lookup x = some .local) &&
    scope.names.all fun y => !decide (y.2 = .cell) && (!decide (y.2 = .local) || decide (y.1 = x)) && (!decide (y.2 = .free) || (decide (sc.names.lookup y.1 = some .cell) || decide (sc.names.lookup y.1 = some .free)))
theorem lam1_by {sc scope : Scope} {x : Str} (h : lam1B sc scope x = true) : Lam1 sc scope x := by
  unfold lam1B at h
  simp only [Bool.and_eq_true, Bool.or_eq_true, Bool.not_eq_true', decide_eq_true_eq, decide_eq_false_iff_not, List.all_eq_true] at h
  obtain ⟨⟨⟨⟨h1, h2⟩, h3⟩, h4⟩, h5⟩ := h
  refine ⟨h1, h2, h3, h4, fun y hy => ⟨(h5 y hy).1.1, fun e => ?_⟩, fun y hy e => ?_⟩
  · rcases (h5 y hy).1.2 with z | z
    · exact absurd e z
    · exact z
  · rcases (h5 y hy).2 with z | z
    · exact absurd e z
    · exact z
/-- where the lambda's body is evaluated -/
def lamC (X : Cx) (A : Around) (outer : List Env) (s : Shared) (H : Hp) (scope : Scope) (f c' : Addr) : Cx :=
  { lamCx X A outer s H (fun _ _ _ => False) scope f c' with xe := fun _ _ => False }
section
variable {X : Cx} {pins : List (Addr × Obj)} {σ : L2.St} {H : Hp} {s : Shared}
theorem lam1_start {A : Around} {outer : List Env} {scope : Scope} {x : Str} {f c' : Addr} {h1 : Heap} {tk i : Nat} {v : V} {u : Value} (I : L2.Inv X pins σ H s) (L : Lam1 X.env.scope scope x) (hN : X.N.Nodup) (hi : X.N[i]? = some x)
    (e0 : Env0 X.prog X.w X.K X.mg X.base A outer s H) (hd : A.handled = none) (ru : RelV v u) (hns : h1.Ns s.heap.objs.size fun y => [(x, u)].reverse.lookup y)
    (kp : ∀ b o, s.heap.get? b = some o → h1.get? b = some o) : L2.Inv (lamC X A outer s H scope f c') [] (σ.set i (some v)) H { s with heap := h1, toks := tk } := by
  have there : ∀ y ∈ scope.names, y.2 = .free → ∃ c, X.env.cells.lookup y.1 = some c := by
    intro y hy e
    rcases L.free y hy e with z | z
    · exact I.ok.has _ (.inl z)
    · exact I.ok.has _ (.inr z)
  have back : ∀ {y : Str} {c : Addr}, (cloFrom X.env.cells scope.names []).lookup y = some c → X.env.cells.lookup y = some c := by
    intro y c e
    rcases cloFrom_mem (PySem.mem_of_lookup e) with hm | ⟨q1, q2⟩
    · cases hm
    · obtain ⟨c1, hc⟩ := there _ q1 rfl
      replace hc : X.env.cells.lookup y = some c1 := hc
      have ec : c = c1 := by
        rw [q2, hc] <;> rfl
      rw [ec]
      exact hc
  have caught : ∀ {y : Str}, scope.names.lookup y = some .free → ∃ c, (cloFrom X.env.cells scope.names []).lookup y = some c := by
    intro y hl
    have hy : (y, NameKind.free) ∈ scope.names := PySem.mem_of_lookup hl
    exact mem_lookup (cloFrom_has (cells := X.env.cells) (acc := []) hy)
  have cellK : ∀ {c : Addr} {z : Option Value}, s.heap.IsCell c z → h1.IsCell c z := by
    rintro c z ⟨o, ho, hd⟩
    exact ⟨o, kp _ _ ho, hd⟩
  have none : ∀ b : Addr, b ∉ (lamC X A outer s H scope f c').ex := fun b z => by
    have z : b ∈ ([] : List Addr) := z
    cases z
  have nocell : ∀ y, scope.names.lookup y ≠ some .cell := fun y hl => (L.own _ (PySem.mem_of_lookup hl)).1 rfl
  refine ⟨⟨e0.mod, L.kind, rfl, rfl, Nat.le_refl _, fun y z c e1 e2 => I.ok.inj y z c (back e1) (back e2), ?has, ?cab, fun _ => hd, Around.frames_deeper e0.frames, .inr ⟨rfl, rfl⟩,
      fun b z => absurd z (none b), e0.bs, e0.bsz, fun b _ _ => none b, fun b z => absurd z (none b), e0.funs, e0.frf⟩,
    rfl, e0.bare, Un.kept kp, ⟨_, hns, ?loc⟩, ?cell, e0.hok.fresh (Nat.le_refl _), ?freeC, ?pin, e0.hok.kept kp, by rw [List.length_set]; exact I.len⟩
  case has =>
    intro y hy
    have hy : scope.names.lookup y = some .cell ∨ scope.names.lookup y = some .free := hy
    rcases hy with hy | hy
    · exact absurd hy (nocell y)
    · exact caught hy
  case cab =>
    intro y c z _
    have z : false = true := z
    cases z
  case loc =>
    intro j y z e1 e2 e3
    have e1 : X.N[j]? = some y := e1
    have e3 : Vis scope y := e3
    rcases e3 with k | k | k
    · -- the parameter
      have ey : y = x := (L.own _ (PySem.mem_of_lookup k)).2 rfl
      subst ey
      have ej : j = i := by
        exact (List.getElem?_inj (List.getElem?_eq_some_iff.mp e1).1 hN).mp (e1.trans hi.symm)
      subst ej
      have hl : j < σ.length := by
        rw [I.len]
        exact (List.getElem?_eq_some_iff.mp e1).1
      rw [List.getElem?_set_self hl] at e2
      have ez : v = z := Option.some.inj (Option.some.inj e2)
      subst ez
      refine ⟨u, ru, .inl ⟨k, ?_⟩⟩
      simp [List.lookup]
    · exact absurd k (nocell y)
    · have ny : y ≠ x := fun e => by
        rw [e, L.par] at k
        cases k
      have nj : i ≠ j := fun e => by
        rw [← e, hi] at e1
        exact ny (Option.some.inj e1).symm
      rw [List.getElem?_set_ne nj] at e2
      obtain ⟨m, hn, hl⟩ := I.loc
      have hvis : Vis X.env.scope y := by
        rcases L.free _ (PySem.mem_of_lookup k) rfl with q | q
        · exact .inr (.inl q)
        · exact .inr (.inr q)
      obtain ⟨w1, r1, q1⟩ := hl j y z e1 e2 hvis
      obtain ⟨c2, h2⟩ := caught k
      refine ⟨w1, r1, .inr ⟨.inr k, c2, h2, ?_⟩⟩
      have c1 := back h2
      rcases q1 with ⟨k1, _⟩ | ⟨_, c3, e4, z4⟩
      · replace k1 : X.env.scope.names.lookup y = some .local := k1
        rcases L.free _ (PySem.mem_of_lookup k) rfl with k2 | k2
        · replace k2 : X.env.scope.names.lookup y = some .cell := k2
          rw [k2] at k1
          cases k1
        · replace k2 : X.env.scope.names.lookup y = some .free := k2
          rw [k2] at k1
          cases k1
      · rw [c1] at e4
        cases e4
        exact cellK z4
  case cell =>
    intro y c e
    obtain ⟨w1, z⟩ := I.cell y c (back e)
    exact ⟨w1, cellK z⟩
  case freeC =>
    intro y c e
    exact I.freeC y c (back e)
  case pin =>
    intro q hq
    have hq : q ∈ ([] : List (Addr × Obj)) ++ [] := hq
    cases hq
/-- the lambda, called inside a built-in that X's def calls -/
theorem lam1_call {k i : Nat} {f c' : Addr} {pm ctv : Value} {params : Arguments} {body : Expr} {scope : Scope} {x : Str} {tb : TE} {v : V} {u : Value} {Q : VK} {E : Value → Shared → Prop}
    (I : L2.Inv X pins σ H s) (L : Lam1 X.env.scope scope x) (hN : X.N.Nodup) (hi : X.N[i]? = some x) (hr : Room (k + 3) X.A)
    (hf : s.heap.get? f = some (PySem.W.kla_obj "<lambda>" (X.env.qual ++ "<lambda>") params body scope (cloFrom X.env.cells scope.names []) pm c' ctv))
    (hc : ∃ (oc : Obj) (vs : Array Value) (t : Tok), s.heap.get? c' = some oc ∧ oc.data = .fields vs ∧ vs[1]? = some (.str (X.env.qual ++ "<lambda>") t))
    (hbind : bindArgs (PySem.W.kla_fn "<lambda>" (X.env.qual ++ "<lambda>") params body scope (cloFrom X.env.cells scope.names []) pm (.ref c') ctv) ⟨[u], []⟩ = pure [(x, u)])
    (hbody : PE (lamC X X.A.in1.in1 X.stack s H scope f c') body tb) (ru : RelV v u) (ht : tb (σ.set i (some v)) H Q) :
    wpAny (model X.prog X.w) X.A.in1.in1 (call (.ref f) [u]) (fun y s' => ∃ z H', L2.Inv X pins σ H' s' ∧ RelV z y ∧ Q z H' ∧ Un (frs X.stack) [] H H' s.heap s'.heap) E s := by
  have hr2 : Room (k + 1) X.A.in1.in1 := (hr.in1).in1
  obtain ⟨oc, vs, t, hoc, hdc, hvc⟩ := hc
  have e0 := I.env0.in1.in1
  have run : codeAny (model X.prog X.w) X.A.in1.in1 (.call (.ref f) ⟨[u], []⟩) (CR CX0 X.stack X.prog X.w H s Q E0) s := by
    refine PySem.W.kla_callFunE hr2.depth hf rfl L.co L.gen rfl ⟨c', oc, vs, t, rfl, hoc, hdc, hvc⟩ ?_
    rw [hbind]
    refine wpAny_pure (wpAny_newFunctionEnv (fun y hy => (L.own y hy).1) (fun y hy => ?_) (fun h1 hns hsb => ⟨I.nolimit.fresh _ hsb, ?_⟩) L.kind)
    · rw [List.mem_singleton.mp hy]
      exact L.par
    · show codeAny _ _ (.expr body (lamEnv X scope s.heap.objs.size f c')) _ _
      have kp : ∀ b o, s.heap.get? b = some o → h1.get? b = some o := by
        intro b o e
        exact hsb.extBut b o (Nat.ne_of_lt (Heap.lt_size e)) (Heap.get?_push_of_some _ e)
      have J := lam1_start (f := f) (c' := c') (tk := s.toks + [(x, u)].length) I L hN hi e0 hr2.hd ru hns kp
      refine PySem.W.kla_codeExpr (wpAny_mono (hbody.run [] _ _ H Q J ht) (fun y s' hq => ?_) fun e s' hq => hq.elim)
      obtain ⟨z, H', J', rv, q⟩ := hq
      exact ⟨z, H', J'.os, J'.bare, J'.base, J'.hok, rv, q⟩
  refine wpAny_call (codeAny_mono run fun r s' hq => ?_)
  cases r with
  | error e => exact (show False from hq).elim
  | ok fl =>
    cases fl with
    | ret y =>
      have hq : CE X.stack X.prog X.w H s Q y s' := hq
      have un : ∃ z H', Un (frs X.stack) [] H H' s.heap s'.heap ∧ RelV z y ∧ Q z H' ∧ s'.os = s.os ∧ AllBare s'.gens ∧ HOk X.prog X.w H' s'.heap := by
        obtain ⟨z, H', a1, a2, a3, a4, a5, a6⟩ := hq
        exact ⟨z, H', a3, a5, a6, a1, a2, a4⟩
      obtain ⟨z, H', un, rv, q, os, ba, hk⟩ := un
      have J : EP X pins σ (fun z' H'' => z' = z ∧ H'' = H') y s' := I.after ⟨z, H', os, ba, un, hk, rv, rfl, rfl⟩
      obtain ⟨z', H'', J, rv', ez, eH⟩ := J
      subst ez eH
      exact ⟨_, _, J, rv, q, un⟩
    | next => exact False.elim hq
    | brk => exact False.elim hq
    | cont => exact False.elim hq
end
/-! ### sorted(xs, key=lambda x: (a, b)) of ints -/
def KLe (key : Int → Int × Int) (a b : Int) : Prop := (key a).1 < (key b).1 ∨ ((key a).1 = (key b).1 ∧ (key a).2 ≤ (key b).2)
def kD (p : Int × Int) : PyData := .tuple [.int p.1, .int p.2]
theorem toks_le {p q : Int × Int} (h : PyProof.Rows.lexLt itemOrd (keyToks (kD q)) (keyToks (kD p)) = false) : p.1 < q.1 ∨ (p.1 = q.1 ∧ p.2 ≤ q.2) := by
  have e : ∀ r : Int × Int, keyToks (kD r) = [.inl 1, .inl r.1, .inl 1, .inl r.2, .inl 0] := fun r => by
    simp [kD, keyToks, keyToksAll]
  rw [e, e] at h
  simp [PyProof.Rows.lexLt, itemLt] at h
  omega
/-- what was told of each -/
inductive KeyR (key : Int → Int × Int) (H : Hp) : List Value → List Int → Prop
  | nil : KeyR key H [] []
  | cons {T : Addr} {n : Int} {us : List Value} {ns : List Int} : H T = some (.tup [.int (key n).1, .int (key n).2]) → KeyR key H us ns → KeyR key H (.ref T :: us) (n :: ns)
section
variable {key : Int → Int × Int} {H H' : Hp}
theorem KeyR.kp0 (k : Kp [] H H') : ∀ {us : List Value} {ns : List Int}, KeyR key H us ns → KeyR key H' us ns
  | _, _, .nil => .nil
  | _, _, .cons h t => .cons (k.at0 h) (t.kp0 k)
theorem KeyR.len : ∀ {us : List Value} {ns : List Int}, KeyR key H us ns → us.length = ns.length
  | _, _, .nil => rfl
  | _, _, .cons _ t => by rw [List.length_cons, List.length_cons, t.len]
theorem KeyR.snoc {T : Addr} {n : Int} (h : H T = some (.tup [.int (key n).1, .int (key n).2])) : ∀ {us : List Value} {ns : List Int}, KeyR key H us ns → KeyR key H (us ++ [.ref T]) (ns ++ [n])
  | _, _, .nil => .cons h .nil
  | _, _, .cons a t => .cons a (t.snoc h)
end
section
variable {X : Cx} {pins : List (Addr × Obj)} {σ : L2.St} {H : Hp} {s : Shared} {key : Int → Int × Int}
theorem KeyR.reads (I : L2.Inv X pins σ H s) : ∀ {us : List Value} {ns : List Int}, KeyR key H us ns → EachIs (fun v d => ∃ as, Reads s.heap v d as) us (ns.map fun n => kD (key n))
  | _, _, .nil => .nil
  | _, _, .cons h t => .cons (Dp.reads I _ _ _ (dp_ti (K := X.K) (ns := [_, _]) (sqT h)) rfl) (t.reads I)
theorem out_frs {b : Addr} (I : L2.Inv X pins σ H s) (fp : FpOk X pins H b) : b ∉ frs X.stack := fun z => by
  rcases List.mem_cons.mp (I.stkSub _ z) with e | e
  · exact fp.2.1 e
  · exact fp.2.2.1 e
theorem kD_alike (ns : List Int) : AllAlike (ns.map fun n => kD (key n)) := by
  intro d hd d' hd'
  obtain ⟨a, _, rfl⟩ := List.mem_map.mp hd
  obtain ⟨b, _, rfl⟩ := List.mem_map.mp hd'
  simp [kD, alike, alikeAll]
theorem kD_sortable (ns : List Int) : Sortable (ns.map fun n => kD (key n)) := by
  refine .inl fun d hd => ?_
  obtain ⟨a, _, rfl⟩ := List.mem_map.mp hd
  exact ⟨_, _, rfl⟩
/-- what a sort by the keys leaves -/
theorem out_sorted {h : Heap} {us vs : List Value} {ns : List Int} {xs : Array Keyed} (hr : EachIs (fun v d => ∃ as, Reads h v d as) us (ns.map fun n => kD (key n))) (hi : IntsAre vs ns)
    (hp : xs.Perm (us.toArray.zip vs.toArray)) (hs : SortedToK (dataKind h (ns.map fun n => kD (key n))) xs xs.size) :
    ∃ ms : List Int, IntsAre (xs.map (·.2)).toList ms ∧ ms.Perm ns ∧ ms.Pairwise (KLe key) := by
  have hz : (us.toArray.zip vs.toArray).toList = us.zip vs := by simp
  have pl : xs.toList.Perm (us.zip vs) := by
    rw [← hz]
    exact Array.perm_iff_toList_perm.mp hp
  -- each pair: a key that reads so, and its int
  have each : ∀ p ∈ us.zip vs, ∃ n t, n ∈ ns ∧ p.2 = Value.int n t ∧ ∃ as, Reads h p.1 (kD (key n)) as := by
    clear hp hs pl hz
    have go : ∀ (us vs : List Value) (ns : List Int), EachIs (fun v d => ∃ as, Reads h v d as) us (ns.map fun n => kD (key n)) → IntsAre vs ns → ∀ p ∈ us.zip vs, ∃ n t, n ∈ ns ∧ p.2 = Value.int n t ∧ ∃ as, Reads h p.1 (kD (key n)) as := by
      intro us
      induction us with
      | nil => intro vs ns _ _ p hp; simp at hp
      | cons u us ih =>
        intro vs ns h1 h2 p hp
        cases h2 with
        | nil => simp at hp
        | cons n0 t0 h2 =>
          cases h1 with
          | cons a b =>
            rcases List.mem_cons.mp hp with z | z
            · rw [z]
              exact ⟨_, _, List.mem_cons_self, rfl, a⟩
            · obtain ⟨n, t, c1, c2, c3⟩ := ih _ _ b h2 p z
              exact ⟨n, t, List.mem_cons_of_mem _ c1, c2, c3⟩
    exact go us vs ns hr hi
  have lenE : us.length = vs.length := by
    have h1 : ∀ {us : List Value} {ds : List PyData}, EachIs (fun v d => ∃ as, Reads h v d as) us ds → us.length = ds.length := by
      intro us ds e
      induction e with
      | nil => rfl
      | cons _ _ ih => rw [List.length_cons, List.length_cons, ih]
    have := h1 hr
    rw [List.length_map] at this
    have := hi.length
    omega
  have keyE : ∀ p ∈ us.zip vs, (dataKind h (ns.map fun n => kD (key n))).keyOf p.1 = some (keyToks (kD (key (SrtO.iv p.2)))) := by
    intro p hpm
    obtain ⟨n, t, c1, c2, as, c3⟩ := each p hpm
    rw [c2]
    exact PySem.W.dataKind_some (kD_alike ns) (List.mem_map.mpr ⟨n, c1, rfl⟩) c3
  refine ⟨xs.toList.map fun p => SrtO.iv p.2, ?_, ?_, ?_⟩
  · -- ints
    have : ∀ l : List Keyed, (∀ p ∈ l, ∃ n t, p.2 = Value.int n t) → IntsAre (l.map (·.2)) (l.map fun p => SrtO.iv p.2) := by
      intro l
      induction l with
      | nil => intro _; exact .nil
      | cons p r ih =>
        intro hl
        obtain ⟨n, t, e⟩ := hl p List.mem_cons_self
        rw [List.map_cons, List.map_cons, e]
        exact .cons n t (ih fun q hq => hl q (List.mem_cons_of_mem _ hq))
    rw [Array.toList_map]
    refine this xs.toList fun p hpm => ?_
    obtain ⟨n, t, _, c2, _⟩ := each p (pl.mem_iff.mp hpm)
    exact ⟨n, t, c2⟩
  · have e : (us.zip vs).map (fun p => SrtO.iv p.2) = ns := by
      have go : ∀ (us vs : List Value) (ns : List Int), us.length = vs.length → IntsAre vs ns → (us.zip vs).map (fun p => SrtO.iv p.2) = ns := by
        intro us
        induction us with
        | nil =>
          intro vs ns hl h2
          cases h2 with
          | nil => rfl
          | cons _ _ _ => simp at hl
        | cons u us ih =>
          intro vs ns hl h2
          cases h2 with
          | nil => simp at hl
          | cons n0 t0 h2 =>
            rw [List.zip_cons_cons, List.map_cons, ih _ _ (by simpa using hl) h2]
            rfl
      exact go us vs ns lenE hi
    have := pl.map fun p => SrtO.iv p.2
    rw [e] at this
    exact this
  · rw [List.pairwise_iff_getElem]
    intro i j hi2 hj hij
    rw [List.length_map, Array.length_toList] at hi2 hj
    have hle := hs i j (by omega) hj
    have kk : ∀ t (ht : t < xs.size), KK (dataKind h (ns.map fun n => kD (key n))) xs t = keyToks (kD (key (SrtO.iv (xs[t]).2))) := by
      intro t ht
      unfold KK
      rw [Array.getElem?_eq_getElem ht]
      show ((dataKind h (ns.map fun n => kD (key n))).keyOf (xs[t]).1).getD _ = _
      rw [keyE _ (pl.mem_iff.mp (Array.getElem_mem_toList ht))]
      rfl
    rw [kk i hi2, kk j hj] at hle
    have := toks_le hle
    simp only [List.getElem_map, Array.getElem_toList]
    exact this
end
end Cf

set_option Elab.async false
set_option linter.all false
set_option maxRecDepth 100000
namespace Cf
open PySem PySem.Spec PyProof.Rows L2
open LamX (CodeO TabS Tabs ExtN TabB lamEnv lamCx lam_make2)
open PySem.W (keyToks keyToksAll EachIs SortsAt dataKind AllAlike Sortable alike alikeAll)
section
variable {X : Cx} {pins : List (Addr × Obj)} {σ : L2.St} {H : Hp} {s : Shared} {key : Int → Int × Int}
theorem fp_at {b : Addr} {H' : Hp} (fp : FpOk X pins H b) (n : H' b = none) : FpOk X pins H' b := ⟨n, fp.2⟩
/-- behind the keys: the sort itself, and the list filled again -/
theorem key_end {A : Around} {E : Value → Shared → Prop} {a kS : Addr} {kA : Array Value} {vs : List Value} {ns : List Int} {e e1 : Nat} {P : PySem.Fin → Shared → Prop} (I : L2.Inv X pins σ H s) (hu : A.units + 64 < cLine)
    (fa : FpOk X pins H a) (fk : FpOk X pins H kS) (hka : kS ≠ a) (hk : s.heap.get? kS = some (seqObj "list" kA e)) (ha : s.heap.get? a = some (seqObj "list" #[] e1)) (hR : KeyR key H kA.toList ns) (hi : IntsAre vs ns) (hz : vs.length ≤ 1000)
    (h : ∀ s' (out : Array Value) (c : Nat) (ms : List Int), L2.Inv X pins σ H s' → s'.heap.get? a = some (seqObj "list" out c) → IntsAre out.toList ms → ms.Perm ns → ms.Pairwise (KLe key) → s'.heap.objs.size = s.heap.objs.size → P (.done (.ret .none)) s') :
    wpAny (model X.prog X.w) A (ksk_end a false vs.toArray e1 (.ref kS) kA) P E s := by
  have hr := hR.reads I
  have kl : kA.size = vs.length := by
    have h1 := hR.len
    have h2 := hi.length
    rw [Array.length_toList] at h1
    omega
  have big : (1000 : Nat) ≤ sizeLine := by decide
  have hzs : (kA.zip vs.toArray).size = vs.length := by rw [Array.size_zip, kl, List.size_toArray, Nat.min_self]
  have tail : ∀ st : SortSt, (arrOf st).Perm (kA.zip vs.toArray) → failedOf st = none → SortedToK (dataKind s.heap (ns.map fun n => kD (key n))) (arrOf st) (arrOf st).size → wpAny (model X.prog X.w) A (ksk_tail a false e1 (.ref kS) st) P E s := by
    intro st hp hf hs
    have e0 : kA = kA.toList.toArray := by simp
    rw [e0] at hp
    obtain ⟨ms, m1, m2, m3⟩ := out_sorted hr hi hp hs
    rw [← e0] at hp
    have hsz : ((arrOf st).map (·.2)).size = vs.length := by rw [Array.size_map, hp.size_eq, hzs]
    have s1 := Heap.SameBut.update s.heap kS (Obj.mapSeq fun _ => (#[] : Array Value))
    have na1 : (s.heap.update kS (Obj.mapSeq fun _ => (#[] : Array Value))).get? a = some (seqObj "list" #[] e1) := (s1.2 a hka.symm).trans ha
    have s2 := Heap.SameBut.update (s.heap.update kS (Obj.mapSeq fun _ => (#[] : Array Value))) a (Obj.mapSeq fun _ => (arrOf st).map (·.2))
    obtain ⟨c2, hc2⟩ : ∃ c2, ((s.heap.update kS (Obj.mapSeq fun _ => (#[] : Array Value))).update a (Obj.mapSeq fun _ => (arrOf st).map (·.2))).get? a = some (seqObj "list" ((arrOf st).map (·.2)) c2) := ⟨_, get?_update_seq na1 _⟩
    unfold ksk_tail
    try dsimp only
    refine wpAny_bind (listUpdate_at hk rfl ?_ (by rw [kl]; omega) (Nat.zero_le _))
    refine wpAny_bind (wpAny_letGo ?_)
    refine wpAny_bind (seqEpoch_at na1 rfl ?_)
    simp only [Bool.false_eq_true, if_false]
    refine wpAny_bind (listUpdate_at na1 rfl ?_ (Nat.zero_le _) (by rw [hsz]; omega))
    rw [hf]
    simp only [bne_self_eq_false, Bool.false_eq_true, if_false]
    refine wpAny_pure (h _ _ c2 ms ?_ hc2 m1 m2 m3 (by show (Heap.update _ _ _).objs.size = _; rw [Heap.size_update, Heap.size_update]))
    refine I.turnedL (ch := [kS, a]) (fun b o hb q => ?_) (fun b hb => ?_)
    · have h1 : b ≠ kS := fun z => hb (by simp [z])
      have h2 : b ≠ a := fun z => hb (by simp [z])
      exact (s2.2 b h2).trans ((s1.2 b h1).trans q)
    · simp only [List.mem_cons, List.not_mem_nil, or_false] at hb
      rcases hb with z | z
      · rw [z]; exact fk
      · rw [z]; exact fa
  have S : SortsAt X.prog X.w A s (dataKind s.heap (ns.map fun n => kD (key n))) kA.toList := by
    refine SortsAt.data hr (kD_alike ns) (kD_sortable ns) fun d hd => ?_
    obtain ⟨n, _, rfl⟩ := List.mem_map.mp hd
    have : (kD (key n)).depth ≤ 1 := by
      simp [kD, PyData.depth, PyData.depthAll]
    omega
  obtain ⟨kd, h1, h2⟩ := S.kind
  have h0 : KeysOf (dataKind s.heap (ns.map fun n => kD (key n))) (kA.zip vs.toArray) := PySem.W.keysOf_zip S.keys
  unfold ksk_end
  try dsimp only
  simp only [Bool.false_eq_true, if_false]
  by_cases hl2 : vs.toArray.size < 2
  · rw [if_pos hl2, if_pos hl2]
    refine wpAny_bind (wpAny_pure ?_)
    rw [StateT.run_pure]
    refine wpAny_bind (wpAny_pure ?_)
    try dsimp only
    refine tail (SortSt.mk' general' (kA.zip vs.toArray) #[] 7 none) (Array.Perm.refl _) rfl ?_
    intro i j hij hj
    have hj : j < (kA.zip vs.toArray).size := hj
    rw [hzs] at hj
    rw [List.size_toArray] at hl2
    have : i = j := by omega
    subst this
    exact KeyOrd.kle_refl _
  · rw [if_neg hl2, if_neg hl2]
    rw [List.size_toArray] at hl2
    have hkq : ∀ {Q : SortKind → Shared → Prop}, Q kd s → wpAny (model X.prog X.w) A (keyKind' kA) Q E s := by
      intro Q hQ
      have := h2 (by rw [Array.length_toList]; omega) E hQ
      rwa [Array.toArray_toList] at this
    refine wpAny_bind (hkq ?_)
    refine wpAny_bind (wpAny_mono (PyProof.Rows.H.wpS_sortRunsSt (κ := dataKind s.heap (ns.map fun n => kD (key n))) (kd := kd) (a₀ := kA.zip vs.toArray) (st := SortSt.mk' kd (kA.zip vs.toArray) #[] 7 none)
      (Q := fun _ st' => (arrOf st').Perm (kA.zip vs.toArray) ∧ failedOf st' = none ∧ SortedToK (dataKind s.heap (ns.map fun n => kD (key n))) (arrOf st') (kA.zip vs.toArray).size)
      h1 h0 ⟨Array.Perm.refl _, rfl, rfl⟩ rfl (Stable.refl _) (by rw [hzs]; omega) fun st' a1 a2 a3 _ => ⟨a1, a2, a3⟩) ?_ fun _ _ z => z)
    rintro ⟨⟨⟩, st'⟩ s' ⟨rfl, hp, hf, hs⟩
    try dsimp only
    exact tail st' hp hf (by rw [hp.size_eq]; exact hs)
/-- sorted(l, key=f), f the lambda of one parameter that was made, l the items vs -/
theorem sort_lam {k i : Nat} {l f c' : Addr} {pm ctv : Value} {params : Arguments} {body : Expr} {scope : Scope} {x : Str} {tb : TE} {vs : List Value} {ns : List Int} {Q : VK} {E : Value → Shared → Prop}
    (I : L2.Inv X pins σ H s) (L : Lam1 X.env.scope scope x) (hN : X.N.Nodup) (hi : X.N[i]? = some x) (hr : Room (k + 3) X.A)
    (hf : s.heap.get? f = some (PySem.W.kla_obj "<lambda>" (X.env.qual ++ "<lambda>") params body scope (cloFrom X.env.cells scope.names []) pm c' ctv)) (hfn : H f = none) (hfr : f ∉ frs X.stack)
    (hco : H c' = some (CodeO c' (X.env.qual ++ "<lambda>")))
    (hbind : ∀ u : Value, bindArgs (PySem.W.kla_fn "<lambda>" (X.env.qual ++ "<lambda>") params body scope (cloFrom X.env.cells scope.names []) pm (.ref c') ctv) ⟨[u], []⟩ = pure [(x, u)])
    (hbody : ∀ (s : Shared) (H : Hp), PE (lamC X X.A.in1.in1 X.stack s H scope f c') body tb)
    (hcol : ∀ {R : List Value → Shared → Prop}, R vs { s with heap := (s.heap.push (seqObj "list" #[] 0)).update s.heap.objs.size (Obj.mapSeq (· ++ vs.toArray)) } → wpAny (model X.prog X.w) X.A.in1 (collect (.ref l)) R (fun _ _ => False) s)
    (hv : IntsAre vs ns) (hz : vs.length ≤ 1000)
    (turn : ∀ n ∈ ns, ∀ H', Kp [] H H' → tb (σ.set i (some (.int n))) H' fun y H2 => Kp [] H' H2 ∧ ∃ T, y = .ref T ∧ H2 T = some (.tup [.int (key n).1, .int (key n).2]))
    (h : ∀ ms : List Int, ms.Perm ns → ms.Pairwise (KLe key) → New H (.lst (ms.map V.int)) Q) :
    wpAny (model X.prog X.w) X.A (call (.builtin "sorted") [.ref l] [(Str.ofString "key", .ref f)]) (EP X pins σ Q) E s := by
  have big : (1000 : Nat) ≤ sizeLine := by decide
  refine call_function_entry_kw kind_sorted plain_sorted entry_sorted (ksk_s1 _ _) ?_
  unfold Builtin.«sorted»
  refine wpAny_bind (m := checkCount "sorted" 1 1 _) (wpAny_pure ?_)
  refine wpAny_bind (wpAny_mono (hcol (R := fun us s' => us = vs ∧ s' = { s with heap := (s.heap.push (seqObj "list" #[] 0)).update s.heap.objs.size (Obj.mapSeq (· ++ vs.toArray)) }) ⟨rfl, rfl⟩) ?_ (fun _ _ z => z.elim))
  rintro us s0 ⟨rfl, rfl⟩
  refine wpAny_bind (wpAny_newList ?_ (by omega))
  have size1 : ((s.heap.push (seqObj "list" #[] 0)).update s.heap.objs.size (Obj.mapSeq (· ++ us.toArray))).objs.size = s.heap.objs.size + 1 := by
    rw [Heap.size_update, Heap.size_push]
  have hoL : (((s.heap.push (seqObj "list" #[] 0)).update s.heap.objs.size (Obj.mapSeq (· ++ us.toArray))).push (seqObj "list" us.toArray 0)).get? (s.heap.objs.size + 1) = some (seqObj "list" us.toArray 0) := by
    rw [← size1]
    exact Heap.get?_push_size _ rfl
  have keep0 : ∀ b o, s.heap.get? b = some o → (((s.heap.push (seqObj "list" #[] 0)).update s.heap.objs.size (Obj.mapSeq (· ++ us.toArray))).push (seqObj "list" us.toArray 0)).get? b = some o := by
    intro b o q
    have lt : b < s.heap.objs.size := Heap.lt_size q
    rw [Heap.get?_push_ne _ _ _ (by rw [size1]; exact Nat.ne_of_lt (Nat.lt_succ_of_lt lt)), Heap.get?_update_ne _ _ _ _ (Nat.ne_of_lt lt), Heap.get?_push_ne _ _ _ (Nat.ne_of_lt lt)]
    exact q
  show wpAny _ _ _ _ _ { s with heap := ((s.heap.push (seqObj "list" #[] 0)).update s.heap.objs.size (Obj.mapSeq (· ++ us.toArray))).push (seqObj "list" us.toArray 0) }
  rw [size1]
  have size2 : (((s.heap.push (seqObj "list" #[] 0)).update s.heap.objs.size (Obj.mapSeq (· ++ us.toArray))).push (seqObj "list" us.toArray 0)).objs.size = s.heap.objs.size + 2 := by
    rw [Heap.size_push, size1]
  generalize hh0 : ((s.heap.push (seqObj "list" #[] 0)).update s.heap.objs.size (Obj.mapSeq (· ++ us.toArray))).push (seqObj "list" us.toArray 0) = h0 at hoL keep0 size2
  generalize ha : s.heap.objs.size + 1 = a at hoL
  have fa : FpOk X pins H a := I.fpOk (by omega) (I.hok.fresh (by omega))
  have I0 : L2.Inv X pins σ H { s with heap := h0 } := I.kept (t' := s.toks) keep0
  refine wpAny_bind (wpAny_holding (wpAny_call_entry_kw slot_list_sort ⟨_, hoL, rfl⟩ entry_list_sort ?_ (ksk_l1 _ _)))
  show wpAny (model X.prog X.w) X.A.in1.in1 (Builtin.«list.sort» ⟨[.ref a], [(Str.ofString "key", .ref f)]⟩) _ _ _
  rw [ksk_t1]
  unfold ksk_tree
  obtain ⟨e1, ho1⟩ : ∃ e1, (h0.update a (Obj.mapSeq fun _ => (#[] : Array Value))).get? a = some (seqObj "list" #[] e1) := ⟨_, get?_update_seq hoL fun _ => #[]⟩
  have s1 := Heap.SameBut.update h0 a (Obj.mapSeq fun _ => (#[] : Array Value))
  refine wpAny_bind (listItems_at hoL rfl ?_)
  refine wpAny_bind (listUpdate_at hoL rfl ?_ (by rw [List.size_toArray]; omega) (Nat.zero_le _))
  refine wpAny_bind (seqEpoch_at ho1 rfl ?_)
  refine wpAny_bind (wpAny_newTuple ?_ (by show us.length ≤ _; omega))
  refine wpAny_bind (wpAny_newList ?_ (Nat.zero_le _))
  refine wpAny_holding ?_
  have size3 : ((h0.update a (Obj.mapSeq fun _ => (#[] : Array Value))).push (seqObj "tuple" us.toArray 0)).objs.size = s.heap.objs.size + 3 := by
    rw [Heap.size_push, Heap.size_update, size2]
  show wpAny _ _ (ksk_rest a (.ref f) false us.toArray e1 (.ref ((h0.update a (Obj.mapSeq fun _ => (#[] : Array Value))).push (seqObj "tuple" us.toArray 0)).objs.size)) _ _ { s with heap := ((h0.update a (Obj.mapSeq fun _ => (#[] : Array Value))).push (seqObj "tuple" us.toArray 0)).push (seqObj "list" #[] 0) }
  have hkS : (((h0.update a (Obj.mapSeq fun _ => (#[] : Array Value))).push (seqObj "tuple" us.toArray 0)).push (seqObj "list" #[] 0)).get? (s.heap.objs.size + 3) = some (seqObj "list" #[] 0) := by
    rw [← size3]
    exact Heap.get?_push_size _ rfl
  rw [size3]
  have keep1 : ∀ b o, b ≠ a → h0.get? b = some o → (((h0.update a (Obj.mapSeq fun _ => (#[] : Array Value))).push (seqObj "tuple" us.toArray 0)).push (seqObj "list" #[] 0)).get? b = some o := by
    intro b o nb q
    exact Heap.get?_push_of_some _ (Heap.get?_push_of_some _ ((s1.2 b nb).trans q))
  have ho3 : (((h0.update a (Obj.mapSeq fun _ => (#[] : Array Value))).push (seqObj "tuple" us.toArray 0)).push (seqObj "list" #[] 0)).get? a = some (seqObj "list" #[] e1) := Heap.get?_push_of_some _ (Heap.get?_push_of_some _ ho1)
  generalize hh1 : ((h0.update a (Obj.mapSeq fun _ => (#[] : Array Value))).push (seqObj "tuple" us.toArray 0)).push (seqObj "list" #[] 0) = h1 at hkS keep1 ho3
  generalize hkk : s.heap.objs.size + 3 = kS at hkS
  have fk : FpOk X pins H kS := I.fpOk (by omega) (I.hok.fresh (by omega))
  have hka : kS ≠ a := by omega
  have I1 := L2.Inv.turnedL (s := { s with heap := h0 }) (h' := h1) (t' := s.toks) (ch := [a]) I0 (fun b o hb q => keep1 b o (fun z => hb (by simp [z])) q) (fun b hb => by rw [List.mem_singleton.mp hb]; exact fa)
  have hfa : f ≠ a := Nat.ne_of_lt (by rw [← ha]; exact Nat.lt_succ_of_lt (Heap.lt_size hf))
  have hf1 := keep1 f _ hfa (keep0 f _ hf)
  unfold ksk_rest
  refine wpAny_bind (wpAny_rule ?_)
  first
    | rw [List.forIn_toArray]
    | (rw [← Array.forIn_toList]; simp only [List.toList_toArray])
  refine wpAny_bind (ksk_fold (fun j s' => ∃ (H' : Hp) (kA : Array Value) (e : Nat), L2.Inv X pins σ H' s' ∧ Kp [] H H' ∧
      s'.heap.get? f = some (PySem.W.kla_obj "<lambda>" (X.env.qual ++ "<lambda>") params body scope (cloFrom X.env.cells scope.names []) pm c' ctv) ∧ s'.heap.get? kS = some (seqObj "list" kA e) ∧ s'.heap.get? a = some (seqObj "list" #[] e1) ∧
      H' f = none ∧ H' kS = none ∧ H' a = none ∧ KeyR key H' kA.toList (ns.take j)) us 0 _ ⟨H, #[], 0, I1, Kp.refl, hf1, hkS, ho3, hfn, fk.1, fa.1, .nil⟩ ?step ?done)
  case step =>
    rintro j u s' hu ⟨H', kA, e, J, kp, jf, jk, ja, nf, nk, na, jR⟩
    simp only [Nat.zero_add] at jR ⊢
    obtain ⟨n, t, rfl, hn⟩ : ∃ n t, u = Value.int n t ∧ ns[j]? = some n := by
      have go : ∀ (us : List Value) (ns : List Int) (j : Nat), IntsAre us ns → us[j]? = some u → ∃ n t, u = Value.int n t ∧ ns[j]? = some n := by
        intro us
        induction us with
        | nil => intro ns j _ h; simp at h
        | cons w us ih =>
          intro ns j hh h
          cases hh with
          | cons n0 t0 hh =>
            cases j with
            | zero => exact ⟨n0, t0, (Option.some.inj h).symm, rfl⟩
            | succ j =>
              obtain ⟨n, t, a1, a2⟩ := ih _ j hh (by simpa using h)
              exact ⟨n, t, a1, by simpa using a2⟩
      exact go us ns j hv hu
    have hmem : n ∈ ns := List.mem_of_getElem? hn
    have kal : kA.size ≤ us.length := by
      have h1 := jR.len
      rw [Array.length_toList, List.length_take] at h1
      have h2 := hv.length
      omega
    obtain ⟨⟨oc, cvs, tq, q1, q2, q3⟩, _, _⟩ := J.hok c' _ (kp.at0 hco)
    refine wpAny_bind (wpAny_attempt (wpAny_mono (lam1_call (k := k) J L hN hi hr jf ⟨oc, cvs, tq, q1, q2, q3⟩ (hbind _) (hbody s' H') (v := .int n) ⟨t, rfl⟩ (turn n hmem H' kp)) (fun y s2 hq => ?_) fun _ _ z => z))
    obtain ⟨z, H2, J2, rv, ⟨k2, T, ez, hT⟩, un⟩ := hq
    subst ez
    cases rv
    try dsimp only
    have fkJ := out_frs J (fp_at fk nk)
    have faJ := out_frs J (fp_at fa na)
    have jf2 := un.keep f _ jf nf hfr (by simp)
    have jk2 := un.keep kS _ jk nk fkJ (by simp)
    have ja2 := un.keep a _ ja na faJ (by simp)
    have nf2 := un.free f _ jf nf (by simp)
    have nk2 := un.free kS _ jk nk (by simp)
    have na2 := un.free a _ ja na (by simp)
    have sB := Heap.SameBut.update s2.heap kS (Obj.mapSeq (·.push (Value.ref T)))
    obtain ⟨c2, hc2⟩ : ∃ c2, (s2.heap.update kS (Obj.mapSeq (·.push (Value.ref T)))).get? kS = some (seqObj "list" (kA.push (Value.ref T)) c2) := ⟨_, get?_update_seq jk2 (·.push (Value.ref T))⟩
    refine wpAny_bind (listUpdate_at jk2 rfl ?_ (by omega) (Nat.le_trans (Nat.le_of_eq (Array.size_push ..)) (by omega)))
    have hfk : f ≠ kS := Nat.ne_of_lt (Nat.lt_of_lt_of_le (Heap.lt_size hf) (by rw [← hkk]; exact Nat.le_add_right _ _))
    refine wpAny_pure ⟨rfl, H2, kA.push (Value.ref T), c2, ?_, kp.trans k2, (sB.2 f hfk).trans jf2, hc2, (sB.2 a hka.symm).trans ja2, nf2, nk2, na2, ?_⟩
    · exact J2.turnedL (t' := s2.toks) (ch := [kS]) (fun b o hb q => (sB.2 b (fun z => hb (by simp [z]))).trans q) (fun b hb => by rw [List.mem_singleton.mp hb]; exact fp_at fk nk2)
    · have e3 : ns.take (j + 1) = ns.take j ++ [n] := by
        rw [List.take_add_one, hn]
        rfl
      rw [e3, Array.toList_push]
      exact (jR.kp0 k2).snoc hT
  case done =>
    rintro s' ⟨H', kA, e, J, kp, jf, jk, ja, nf, nk, na, jR⟩
    have hl := hv.length
    rw [List.take_of_length_le (by omega)] at jR
    refine wpAny_bind (listItems_at jk rfl ?_)
    have hu2 : X.A.in1.in1.units + 64 < cLine := ((hr.in1).in1).units
    refine key_end (key := key) J hu2 (fp_at fa na) (fp_at fk nk) hka jk ja jR hv hz ?_
    intro s3 out c ms J3 hout m1 m2 m3 _
    refine ⟨_, rfl, wpAny_pure ⟨_, rfl, ?_⟩⟩
    have olen : out.size ≤ 1000 := by
      have h1 := m1.length
      have h2 := m2.length_eq
      rw [Array.length_toList] at h1
      omega
    have nH : H a = none := fa.1
    refine ⟨.ref a, upd H' a (.lst (ms.map V.int)), ?_, rfl, h ms m2 m3 a _ nH (kp.trans (Kp.new na)) upd_same⟩
    refine L2.Inv.take (h' := s3.heap) (t' := s3.toks) J3 (fun b ob _ q => q) (fp_at fa na) ?_
    · exact ⟨by rw [List.length_map]; have h1 := m1.length; rw [Array.length_toList] at h1; omega, out.toList, c, vals_of_ints m1, by rw [Array.toArray_toList]; exact hout⟩
end
end Cf

set_option Elab.async false
set_option linter.all false
set_option maxRecDepth 100000
namespace Cf
open PySem PySem.Spec PyProof.Rows L2
open LamX (CodeO TabS Tabs ExtN TabB lamEnv lamCx lam_make2)
/-! ### heaps that grow, tables of code objects among them -/
/-- all but the tables stay, and the tables of T are good ones -/
structure Kt (T : List (Addr × Str)) (H H' : Hp) : Prop where
  ext : ExtN H H'
  tab : Tabs T H → Tabs T H'
/-- nothing is there, but a table at most -/
def Nt (H : Hp) (p : Addr) : Prop := ∀ o, H p = some o → ∃ ps, o = .tbl ps
section
variable {K : PySem.W.Frag} {T : List (Addr × Str)} {H H1 H2 : Hp} {p b : Addr} {xs : List V}
theorem nt0 (h : H p = none) : Nt H p := fun o e => by
  rw [h] at e
  cases e
theorem Kt.refl : Kt T H H := ⟨ExtN.refl H, fun h => h⟩
theorem Kt.trans (a : Kt T H H1) (c : Kt T H1 H2) : Kt T H H2 := ⟨a.ext.trans c.ext, fun h => c.tab (a.tab h)⟩
theorem Kp.kt (k : Kp [] H H1) : Kt T H H1 := ⟨ExtN.of fun b o e => k.at0 e, fun h => h.ext fun b o e => k.at0 e⟩
theorem Kt.kp (a : Kt T H H1) (k : Kp [] H1 H2) : Kt T H H2 := a.trans k.kt
theorem Kt.nt (a : Kt T H H1) (h : Nt H1 p) : Nt H p := fun o e => by
  by_cases z : ∃ ps, o = .tbl ps
  · exact z
  · exact h o (a.ext p o e fun ps w => z ⟨ps, w⟩)
theorem Kt.nt0 (a : Kt T H H1) (h : H1 p = none) : Nt H p := a.nt (Cf.nt0 h)
theorem Kt.atL (a : Kt T H H1) (h : H p = some (.lst xs)) : H1 p = some (.lst xs) := a.ext p _ h fun ps z => nomatch z
theorem Kt.atT (a : Kt T H H1) (h : H p = some (.tup xs)) : H1 p = some (.tup xs) := a.ext p _ h fun ps z => nomatch z
theorem Kt.tup0 (a : Kt T H H1) (h : SqT K H p xs) : SqT K H1 p xs := by
  rcases h with (h | ⟨o, h⟩) | h
  · exact .inl (.inl (a.atT h))
  · exact .inl (.inr ⟨o, a.ext p _ h fun ps z => nomatch z⟩)
  · exact .inr h
theorem Kt.lst0 (a : Kt T H H1) (h : SqL K H p xs) : SqL K H1 p xs := by
  rcases h with (h | ⟨o, h⟩) | h
  · exact .inl (.inl (a.atL h))
  · exact .inl (.inr ⟨o, a.ext p _ h fun ps z => nomatch z⟩)
  · exact .inr h
/-- a list that was not there before is changed -/
theorem Kt.own (a : Kt T H H1) (z : Nt H p) (hl : H1 p = some (.lst xs)) (m : Kp [p] H1 H2) : Kt T H H2 := by
  have np : ∀ q o, H1 q = some o → (∀ ys, o ≠ .lst ys) → q ≠ p := fun q o e n w => by
    rw [w, hl] at e
    cases e
    exact n _ rfl
  refine ⟨fun q o e n => ?_, fun hT r hr => ?_⟩
  · have hq : q ≠ p := fun w => by
      rw [w] at e
      obtain ⟨ps, hp⟩ := z o e
      exact n ps hp
    exact m.at1 hq (a.ext q o e n)
  · obtain ⟨ps, h1, h3, h4⟩ := a.tab hT r hr
    refine ⟨ps, m.at1 (np _ _ h1 fun ys w => nomatch w) h1, h3, fun pos cv hc => ?_⟩
    obtain ⟨c, e1, e2⟩ := h4 pos cv hc
    refine ⟨c, e1, m.at1 (np _ _ e2 fun ys w => ?_) e2⟩
    unfold LamX.CodeO at w
    cases w
theorem Kt.md (a : Kt T H H1) (z : Nt H p) (hl : H1 p = some (.lst xs)) (m : Md p H1 H2) : Kt T H H2 := a.own z hl m.kp
end
section
variable {K : PySem.W.Frag} {T : List (Addr × Str)} {H H' : Hp}
theorem Rw.kt {xs : List V} {rs : List (List Int)} (h : Rw K H xs rs) (k : Kt T H H') : Rw K H' xs rs := h.go fun _ _ z => k.tup0 z
end
/-! ### sorted(xs, key=lambda x: ..) -/
def tSortK (T : List (Addr × Str)) (K : PySem.W.Frag) (i : Nat) (ta : TA) (tb : TE) : TE := fun σ H Q => ta σ H fun vs H1 => ∃ (p : Addr) (ns : List Int) (key : Int → Int × Int), vs = [.ref p] ∧ SqL K H1 p (ns.map V.int) ∧ ns.length ≤ 1000 ∧ Tabs T H1 ∧
  ∀ H2, Kt T H1 H2 → (∀ n ∈ ns, ∀ H', Kp [] H2 H' → tb (σ.set i (some (.int n))) H' fun y H3 => Kp [] H' H3 ∧ ∃ U, y = .ref U ∧ H3 U = some (.tup [.int (key n).1, .int (key n).2])) ∧
    ∀ ms : List Int, ms.Perm ns → ms.Pairwise (KLe key) → New H2 (.lst (ms.map V.int)) Q
section
variable {X : Cx}
theorem pe_sortK {T : List (Addr × Str)} {K : PySem.W.Frag} {c P : Addr} {k i : Nat} {x : Str} {e : Expr} {ta : TA} {tb : TE} {params : Arguments} {body : Expr} {scope : Scope} {p lpos kpos pos : Pos} (eK : X.K = K) (hc : X.calm = true)
    (TB : TabB X.base X.mg c P) (hcode : X.env.code = .ref c) (hmT : (P, X.env.qual ++ "<lambda>") ∈ T) (hu : ∀ r ∈ T, r.1 = P → r.2 = X.env.qual ++ "<lambda>") (hr : Room (k + 3) X.A) (L : Lam1 X.env.scope scope x) (hN : X.N.Nodup) (hi : X.N[i]? = some x)
    (hdef : defaultsOf params X.env = ([], []))
    (hbind : ∀ (q : Str) (cl : List (Str × Addr)) (pm cv ctv u : Value), bindArgs (PySem.W.kla_fn "<lambda>" q params body scope cl pm cv ctv) ⟨[u], []⟩ = pure [(x, u)])
    (hbody : ∀ (s : Shared) (H : Hp) (f c' : Addr), PE (lamC X X.A.in1.in1 X.stack s H scope f c') body tb)
    (hg : Gl X "sorted") (hm : X.mg "sorted" = none) (ha : PA X [e] ta)
    (he : backTo pos (starEach [e] X.env) = (false, eval e X.env) :: backTo pos (starEach [] X.env) := by rfl) (hpl : (backTo pos (starEach [e] X.env)).any (·.1) = false := by rfl)
    (hall : (backToKw pos (keywordEach [⟨some "key", .Lambda params body scope lpos, kpos⟩] X.env)).all (·.1.isSome) = true := by rfl) (hno : (backToKw pos (keywordEach [⟨some "key", .Lambda params body scope lpos, kpos⟩] X.env)).any (·.1.isNone) = false := by rfl)
    (hks : (backToKw pos (keywordEach [⟨some "key", .Lambda params body scope lpos, kpos⟩] X.env)).filterMap (·.1) = [Str.ofString "key"] := by rfl) :
    PE X (.Call (.Name "sorted" p) [e] [⟨some "key", .Lambda params body scope lpos, kpos⟩] pos) (tSortK T K i ta tb) := by
  subst eK
  refine ⟨fun pins s σ H Q I h => ?_⟩
  refine wpAny_Call_Name_kw (ld_blt I hg hm PyProof.Rows.boot_sorted ?_)
  refine PyProof.Rows.callWith_kw (thn (ha.run pos pins s σ H _ I h) ?_) he hpl hall hno
  rintro us s1 ⟨vs, H1, I1, r1, pl, ns, key, ev, hq, hz, hT, w⟩
  subst ev
  obtain ⟨u, rfl, ru⟩ := vals1 r1
  cases ru
  show wpAny _ _ (evalAll ((do let v ← eval (.Lambda params body scope lpos) X.env; standAt pos; pure v) :: (backToKw pos (keywordEach [] X.env)).map (·.2))) _ _ s1
  refine wpAny_evalAll_cons (wpAny_bind ?_)
  refine lam_make2 I1 TB hcode hmT hu hT hdef (fun y hy ey => ?_) fun f c' pm ctv H2 s2 I2 eN T2 hf hfn hfr hco => ?_
  · rcases L.free y hy ey with z | z
    · exact I1.ok.has _ (.inl z)
    · exact I1.ok.has _ (.inr z)
  refine wpAny_bind (wpAny_standAt (wpAny_pure (wpAny_evalAll_nil ?_)))
  rw [hks]
  show wpAny _ _ (call (.builtin "sorted") [.ref pl] [(Str.ofString "key", .ref f)]) _ _ s2
  have kt : Kt T H1 H2 := ⟨eN, fun _ => T2⟩
  obtain ⟨wt, wq⟩ := w H2 kt
  obtain ⟨its, rv, pl2, hz2⟩ := I2.list (kt.lst0 hq)
  have hv := rv.ints
  have hlen : its.length ≤ 1000 := by
    rw [hv.length]
    exact hz
  exact sort_lam (k := k) (key := key) I2 L hN hi hr hf hfn hfr hco (fun u => hbind _ _ _ _ _ u) (fun s H => hbody s H f c') (fun {R} hR => collect_list pl2.isList hR (Nat.le_trans hlen (by decide))) hv hlen wt wq
end
end Cf

set_option Elab.async false
set_option linter.all false
set_option maxRecDepth 100000
namespace Cf
open PySem PySem.Spec PyProof.Rows L2
open LamX (CodeO TabS Tabs ExtN TabB)
section
variable {P : Program} {w : World} {K : PySem.W.Frag} {mg : Str → Option Value} {base : Heap}
/-- a def that lets no exception out, its code object known -/
theorem okC {k : Nat} {x qual : Str} {st : Stmt} {f c : Addr} {fd : FuncData} {N ps : List Str} {sp : Sp} (F : Fun K x qual st f fd) (hcd : fd.code = .ref c) (S : FnScope N ps (defScope st))
    (len : ∀ vs H Q E, sp vs H Q E → vs.length = ps.length)
    (body : ∀ (A : Around) (outer : List Env) (s : Shared) (H : Hp) (vs : List V) (Q : VK) (E : XK),
      (A.deeper (envOfC qual (defScope st) s.heap.objs.size f (.ref c))).guards = some [] → Room k (A.deeper (envOfC qual (defScope st) s.heap.objs.size f (.ref c))) → sp vs H Q E →
      ∃ t, PSs (cxOf CX0 P w K mg base N qual (defScope st) f (.ref c) A outer s H E).nox (defBody st) t ∧ t { nx := fun _ H' => Q .non H', rt := Q } (start N vs) H) :
    FnG P w K mg base CX0 (k + 1) f fd ps sp := by
  have F2 := F
  obtain ⟨oc, od, kV, doc, pm, an, cd, ct, sl, rfl, look, code⟩ := F2.ex
  have hcd : cd = .ref c := hcd
  subst hcd
  constructor
  · exact len
  intro A outer s H args us vs Q E room gd env bind rel wish
  have hlen := len vs H Q E wish
  have keeps : ∀ b o, base.get? b = some o → s.heap.get? b = some o := fun b o e => (env.bs b o e).1
  have inK : K.In s.heap := env.mod.kin.keeps keeps
  have noLim : s.heap.NoLimit := env.mod.nolimit.keeps keeps
  refine codeAny_call_function room.depth (inK f _ look) rfl S.co S.gen rfl (PySem.W.codeRec_of inK code) (bind _ _ _ _ ?_)
  refine wpAny_newFunctionEnv_cells S.kind ?_ ?_
  · rintro ⟨n, v⟩ hy
    cases S.par n (List.of_mem_zip hy).1 with
    | inl q => exact Or.inl q
    | inr q => exact Or.inr ⟨q, PySem.W.cellsFrom_some _ _ _ (Or.inl q)⟩
  · intro en hen s1 inCall
    subst hen
    refine ⟨noLim.keeps inCall.toInCall.keep, codeAny_func ?_⟩
    obtain ⟨t, judged, reading⟩ := body A outer s H vs Q E gd (room.deeper _) wish
    have I0 := inv_start (CX := CX0) (E := E) S room.hd env hlen rel inCall
    have ends : ∀ {σ' : L2.St} {H' : Hp} {v : V} {u : Value} {s' : Shared}, L2.Inv (cxOf CX0 P w K mg base N qual (defScope st) f (.ref c) A outer s H E) [] σ' H' s' → RelV v u → Q v H' → CE outer P w H s Q u s' := by
      intro σ' H' v u s' J rv q
      exact ⟨v, H', J.os, J.bare, J.base, J.hok, rv, q⟩
    refine wpAny_mono (judged.nox.run [] s1 (start N vs) H _ I0 reading) ?_ (fun _ _ h => h)
    intro fl s' hs
    match fl, hs with
    | .ret u, hs =>
      obtain ⟨v, σ', H', J, rv, q⟩ := hs
      exact ends J rv q
    | .next, hs =>
      obtain ⟨σ', H', J, q⟩ := hs
      exact ends (v := V.non) (u := Value.none) J rfl q
    | .brk, hs =>
      obtain ⟨_, _, _, q⟩ := hs
      exact q.elim
    | .cont, hs =>
      obtain ⟨_, _, _, q⟩ := hs
      exact q.elim
end
section
variable {P : Program} {w : World} {K : PySem.W.Frag} {mg mb : Str → Option Value} {CX : CXT} {k : Nat} {fa a : Addr} {fd : FuncData} {x : Str} {sp : Sp}
/-- the law's own call; cs: code objects, and the tables of the lambdas in them, which are empty at first -/
theorem law_callT {cs : List (Addr × Addr)} {s0 : Shared} {vs : List Value} {ns : List Int}
    (inK : K.In s0.heap) (glb : s0.heap.Ns mainGlobals mg) (blt : s0.heap.Ns builtinsNs mb) (bb : ∀ x : Str, x ≠ "__name__" → mb x = bootBuiltins x) (lim : s0.heap.NoLimit) (hg : s0.gens = #[])
    (hT : ∀ t ∈ cs, s0.heap.get? t.2 = some { cls := .none, data := .fields #[] }) (nT : ∀ t ∈ cs, K.lookup t.2 = none) (hC : ∀ t ∈ cs, PySem.W.CodeHd s0.heap t.1 t.2)
    (hbm : ∃ (bm : Addr) (ob : Obj), mg "__builtins__" = some (.ref bm) ∧ bm ≠ builtinsNs ∧ s0.heap.get? bm = some ob ∧ ob.cls = .type "module" ∧ ob.dict = some builtinsNs ∧ ob.data = .plain)
    (ha : s0.heap.get? a = some { cls := .type "list", data := .seq vs.toArray }) (hi : IntsAre vs ns) (hl : ns.length ≤ sizeLine) (hr : Room k callerA)
    (F : ∀ base : Heap, K.In base → base.Ns mainGlobals mg → (∀ t ∈ cs, TabB base mg t.1 t.2) → FnG P w K mg base CX k fa fd [x] sp)
    (bind : ∀ (s : Shared) (u : Value), BindsTo s fd ⟨[u], []⟩ [(x, u)])
    (wish : ∀ H : Hp, (∀ t ∈ cs, H t.2 = some (.tbl #[])) → SqL K H a (ns.map V.int) → sp [.ref a] H (fun v _ => v = .bl true) fun _ _ _ => False)
    (noX : ∀ H e s', CX [] H s0 (fun _ _ _ => False) e s' → False) :
    codeAny (model P w) callerA (.call (.ref fa) ⟨[.ref a], []⟩) (fun r s' => r = .ok (.ret (.bool true)) ∧ OldK s0.heap s'.heap ∧ s'.os = s0.os ∧ AllBare s'.gens) s0 := by
  have rel := vals_ints hi
  let ts : List Addr := cs.map (·.2)
  have tsT : ∀ b ∈ ts, s0.heap.get? b = some { cls := .none, data := .fields #[] } := by
    intro b hb
    obtain ⟨t, ht, rfl⟩ := List.mem_map.mp hb
    exact hT t ht
  have tsK : ∀ b ∈ ts, K.lookup b = none := by
    intro b hb
    obtain ⟨t, ht, rfl⟩ := List.mem_map.mp hb
    exact nT t ht
  have tsM : ∀ t ∈ cs, t.2 ∈ ts := fun t ht => List.mem_map.mpr ⟨t, ht, rfl⟩
  have aTs : a ∉ ts := fun z => by
    have q := tsT a z
    rw [ha] at q
    have q2 := congrArg Obj.data (Option.some.inj q)
    cases q2
  have main : ∀ H : Hp, (∀ t ∈ cs, H t.2 = some (.tbl #[])) → (∀ b, H b = none ∨ b ∈ ts ∨ ∃ o xs, H b = some (.frz o (.lst xs))) → SqL K H a (ns.map V.int) → HOk P w H s0.heap →
      (∀ b, H b ≠ none → b = a ∨ b ∈ ts) → (H a ≠ none → K.lookup a = none) →
      codeAny (model P w) callerA (.call (.ref fa) ⟨[.ref a], []⟩) (fun r s' => r = .ok (.ret (.bool true)) ∧ OldK s0.heap s'.heap ∧ s'.os = s0.os ∧ AllBare s'.gens) s0 := by
    intro H hHT only sq hok one unK
    have out : ∀ {b : Addr} {o : Obj}, s0.heap.get? b = some o → (∀ us n, o.data ≠ .seq us n) → o.data ≠ .fields #[] → H b = none := by
      intro b o e n1 n2
      cases q : H b with
      | none => rfl
      | some u =>
        exfalso
        rcases one b (by rw [q]; simp) with z | z
        · rw [z, ha] at e
          cases e
          exact n1 _ _ rfl
        · rw [tsT b z] at e
          cases e
          exact n2 rfl
    have nsB : ∀ {b : Addr} {m : Str → Option Value}, s0.heap.Ns b m → (hidT s0.heap H).Ns b m := by
      rintro b m ⟨o, es, ep, e, d, r⟩
      refine ⟨o, es, ep, hidT_get e (out e (fun us n z => ?_) (fun z => ?_)), d, r⟩
      · rw [d] at z
        cases z
      · rw [d] at z
        cases z
    have kB : K.In (hidT s0.heap H) := by
      intro b o e
      refine hidT_get (inK b o e) ?_
      cases q : H b with
      | none => rfl
      | some u =>
        exfalso
        rcases one b (by rw [q]; simp) with z | z
        · rw [z] at q e
          rw [unK (by rw [q]; simp)] at e
          cases e
        · rw [tsK b z] at e
          cases e
    have limB : (hidT s0.heap H).NoLimit := by
      obtain ⟨mc, h1, h2⟩ := lim
      exact ⟨mc, nsB h1, h2⟩
    have tabs : ∀ t ∈ cs, TabB (hidT s0.heap H) mg t.1 t.2 := by
      intro t ht
      have tT := hT t ht
      refine ⟨?_, ?_, ?_⟩
      · obtain ⟨o, us, fl, tf, fg, tg, inF, tx, tt, e1, q1, q2, q3, q4⟩ := hC t ht
        refine ⟨o, us, fl, tf, fg, tg, inF, tx, tt, hidT_get e1 (out e1 (fun vs n z => ?_) (fun z => ?_)), q1, q2, q3, q4⟩
        · rw [q2] at z
          cases z
        · rw [q2] at z
          cases z
          simp at q3
      · obtain ⟨bm, ob, b1, b2, b3, b4, b5, b6⟩ := hbm
        refine ⟨bm, ob, b1, b2, fun z => ?_, fun z => ?_, hidT_get b3 (out b3 (fun vs n z => ?_) (fun z => ?_)), b4, b5, b6⟩
        · obtain ⟨o, es, ep, e, d, _⟩ := glb
          rw [z, e] at b3
          cases b3
          rw [d] at b6
          cases b6
        · rw [z, tT] at b3
          cases b3
          cases b6
        · rw [b6] at z
          cases z
        · rw [b6] at z
          cases z
      · intro z
        obtain ⟨o, es, ep, e, d, _⟩ := glb
        rw [z, tT] at e
        cases e
        cases d
    have env : Env0 P w K mg (hidT s0.heap H) callerA [] s0 H := by
      refine ⟨rfl, ⟨kB, nsB glb, ⟨mb, nsB blt, bb⟩, limB⟩, fun b o e => of_hidT e, Nat.le_of_eq (hidT_size _ _), trivial, ?_, hok, .of_eq hg⟩
      intro b hb
      cases hb
    have run := (F _ kB (nsB glb) tabs).run callerA [] s0 H ⟨[.ref a], []⟩ [.ref a] [.ref a] _ _ hr rfl env (bind s0 (.ref a)) (.cons rfl .nil) (wish H hHT sq)
    refine codeAny_mono run ?_
    intro res s' h
    match res, h with
    | .error e, h => exact (noX H e s' h).elim
    | .ok .next, h => exact h.elim
    | .ok .brk, h => exact h.elim
    | .ok .cont, h => exact h.elim
    | .ok (.ret u), h =>
      obtain ⟨v, H', os, bare, un, hok', rv, q⟩ := h
      have q' : v = .bl true := q
      subst q'
      have eu : u = Value.bool true := rv
      subst eu
      have old : ∀ b o, b ∉ ts → s0.heap.get? b = some o → s'.heap.get? b = some o := by
        intro b o nb e
        cases z : H b with
        | none => exact un.keep b o e z (fun hb => nomatch hb) (fun hb => nomatch hb)
        | some u =>
          rcases only b with y | y | ⟨ob, xs, y⟩
          · rw [z] at y
            cases y
          · exact absurd y nb
          · obtain ⟨e1, _⟩ := hok b _ y
            obtain ⟨e2, _⟩ := hok' b _ (un.frzs b ob _ y)
            rw [e] at e1
            cases e1
            exact e2
      have grown : ∀ b ∈ ts, ∃ (c : Addr) (more : Array Value), (c, b) ∈ cs ∧ s'.heap.get? b = some { cls := .none, data := .fields more } := by
        intro b hb
        obtain ⟨t, ht, rfl⟩ := List.mem_map.mp hb
        obtain ⟨more, z⟩ := un.tbls t.2 #[] (hHT t ht)
        exact ⟨t.1, _, ht, hok' t.2 _ z⟩
      refine ⟨rfl, ⟨?_, ?_⟩, os, bare⟩
      · intro b o e
        by_cases hb : b ∈ ts
        · obtain ⟨c, more, hc, hm⟩ := grown b hb
          have e2 := tsT b hb
          rw [e] at e2
          cases e2
          exact .inr (.inl ⟨((hC _ hc).tab (hT _ hc)).isCodeTable, rfl, #[], more, rfl, by rw [Array.empty_append]; exact hm⟩)
        · exact .inl (old b o hb e)
      · intro b o e
        by_cases hb : b ∈ ts
        · obtain ⟨c, more, hc, hm⟩ := grown b hb
          exact ⟨_, hm⟩
        · exact ⟨o, old b o hb e⟩
  have put : ∀ (u : Option HO) (b : Addr), (if b = a then u else if b ∈ ts then some (HO.tbl #[]) else none) = if b = a then u else if b ∈ ts then some (HO.tbl #[]) else none := fun _ _ => rfl
  have go : ∀ u : Option HO, (u = none ∨ ∃ o xs, u = some (.frz o (.lst xs))) → SqL K (fun b => if b = a then u else if b ∈ ts then some (HO.tbl #[]) else none) a (ns.map V.int) →
      (∀ o, u = some o → ObjOk P w (fun b => if b = a then u else if b ∈ ts then some (HO.tbl #[]) else none) s0.heap a o) → (u ≠ none → K.lookup a = none) →
      codeAny (model P w) callerA (.call (.ref fa) ⟨[.ref a], []⟩) (fun r s' => r = .ok (.ret (.bool true)) ∧ OldK s0.heap s'.heap ∧ s'.os = s0.os ∧ AllBare s'.gens) s0 := by
    intro u hu sq ok unK
    have atA : (fun b => if b = a then u else if b ∈ ts then some (HO.tbl #[]) else none) a = u := if_pos rfl
    have atT : ∀ b ∈ ts, (fun b => if b = a then u else if b ∈ ts then some (HO.tbl #[]) else none) b = some (.tbl #[]) := fun b hb =>
      (if_neg (fun z => aTs (by rw [← z]; exact hb))).trans (if_pos hb)
    have atN : ∀ b, b ≠ a → b ∉ ts → (fun b => if b = a then u else if b ∈ ts then some (HO.tbl #[]) else none) b = none := fun b h1 h2 => (if_neg h1).trans (if_neg h2)
    refine main _ (fun t ht => atT _ (tsM t ht)) (fun b => ?_) sq (fun b o z => ?_) (fun b z => ?_) (fun z => unK (by rw [← atA]; exact z))
    · by_cases h1 : b = a
      · rw [h1]
        rcases hu with hu | ⟨o, xs, hu⟩
        · exact .inl (atA.trans hu)
        · exact .inr (.inr ⟨o, xs, atA.trans hu⟩)
      · by_cases h2 : b ∈ ts
        · exact .inr (.inl h2)
        · exact .inl (atN b h1 h2)
    · by_cases h1 : b = a
      · rw [h1] at z ⊢
        exact ok o (atA.symm.trans z)
      · by_cases h2 : b ∈ ts
        · have z2 := (atT b h2).symm.trans z
          cases z2
          exact tsT b h2
        · have z2 := (atN b h1 h2).symm.trans z
          cases z2
    · by_cases h1 : b = a
      · exact .inl h1
      · by_cases h2 : b ∈ ts
        · exact .inr h2
        · exact absurd (atN b h1 h2) z
  cases hk : K.lookup a with
  | some o =>
    have e := inK a o hk
    rw [ha] at e
    cases e
    refine go none (.inl rfl) (.inr ⟨_, vs.toArray, _, hk, rfl, rfl, rfl, ?_, by simpa using rel⟩) (fun o z => nomatch z) (fun z => absurd rfl z)
    rw [List.size_toArray, hi.length]
    exact hl
  | none =>
    refine go (some (.frz { cls := .type "list", data := .seq vs.toArray } (.lst (ns.map V.int)))) (.inr ⟨_, _, rfl⟩) (.inl (.inr ⟨{ cls := .type "list", data := .seq vs.toArray }, if_pos rfl⟩)) (fun o z => ?_) (fun _ => hk)
    cases z
    exact ⟨ha, by rw [List.length_map]; exact hl, vs, _, rel, ha⟩
end
end Cf

set_option Elab.async false
set_option linter.all false
set_option maxRecDepth 100000
namespace Cf
open PySem PySem.Spec PyProof.Rows L2
section
variable {X : Cx}
/-- xs[i] of any list, 0 ≤ i -/
theorem ix_la {K : PySem.W.Frag} (e : X.K = K) : IxR X (fun x y H Q => ∃ (p : Addr) (xs : List V) (i : Nat) (v : V), x = .ref p ∧ y = .int (i : Int) ∧ SqL K H p xs ∧ xs[i]? = some v ∧ Q v H) := by
  subst e
  refine ix_imp ix_list fun x y H Q ⟨p, xs, i, v, a, b, c, d, q⟩ => ⟨p, xs, _, v, a, b, c, ?_, q⟩
  have hi : i < xs.length := (List.getElem?_eq_some_iff.mp d).1
  have h1 : ixN xs.length (i : Int) = some i := by
    unfold ixN
    simp
    omega
  unfold atI
  rw [h1]
  exact d
end
end Cf

set_option Elab.async false
set_option linter.all false
set_option maxRecDepth 100000
set_option maxHeartbeats 2000000
namespace Cf
open PySem PySem.Spec PyProof.Rows L2
open LamX (CodeO TabS Tabs ExtN TabB lamEnv lamCx lam_make2)
open PySem.W (keyToks keyToksAll EachIs SortsAt dataKind AllAlike Sortable alike alikeAll)
section
variable {X : Cx} {pins : List (Addr × Obj)} {σ : L2.St} {H : Hp} {s : Shared} {key : Int → Int × Int}
end
section
variable {X : Cx}
end
section
variable {X : Cx}
end
end Cf

set_option Elab.async false
set_option linter.all false
set_option maxRecDepth 100000
namespace Cf
open PySem PySem.Spec PyProof.Rows L2
section
variable {X : Cx}
end
end Cf
namespace Cf
open PySem PySem.Spec PyProof.Rows L2
/-- xs + ys of lists -/
theorem op_catLA {X : Cx} : OpR X (binaryOp .Add) (fun x y H Q => ∃ p q xs ys, x = .ref p ∧ y = .ref q ∧ H p = some (.lst xs) ∧ H q = some (.lst ys) ∧ xs.length + ys.length ≤ sizeLine ∧ New H (.lst (xs ++ ys)) Q) :=
  op_imp op_cat fun x y H Q ⟨p, q, xs, ys, a, b, c, d, l, n⟩ => ⟨p, q, xs, ys, a, b, c, d, l, n.go⟩
end Cf

set_option Elab.async false
set_option linter.all false
set_option maxRecDepth 100000
namespace Cf
open PySem PySem.Spec PyProof.Rows L2
section
variable {X : Cx}
/-- xs[k:] of any list, 0 ≤ k -/
theorem sl_laFrom {K : PySem.W.Frag} (e : X.K = K) : SlR X (fun x lo hi H Q => ∃ p, ∃ xs : List V, ∃ k : Int, x = .ref p ∧ lo = some k ∧ hi = none ∧ SqL K H p xs ∧ 0 ≤ k ∧ New H (.lst (xs.drop k.toNat)) Q) := by
  subst e
  refine sl_imp sl_list fun x lo hi H Q ⟨p, xs, k, a, b, c, d, hk, n⟩ => ?_
  subst a b c
  refine ⟨p, _, rfl, d, ?_⟩
  have e : cutV xs (some k) none = xs.drop k.toNat := by
    have q := cut_drop xs k.toNat
    rw [show ((k.toNat : Nat) : Int) = k by omega] at q
    exact q
  rw [e]
  exact n.go
end
end Cf
namespace Cf
open PySem PySem.Spec PyProof.Rows L2
end Cf

set_option Elab.async false
set_option linter.all false
set_option maxRecDepth 100000
namespace Cf
open PySem PySem.Spec PyProof.Rows L2
section
variable {X : Cx}
end
end Cf

set_option Elab.async false
set_option linter.all false
set_option maxRecDepth 100000
namespace Cf
open PySem PySem.Spec PyProof.Rows L2
/-! sorted of pairs of ints; (x,) * k from 0 on; xs[-1] of any list -/
/-- a list of pairs of ints -/
inductive Pr (H : Hp) : List V → List (Int × Int) → Prop
  | nil : Pr H [] []
  | cons {t : Addr} {i j : Int} {xs : List V} {ps : List (Int × Int)} : H t = some (.tup [.int i, .int j]) → Pr H xs ps → Pr H (.ref t :: xs) ((i, j) :: ps)
section
variable {H H' : Hp} {xs : List V} {ps : List (Int × Int)}
theorem Pr.go (e : ∀ t zs, H t = some (.tup zs) → H' t = some (.tup zs)) : ∀ {xs : List V} {ps : List (Int × Int)}, Pr H xs ps → Pr H' xs ps
  | _, _, .nil => .nil
  | _, _, .cons h t => .cons (e _ _ h) (t.go e)
theorem Pr.kp0 (h : Pr H xs ps) (k : Kp [] H H') : Pr H' xs ps := h.go fun _ _ z => k.at0 z
theorem Pr.md {D : Addr} {ys : List V} (h : Pr H xs ps) (hD : H D = some (.lst ys)) (m : Md D H H') : Pr H' xs ps := h.go fun t zs z => by
  have n : t ≠ D := by
    rintro rfl
    rw [z] at hD
    cases hD
  rw [m t n]
  exact z
theorem Pr.len : ∀ {xs : List V} {ps : List (Int × Int)}, Pr H xs ps → xs.length = ps.length
  | _, _, .nil => rfl
  | _, _, .cons _ t => by rw [List.length_cons, List.length_cons, t.len]
theorem Pr.snoc {t : Addr} {i j : Int} (h : H t = some (.tup [.int i, .int j])) : ∀ {xs : List V} {ps : List (Int × Int)}, Pr H xs ps → Pr H (xs ++ [.ref t]) (ps ++ [(i, j)])
  | _, _, .nil => .cons h .nil
  | _, _, .cons a r => .cons a (r.snoc h)
theorem Pr.get : ∀ {xs : List V} {ps : List (Int × Int)} {i : Nat} {x : V}, Pr H xs ps → xs[i]? = some x → ∃ t, x = .ref t ∧ i < ps.length ∧ H t = some (.tup [.int (ps.getD i (0, 0)).1, .int (ps.getD i (0, 0)).2])
  | _, _, 0, _, .cons h _, e => by
    cases e
    exact ⟨_, rfl, by simp, h⟩
  | _, _, i + 1, _, .cons _ t, e => by
    obtain ⟨u, a, b, c⟩ := t.get (i := i) (by simpa using e)
    exact ⟨u, a, by simpa using b, by simpa using c⟩
/-- what a pair says -/
def kOf (H : Hp) : V → Int × Int
  | .ref t => match H t with
    | some (.tup [.int i, .int j]) => (i, j)
    | _ => (0, 0)
  | _ => (0, 0)
theorem kOf_at {t : Addr} {i j : Int} (h : H t = some (.tup [.int i, .int j])) : kOf H (.ref t) = (i, j) := by
  simp only [kOf, h]
theorem Pr.all : ∀ {xs : List V} {ps : List (Int × Int)}, Pr H xs ps → ∀ x ∈ xs, ∃ t, x = V.ref t ∧ H t = some (.tup [.int (kOf H x).1, .int (kOf H x).2])
  | _, _, .cons h t, x, hx => by
    rcases List.mem_cons.mp hx with z | z
    · subst z
      refine ⟨_, rfl, ?_⟩
      rw [kOf_at h]
      exact h
    · exact t.all x z
theorem Pr.map : ∀ {xs : List V} {ps : List (Int × Int)}, Pr H xs ps → xs.map (kOf H) = ps
  | _, _, .nil => rfl
  | _, _, .cons h t => by rw [List.map_cons, t.map, kOf_at h]
end
section
variable {X : Cx}
end
section
variable {X : Cx}
end
end Cf

set_option Elab.async false
set_option linter.all false
set_option maxRecDepth 100000
namespace Cf
open PySem PySem.Spec PyProof.Rows L2
/-! tuples that have no names of their own: displays, (x,) * k; lists of bools; xs[:k] of any list; tuple(range(n)) -/
section
variable {X : Cx}
end
end Cf

set_option Elab.async false
set_option linter.all false
set_option maxRecDepth 100000
namespace Cf
open PySem PySem.Spec PyProof.Rows L2
/-! set(xs), xs a list of ints -/
section
variable {P : Program} {w : World} {A : Around} {E : Value → Shared → Prop} {s : Shared}
end
section
variable {X : Cx}
end
end Cf

set_option Elab.async false
set_option linter.all false
set_option maxRecDepth 100000
namespace Cf
open PySem PySem.Spec PyProof.Rows L2
/-- a test, with what is known behind it said once -/
theorem pt_up {X : Cx} {c : Expr} {t : TT} (h : PT X c t) : PT X c (upT t) := by
  constructor
  rintro pins s σ H Q I ⟨Q0, q, w⟩
  refine thn (h.run pins s σ H Q0 I q) ?_
  rintro b s' ⟨H', I', z⟩
  exact ⟨H', I', w b H' z⟩
end Cf

set_option Elab.async false
set_option linter.all false
set_option maxRecDepth 100000
namespace Cf
open PySem PySem.Spec PyProof.Rows L2
/-! dicts whose keys are tuples of ints -/
theorem hu1 {A : Around} {k : Nat} (hr : Room k A) : A.units + 1 < cLine := by
  have := hr.units
  omega
end Cf

set_option Elab.async false
set_option linter.all false
set_option maxRecDepth 100000
namespace Cf
open PySem PySem.Spec PyProof.Rows L2
/-! rows that are tuples of the program's own -/
inductive Rt (H : Hp) : List V → List (List Int) → Prop
  | nil : Rt H [] []
  | cons {p : Addr} {ns : List Int} {xs : List V} {rs : List (List Int)} : H p = some (.tup (ns.map V.int)) → Rt H xs rs → Rt H (.ref p :: xs) (ns :: rs)
section
variable {H H' : Hp} {xs ys : List V} {rs ts : List (List Int)}
theorem Rt.go (e : ∀ p zs, H p = some (.tup zs) → H' p = some (.tup zs)) : ∀ {xs : List V} {rs : List (List Int)}, Rt H xs rs → Rt H' xs rs
  | _, _, .nil => .nil
  | _, _, .cons h t => .cons (e _ _ h) (t.go e)
theorem Rt.kp0 (h : Rt H xs rs) (k : Kp [] H H') : Rt H' xs rs := h.go fun _ _ z => k.at0 z
theorem Rt.kt {T : List (Addr × Str)} (h : Rt H xs rs) (k : Kt T H H') : Rt H' xs rs := h.go fun _ _ z => k.atT z
theorem Rt.md {D : Addr} {o : HO} (h : Rt H xs rs) (hD : H D = some o) (no : ∀ zs, o ≠ .tup zs) (m : Md D H H') : Rt H' xs rs := h.go fun t zs z => by
  have n : t ≠ D := by
    rintro rfl
    rw [z] at hD
    cases hD
    exact no _ rfl
  rw [m t n]
  exact z
theorem Rt.hand {a : Addr} {zs : List V} (h : Rt H xs rs) (ha : H a = some (.lst zs)) (m : Kp [a] H H') : Rt H' xs rs := h.go fun t ys z => m.at1 (fun w => by rw [w, ha] at z; cases z) z
theorem Rt.len : ∀ {xs : List V} {rs : List (List Int)}, Rt H xs rs → xs.length = rs.length
  | _, _, .nil => rfl
  | _, _, .cons _ t => by rw [List.length_cons, List.length_cons, t.len]
theorem Rt.one {p : Addr} {ns : List Int} (h : H p = some (.tup (ns.map V.int))) : Rt H [.ref p] [ns] := .cons h .nil
theorem Rt.get : ∀ {xs : List V} {rs : List (List Int)} {i : Nat} {x : V}, Rt H xs rs → xs[i]? = some x → ∃ p, x = .ref p ∧ i < rs.length ∧ H p = some (.tup ((rs.getD i []).map V.int))
  | _, _, 0, _, .cons h _, e => by
    cases e
    exact ⟨_, rfl, by simp, h⟩
  | _, _, i + 1, _, .cons _ t, e => by
    obtain ⟨p, a, b, c⟩ := t.get (i := i) (by simpa using e)
    exact ⟨p, a, by simpa using b, by simpa using c⟩
theorem Rt.rw {K : PySem.W.Frag} : ∀ {xs : List V} {rs : List (List Int)}, Rt H xs rs → Rw K H xs rs
  | _, _, .nil => .nil
  | _, _, .cons h t => .cons (sqT h) t.rw
end
section
variable {X : Cx}
end
end Cf

set_option Elab.async false
set_option linter.all false
set_option maxRecDepth 100000
set_option maxHeartbeats 2000000
namespace Cf
open PySem PySem.Spec PyProof.Rows L2
section
variable {X : Cx}
/-! X(), X a class of the program over ValueError (or over another of its classes), without an __init__ -/
theorem pmk_own0 {C : Addr} {bmB : List Value} {B newId initId : String} {x : Str} {p pos : Pos} (F : ExcBaseFacts B newId initId bmB) (q : PySem.W.excIn X.K C bmB newId = true) (gC : X.mg x = some (.ref C)) (kC : PySem.W.keepIn X.K (.ref C) = true) (r : Raises X (.ref C)) (hg : Gl X x)
    (hdb : (x == ("__debug__" : Str)) = false := by decide) : PMk X (.Call (.Name x p) [] [] pos) (fun _ H Q => Q (.ref C) none H) := by
  intro pins s σ H Q I h
  refine wpAny_Call_Name_kw (ld_glob I hg gC ?_ hdb)
  refine PySem.W.callWith_K0 I.kIn kC ?_
  show wpAny _ _ (call (.ref C) []) _ _ _
  obtain ⟨bm, N, nm, qn, bs, hdct, sn, sub, ab, col, dd, k0, k1, k2, k3, k5, mN, hC, hN, hni, T⟩ := exc_obj I.kIn q
  refine wpAny_call_exc_subT F T hC hN hni (fun h' e hm => ?_) (Nat.zero_le _)
  exact mk_of I hm r h (I.hok.gone hm.new)
end
end Cf

set_option Elab.async false
set_option linter.all false
set_option maxRecDepth 100000
set_option maxHeartbeats 2000000
namespace Cf
open PySem PySem.Spec PyProof.Rows L2
open LamX (CodeO TabS Tabs ExtN TabB lamEnv lamCx lam_make2)
section
variable {X : Cx} {pins : List (Addr × Obj)} {σ : L2.St} {H : Hp} {s : Shared}
end
section
variable {X : Cx} {pins : List (Addr × Obj)} {σ : L2.St} {H : Hp} {s : Shared}
end
section
variable {X : Cx}
end

section
variable {X : Cx} {pins : List (Addr × Obj)} {σ : L2.St} {H : Hp} {s : Shared}
end
section
variable {X : Cx}
end
end Cf

set_option Elab.async false
set_option linter.all false
set_option maxRecDepth 100000
set_option maxHeartbeats 2000000
namespace Cf
open PySem PySem.Spec PyProof.Rows L2
/-! dicts of ints by ints -/
theorem Kt.atD {T : List (Addr × Str)} {H H1 : Hp} {p : Addr} {ks : List (Key × V)} (a : Kt T H H1) (h : H p = some (.dK ks)) : H1 p = some (.dK ks) := a.ext p _ h fun _ w => nomatch w
section
variable {X : Cx}
end
end Cf

set_option Elab.async false
set_option linter.all false
set_option maxRecDepth 100000
set_option maxHeartbeats 2000000
namespace Cf
open PySem PySem.Spec PyProof.Rows L2
section
variable {X : Cx}
end
end Cf

set_option Elab.async false
set_option linter.all false
set_option maxRecDepth 100000
set_option maxHeartbeats 2000000
namespace Cf
open PySem PySem.Spec PyProof.Rows L2
/-! [e for x in .. for y in ..] by walks -/
section
variable {X : Cx}
end
end Cf

set_option Elab.async false
set_option linter.all false
set_option maxRecDepth 100000
set_option maxHeartbeats 2000000
namespace Cf
open PySem PySem.Spec PyProof.Rows L2
section
variable {X : Cx}
end
end Cf

set_option Elab.async false
set_option linter.all false
set_option maxRecDepth 100000
set_option maxHeartbeats 2000000
namespace Cf
open PySem PySem.Spec PyProof.Rows L2
section
variable {prog : Program} {w : World} {A : Around} {E : Value → Shared → Prop} {s : Shared}
end
section
variable {X : Cx}
end
end Cf

set_option Elab.async false
set_option linter.all false
set_option maxRecDepth 100000
set_option maxHeartbeats 2000000
namespace Cf
open PySem PySem.Spec PyProof.Rows L2
section
variable {X : Cx}
end
end Cf

set_option Elab.async false
set_option linter.all false
set_option maxRecDepth 100000
set_option maxHeartbeats 2000000
namespace Cf
open PySem PySem.Spec PyProof.Rows L2
/-! ### dicts of ints by tuples of ints -/
/-! ### rows: pairs of an int and a tuple of ints -/
inductive Rr (H : Hp) : List V → List (Int × List Int) → Prop
  | nil : Rr H [] []
  | cons {t u : Addr} {m : Int} {ns : List Int} {xs : List V} {rs : List (Int × List Int)} : H t = some (.tup [.int m, .ref u]) → H u = some (.tup (ns.map V.int)) → Rr H xs rs → Rr H (.ref t :: xs) ((m, ns) :: rs)
section
variable {H H' : Hp} {xs ys : List V} {rs ts : List (Int × List Int)}
theorem Rr.go (e : ∀ p zs, H p = some (.tup zs) → H' p = some (.tup zs)) : ∀ {xs : List V} {rs : List (Int × List Int)}, Rr H xs rs → Rr H' xs rs
  | _, _, .nil => .nil
  | _, _, .cons a b r => .cons (e _ _ a) (e _ _ b) (Rr.go e r)
theorem Rr.kp0 (h : Rr H xs rs) (k : Kp [] H H') : Rr H' xs rs := h.go fun _ _ z => k.at0 z
theorem Rr.kt {T : List (Addr × Str)} (h : Rr H xs rs) (k : Kt T H H') : Rr H' xs rs := h.go fun _ _ z => k.atT z
theorem Rr.md {D : Addr} {o : HO} (h : Rr H xs rs) (hD : H D = some o) (no : ∀ zs, o ≠ .tup zs) (m : Md D H H') : Rr H' xs rs := h.go fun t zs z => by
  rw [m t (fun w => by rw [w, hD] at z; cases z; exact no _ rfl)]
  exact z
theorem Rr.hand {a : Addr} {zs : List V} (h : Rr H xs rs) (ha : H a = some (.lst zs)) (m : Kp [a] H H') : Rr H' xs rs := h.go fun t ys z => m.at1 (fun w => by rw [w, ha] at z; cases z) z
theorem Rr.len : ∀ {xs : List V} {rs : List (Int × List Int)}, Rr H xs rs → xs.length = rs.length
  | _, _, .nil => rfl
  | _, _, .cons _ _ r => congrArg (· + 1) r.len
theorem Rr.one {p u : Addr} {m : Int} {ns : List Int} (h : H p = some (.tup [.int m, .ref u])) (hu : H u = some (.tup (ns.map V.int))) : Rr H [.ref p] [(m, ns)] := .cons h hu .nil
theorem Rr.get : ∀ {xs : List V} {rs : List (Int × List Int)} {i : Nat} {x : V}, Rr H xs rs → xs[i]? = some x → ∃ p u, x = .ref p ∧ i < rs.length ∧ H p = some (.tup [.int (rs.getD i (0, [])).1, .ref u]) ∧ H u = some (.tup ((rs.getD i (0, [])).2.map V.int))
  | _, _, 0, _, .cons a b r, e => by
    cases e
    exact ⟨_, _, rfl, Nat.succ_pos _, a, b⟩
  | _, _, i + 1, _, .cons a b r, e => by
    obtain ⟨p, u, h1, h2, h3, h4⟩ := Rr.get (i := i) r e
    exact ⟨p, u, h1, Nat.succ_lt_succ h2, h3, h4⟩
end
/-! ### d.items(), d with tuples as keys -/
section
variable {P : Program} {w : World} {K : PySem.W.Frag} {d : Addr} {o : Obj} {es : Array DictEntry} {ep : Nat}
end
/-! ### sorted(d) -/
section
variable {X : Cx}
end
end Cf

set_option Elab.async false
set_option linter.all false
set_option maxRecDepth 100000
set_option maxHeartbeats 2000000
namespace Cf
open PySem PySem.Spec PyProof.Rows L2
/-! ### data of any kind: what its type is -/
def isI : V → Bool
  | .int _ => true
  | _ => false
def btw (v : V) (a b : Int) : Bool := match v with
  | .int i => decide (a ≤ i ∧ i ≤ b)
  | _ => false
/-- a value whose type is known, an int or not, a tuple or not -/
def Kn (K : PySem.W.Frag) (H : Hp) (v : V) : Prop := ∃ (c : String) (b1 b2 : Bool), TyX K H v (.type c) ∧ kitB c "int" = some b1 ∧ kitB c "bool" = some b2 ∧ (b1 && !b2) = isI v
theorem Kn.int {K : PySem.W.Frag} {H : Hp} (i : Int) : Kn K H (.int i) := ⟨"int", true, false, .base (.int i), by decide +kernel, by decide +kernel, rfl⟩
theorem Kn.bl {K : PySem.W.Frag} {H : Hp} (b : Bool) : Kn K H (.bl b) := ⟨"bool", true, true, .base (.bl b), by decide +kernel, by decide +kernel, rfl⟩
theorem Kn.non {K : PySem.W.Frag} {H : Hp} : Kn K H .non := ⟨"NoneType", false, false, .base .non, by decide +kernel, by decide +kernel, rfl⟩
theorem Kn.str {K : PySem.W.Frag} {H : Hp} (x : Str) : Kn K H (.str x) := ⟨"str", false, false, .base (.str x), by decide +kernel, by decide +kernel, rfl⟩
theorem Kn.tup {K : PySem.W.Frag} {H : Hp} {p : Addr} {xs : List V} (h : SqT K H p xs) : Kn K H (.ref p) := ⟨"tuple", false, false, ty_tup h, by decide +kernel, by decide +kernel, rfl⟩
theorem ty_lst {K : PySem.W.Frag} {H : Hp} {p : Addr} {xs : List V} (h : SqL K H p xs) : TyX K H (.ref p) (.type "list") := by
  rcases h with (h | ⟨o, h⟩) | ⟨o, its, n, hk, hc, _⟩
  · exact .base (.lst h)
  · exact .base (.frz h)
  · exact .kList hk hc
theorem Kn.lst {K : PySem.W.Frag} {H : Hp} {p : Addr} {xs : List V} (h : SqL K H p xs) : Kn K H (.ref p) := ⟨"list", false, false, ty_lst h, by decide +kernel, by decide +kernel, rfl⟩
theorem Kn.dK {K : PySem.W.Frag} {H : Hp} {p : Addr} {kvs : List (Key × V)} (h : H p = some (.dK kvs)) : Kn K H (.ref p) := ⟨"dict", false, false, .base (.dK h), by decide +kernel, by decide +kernel, rfl⟩
theorem Kn.dT {K : PySem.W.Frag} {H : Hp} {p : Addr} {kvs : List (List Key × V)} (h : H p = some (.dT kvs)) : Kn K H (.ref p) := ⟨"dict", false, false, .base (.dT h), by decide +kernel, by decide +kernel, rfl⟩
section
variable {X : Cx}
/-- t[i], t a tuple of anything -/
theorem ix_taN {K : PySem.W.Frag} (e : X.K = K) : IxR X (fun x y H Q => ∃ (p : Addr) (xs : List V) (i : Nat) (v : V), x = .ref p ∧ y = .int (i : Int) ∧ SqT K H p xs ∧ xs[i]? = some v ∧ Q v H) := by
  subst e
  refine ix_imp ix_tup fun x y H Q ⟨p, xs, i, v, a, b, c, d, q⟩ => ⟨p, xs, _, v, a, b, c, ?_, q⟩
  exact atI_nat d
end
end Cf

set_option Elab.async false
set_option linter.all false
set_option maxRecDepth 100000
set_option maxHeartbeats 2000000
namespace Cf
open PySem PySem.Spec PyProof.Rows L2
section
variable {P : Program} {w : World} {K : PySem.W.Frag} {mg : Str → Option Value} {base : Heap}
/-- a def that may let exceptions of the program out -/
theorem okX {k : Nat} {x qual : Str} {st : Stmt} {f : Addr} {fd : FuncData}
    {N ps : List Str} {sp : Sp} (F : Fun K x qual st f fd) (S : FnScope N ps (defScope st))
    (len : ∀ vs H Q E, sp vs H Q E → vs.length = ps.length)
    (body : ∀ (cdv : Value) (A : Around) (outer : List Env) (s : Shared) (H : Hp) (vs : List V) (Q : VK) (E : XK),
      (A.deeper (envOfC qual (defScope st) s.heap.objs.size f cdv)).guards = some [] → Room k (A.deeper (envOfC qual (defScope st) s.heap.objs.size f cdv)) → sp vs H Q E →
      ∃ t, PSs (cxOf (L2.CX P w) P w K mg base N qual (defScope st) f cdv A outer s H E) (defBody st) t ∧
        t { nx := fun _ H' => Q .non H', rt := Q } (start N vs) H) :
    FnG P w K mg base (L2.CX P w) (k + 1) f fd ps sp :=
  fnG_of F S len fun cd A o s H vs Q E g hr q => body cd A o s H vs Q E g hr q
/-- a class of the program over ValueError -/
structure ExA (K : PySem.W.Frag) (mg : Str → Option Value) (nm : Str) (C : Addr) : Prop where
  x : PySem.W.excIn K C [.type "ValueError", .type "Exception", .type "BaseException", .type "object"] "ValueError.__new__" = true
  g : mg nm = some (.ref C)
  k : PySem.W.keepIn K (.ref C) = true
  b : PySem.W.subIn K (.ref C) (.type "BaseException") = some true
  t : PySem.W.typeIn K (.ref C) = some (.type "type")
end
section
variable {X : Cx}
theorem passF : Passes (L2.CX X.prog X.w) X (fun _ _ _ => False) := fun _ _ _ _ _ _ _ ⟨_, _, _, _, _, _, _, _, _, _, _, _, z⟩ => z.elim
/-- a def called where what it lets out is taken -/
theorem pe_clS {CX : CXT} {k n : Nat} {sp : Sp} {E : L2.St → XK} {x : Str} {p pos : Pos} {e : Expr} {es : List Expr} {t : TA} (C : Cl X.prog X.w X.K X.mg X.base CX k x n sp) (hr : Room k X.A) (hgd : X.A.guards = some [])
    (hx : ∀ σ, PassesAt CX X σ (E σ)) (hg : Gl X x) (ha : PA X (e :: es) t)
    (hdb : (x == ("__debug__" : Str)) = false := by decide)
    (he : starEach (e :: es) X.env = (false, eval e X.env) :: starEach es X.env := by rfl)
    (hpl : (backTo pos (starEach es X.env)).any (·.1) = false := by rfl) :
    PE X (.Call (.Name x p) (e :: es) [] pos) (tCallS sp E t) := by
  obtain ⟨f, fd, ps, F, hm, hk, hb⟩ := C.ex
  constructor
  intro pins s σ H Q I h
  refine wpAny_Call_Name_kw (ld_glob I hg hm ?_ hdb)
  refine PySem.W.callWith_K (h₀ := X.base) I.ok.mod.kin hk
    (thn (ha.run pos pins s σ H _ I h) ?_) he hpl
  rintro us s1 ⟨vs, H1, I1, r, q⟩
  refine ⟨I1.kIn, ?_⟩
  have q' : sp vs H1 Q (E σ) := q
  have hl : us.length = ps.length := by
    rw [← r.length]
    exact F.len _ _ _ _ q'
  have hb' := hb s1 us I1.kIn (by rw [List.append_nil]; exact hl)
  rw [List.append_nil] at hb'
  refine wpAny_call (codeAny_mono (F.run X.A X.stack s1 H1 ⟨us, []⟩ us vs Q (E σ) hr hgd I1.env0 hb' r q') ?_)
  intro res s' hq
  match res, hq with
  | .error er, hq => exact hx σ pins H1 s1 er s' I1 hq
  | .ok (.ret u), hq => exact I1.after hq
  | .ok .next, hq => exact hq.elim
  | .ok .brk, hq => exact hq.elim
  | .ok .cont, hq => exact hq.elim
/-! ### a caught exception that is kept by a name behind its suite -/
/-- an exception object that was caught: its class, its own dict -/
def ExK (cls : Value) (d : Option Addr) (a : Addr) : HO := .ext fun h => ∃ (oe : Obj) (vs : Array Value), h.get? a = some oe ∧ Zc cls d oe ∧ oe.data = .fields vs
/-- an object that nothing spoke of is known from here on -/
theorem known {pins : List (Addr × Obj)} {σ : L2.St} {H : Hp} {s : Shared} {a : Addr} {oe : Obj} {cls : Value} {d : Option Addr} {vs : Array Value} (I : Inv X pins σ H s) (ha : s.heap.get? a = some oe) (hz : Zc cls d oe) (hd : oe.data = .fields vs) (na : H a = none)
    (n0 : ∀ o, X.s_0.heap.get? a ≠ some o) (nL : X.env.locals ≠ a) (nC : ∀ x c, X.env.cells.lookup x = some c → c ≠ a) (nP : ∀ p ∈ X.pn ++ pins, p.1 ≠ a) : Inv X pins σ (upd H a (ExK cls d a)) s := by
  have old : ∀ b o, X.s_0.heap.get? b = some o → b ≠ a := fun b o e z => n0 o (z ▸ e)
  have stays : ∀ b u, H b = some u → upd H a (ExK cls d a) b = some u := fun b u e => (upd_ne (ne_of_none e na)).trans e
  have new : ObjOk X.prog X.w (upd H a (ExK cls d a)) s.heap a (ExK cls d a) := ⟨⟨oe, vs, ha, hz, hd⟩, ⟨oe, ha⟩, fun _ _ ⟨o, v, q, r⟩ k => ⟨o, v, k o q, r⟩⟩
  have u := I.base
  refine ⟨I.ok, I.os, I.bare, ⟨u.keep, u.slot, fun b o e n hx => (upd_ne (old b o e)).trans (u.free b o e n hx), u.there, fun b xs e => stays _ _ (u.tups b xs e), fun b o v e => stays _ _ (u.frzs b o v e), fun b ps e => ?_⟩, I.loc, I.cell, (upd_ne nL).trans I.free, fun x c e => (upd_ne (nC x c e)).trans (I.freeC x c e), fun p hp => ?_, I.hok.laidN (fun _ _ e => e) na new, I.len⟩
  · obtain ⟨more, e2⟩ := u.tbls b ps e
    exact ⟨more, stays _ _ e2⟩
  · obtain ⟨e1, e2, e3⟩ := I.pin p hp
    exact ⟨e1, (upd_ne (nP p hp)).trans e2, e3⟩
/-- the ends of such a suite -/
def kEnds (i : Nat) (a : Addr) (cls : Value) (d : Option Addr) (D : Ends) : Ends :=
  { nx := fun σ H => H a = none → D.nx (σ.set i none) (upd H a (ExK cls d a)), rt := D.rt, bk := fun σ H => D.bk (σ.set i none) H, ct := fun σ H => D.ct (σ.set i none) H }
/-- what the clause wants of each exception: it is the clause's, and behind the suite it is known -/
def wKeep (K : PySem.W.Frag) (c : Value) (i : Nat) (ts : Addr → Value → Option Addr → TS) (D : Ends) : WX := fun cls d σ H =>
  PySem.W.exmOne K cls c = some true ∧ ∀ a, H a = none → ts a cls d (kEnds i a cls d D) (σ.set i (some (.ref a))) H
theorem ps_try_keep {x n : Str} {c : Value} {i : Nat} {body suite : List Stmt} {b₀ : Stmt} {np pos pos' : Pos} {tb : WX → TS} {ts : Addr → Value → Option Addr → TS}
    (hs : X.stack = X.env :: X.outer) (hf : X.env.frame = some X.env.locals) (hex : X.ex = []) (hN : X.N.Nodup) (hi : X.N[i]? = some n) (hln : X.env.kindOf n = some .local) (hg : Gl X x) (hmg : X.mg x = some c) (hdb : (x == ("__debug__" : Str)) = false)
    (hb : ∀ (W : WX) (pn : List (Addr × Obj)) (xe : Value → Shared → Prop), Takes (X.tr pn xe) W → PassesOwn (model X.prog X.w) X.A X.env xe → PSs (X.tr pn xe) body (tb W))
    (hsu : ∀ (a : Addr) (oe : Obj) (cls : Value) (d : Option Addr) (pn : List (Addr × Obj)), Zc cls d oe → (∃ vs, oe.data = .fields vs) → PSs (X.suite a ((a, oe) :: pn)) (b₀ :: suite) (ts a cls d)) :
    PS X (.Try body [.ExceptHandler (some (.Name x np)) (some n) (b₀ :: suite) pos'] [] [] pos) (fun D σ H => tb (wKeep X.K c i ts D) D σ H) := by
  constructor
  intro pins s σ H D I h
  have ok := I.ok
  have frames : X.A.frames = some (X.env :: X.outer) := ok.frames.trans (by rw [hs])
  refine wpAny_Try_except (wpAny_mono ((hb (wKeep X.K c i ts D) (X.pn ++ pins) _ ?tk PassesOwn.looking).run [] s σ H D (I.toTry _) h) ?nm (fun _ _ z => z))
  case nm =>
    intro f s1 hsp
    match f, hsp with
    | .next, ⟨σ1, H1, J1, q⟩ => exact wpAny_execs_nil ⟨σ1, H1, J1.ofTry ok, q⟩
    | .brk, ⟨σ1, H1, J1, q⟩ => exact ⟨σ1, H1, J1.ofTry ok, q⟩
    | .cont, ⟨σ1, H1, J1, q⟩ => exact ⟨σ1, H1, J1.ofTry ok, q⟩
    | .ret u, ⟨v, σ1, H1, J1, r, q⟩ => exact ⟨v, σ1, H1, J1.ofTry ok, r, q⟩
  case tk =>
    intro u s1 xx
    obtain ⟨a, B, sI, pinsI, σI, HI, cls, d, rfl, JI, nb, up, sky, na, os, ag, hm, hy⟩ := xx
    have J : Inv X pins σI HI sI := JI.ofTry ok
    have sky' : Sky B (X.env :: X.outer) a (Zc cls d) X.env.locals s1.heap := hs ▸ sky
    -- it comes down
    refine Sky.land Zc.steady frames hf sky' fun h3 fl3 up3 => ?_
    obtain ⟨o3, v3, e3, z3, d3⟩ := fl3.there
    have nfr : a ∉ frs (X.env :: X.outer) := fun hin => by
      obtain ⟨_, o', e', nf⟩ := fl3.2.2.1.mem hin
      exact nf v3 (by rw [← Option.some.inj (e3.symm.trans e')]; exact d3)
    have nL : X.env.locals ≠ a := fun z => nfr (List.mem_filterMap.mpr ⟨X.env, List.mem_cons_self, by rw [hf, z]⟩)
    have nF : a ∉ X.fs := fun hin => by
      obtain ⟨e, he, q⟩ := List.mem_filterMap.mp hin
      exact nfr (List.mem_filterMap.mpr ⟨e, List.mem_cons_of_mem _ he, q⟩)
    -- it is new
    have nI : ∀ o, sI.heap.get? a ≠ some o := fun o e => by
      have q := nb a o e (by rw [show (X.tr (X.pn ++ pins) _).stack = X.env :: X.outer from hs]; exact nfr)
      rw [fl3.2.1] at q
      cases q
    have n0 : ∀ o, X.s_0.heap.get? a ≠ some o := fun o e => by
      obtain ⟨o', e'⟩ := J.base.there a o e (by rw [hex]; exact List.not_mem_nil)
      exact nI o' e'
    have nC : ∀ x c, X.env.cells.lookup x = some c → c ≠ a := fun x c e z => by
      obtain ⟨v, o, ho, _⟩ := J.cell x c e
      exact nI o (z ▸ ho)
    have nP : ∀ p ∈ X.pn ++ pins, p.1 ≠ a := fun p hp z => nI p.2 (z ▸ (J.pin p hp).1)
    have J3 : Inv X pins σI HI { s1 with heap := h3 } := J.landed nb fl3.1 (up.trans up3) os ag
    -- the clause's class
    refine wpAny_handleBy_cons (codeAny_handlers_test ?_) (by intro q; cases q)
    have ty : PySem.W.Looks (model X.prog X.w) h3 (typeOf (.ref a)) cls := fun A' Q' E' s' k q => wpAny_typeOf_ref (k _ _ e3) (by rw [z3.1]; exact q)
    have test := PySem.W.exm_one (M := model X.prog X.w) J3.kIn ty hm
    refine ld_glob (X := X.suite a ((a, o3) :: (X.pn ++ pins))) (J3.suite e3 d3 na nL.symm nF) hg hmg (test.here ?_) hdb
    -- the suite
    refine codeAny_handlers_suite_as (HandSPX.lands_againZ fl3 fun h4 fl4 up4 => ?_)
    have J4 : Inv X pins σI HI { s1 with heap := h4 } := J.landed nb fl4.1 ((up.trans up3).trans up4) os ag
    obtain ⟨o4, v4, e4, z4, d4⟩ := fl4.there
    refine store_ok (X := X.suite a ((a, o4) :: (X.pn ++ pins))) (v := .ref a) (J4.suite e4 d4 na nL.symm nF) hN hi (.inl hln) rfl (fun s5 S5 => ?_) (.inr hln)
    refine wpAny_mono ((hsu a o4 cls d (X.pn ++ pins) z4 ⟨_, d4⟩).run [] s5 _ HI _ S5 (hy a na)) (fun f s6 hsp => ?_) (fun _ _ z => False.elim z)
    match f, hsp with
    | .next, ⟨σ6, H6, S6, q6⟩ =>
      have pin := S6.pin (a, o4) (List.mem_append_left _ List.mem_cons_self)
      exact gone_ok (known (S6.unsuite ok) pin.1 z4 d4 pin.2.1 n0 nL nC nP) hN hi hln fun s7 J7 => ⟨_, _, J7, q6 pin.2.1⟩
    | .brk, ⟨σ6, H6, S6, q6⟩ => exact gone_ok (S6.unsuite ok) hN hi hln fun s7 J7 => ⟨_, _, J7, q6⟩
    | .cont, ⟨σ6, H6, S6, q6⟩ => exact gone_ok (S6.unsuite ok) hN hi hln fun s7 J7 => ⟨_, _, J7, q6⟩
    | .ret u, ⟨v6, σ6, H6, S6, r6, q6⟩ => exact gone_ok (S6.unsuite ok) hN hi hln fun s7 J7 => ⟨_, _, _, J7, r6, q6⟩
/-- a caught exception of the class at D, with what its own dict holds -/
structure Kept (H : Hp) (a D dd : Addr) (fs : List (Str × V)) : Prop where
  ob : H a = some (ExK (.ref D) (some dd) a)
  di : H dd = some (.xd fs)
theorem Kept.inst {pins : List (Addr × Obj)} {σ : L2.St} {H : Hp} {s : Shared} {a D dd : Addr} {fs : List (Str × V)} (k : Kept H a D dd fs) (I : Inv X pins σ H s) :
    ∃ (oe od : Obj) (m : Str → Option Value), PySem.W.InstAt s.heap a oe D (some od) ∧ (∀ n, PySem.W.lookIn n od = some (m n)) ∧ ∀ f, RelO (fs.lookup f) (m f) := by
  obtain ⟨⟨oe, vs, e1, ⟨e2, e3⟩, e4⟩, _, _⟩ := I.hok a _ k.ob
  obtain ⟨m, hns, hr⟩ := I.hok dd _ k.di
  obtain ⟨od, ho, hl⟩ := lookIn_ns hns
  exact ⟨oe, od, m, ⟨e1, e2, by unfold PySem.W.notCls; rw [e4] <;> rfl, by rw [e3]; exact ho⟩, hl, hr⟩
theorem kit_kept {K : PySem.W.Frag} {D a : Addr} {oe : Obj} {od : Option Obj} (C : ExcC K D) : PySem.W.KitX K (.ref a) (.ref D) (fun h => PySem.W.InstAt h a oe D od) := by
  have hc : (PySem.W.clsIn K D).isSome = true := by
    obtain ⟨cd, e, _⟩ := PySem.W.any_some C.hd
    rw [e]
    rfl
  exact PySem.W.kitx_exc hc C.hg C.hk C.hs C.ha C.hn C.ht C.hm
/-- isinstance(e, c), e a caught exception -/
theorem call_isK {K : PySem.W.Frag} (eK : X.K = K) : CallR X (.builtin "isinstance")
    (fun xs H Q => ∃ (a D dd : Addr) (fs : List (Str × V)) (c : V) (cv : Value) (b : Bool), ExcC K D ∧ Kept H a D dd fs ∧ xs = [.ref a, c] ∧ (∀ u, RelV c u → u = cv) ∧ PySem.W.kitOne K (.ref D) cv = some b ∧ Q (.bl b) H) := by
  subst eK
  intro pins s σ H xs us Q I r h
  obtain ⟨a, D, dd, fs, c, cv, b, C, k, rfl, hcv, e, q⟩ := h
  obtain ⟨u1, u2, rfl, r1, r2⟩ := vals2 r
  cases (show u1 = Value.ref a from r1)
  obtain rfl := hcv _ r2
  obtain ⟨oe, od, m, J, _⟩ := k.inst I
  exact PySem.W.kia_one (kit_kept C) I.kIn J e (fun z => nomatch z) fun tk => ⟨.bl b, H, I.kept (t' := tk) fun _ _ z => z, rfl, q⟩
/-- isinstance(e, (c1, c2, ..)) -/
theorem call_isKT {K : PySem.W.Frag} (eK : X.K = K) : CallR X (.builtin "isinstance")
    (fun xs H Q => ∃ (a D dd tp : Addr) (fs : List (Str × V)) (cs : List V) (ws : List Value) (b : Bool), ExcC K D ∧ Kept H a D dd fs ∧ xs = [.ref a, .ref tp] ∧ H tp = some (.tup cs) ∧ (∀ us, Vals cs us → us = ws) ∧ PySem.W.kitAny K (.ref D) ws = some b ∧ Q (.bl b) H) := by
  subst eK
  intro pins s σ H xs us Q I r h
  obtain ⟨a, D, dd, tp, fs, cs, ws, b, C, k, rfl, hT, hcs, e, q⟩ := h
  obtain ⟨u1, u2, rfl, r1, r2⟩ := vals2 r
  cases (show u1 = Value.ref a from r1)
  cases (show u2 = Value.ref tp from r2)
  obtain ⟨oe, od, m, J, _⟩ := k.inst I
  obtain ⟨_, its, rv, o, h1, h2, n, h3⟩ := (show ObjOk X.prog X.w H s.heap tp (.tup cs) from I.hok tp _ hT)
  obtain rfl := hcs _ rv
  obtain ⟨o1, o2, o3, o4⟩ := o
  simp only at h2 h3
  subst h2 h3
  exact PySem.W.kia_tup (kit_kept C) I.kIn J h1 e (fun z => nomatch z) fun tk => ⟨.bl b, H, I.kept (t' := tk) fun _ _ z => z, rfl, q⟩
/-- e.f, e a caught exception -/
theorem pe_kf {K : PySem.W.Frag} (eK : X.K = K) {e : Expr} {te : TE} {pos : Pos} {n : Str} (he : PE X e te) (hb : attributeBase e n X.env (eval e X.env) = eval e X.env := by rfl) :
    PE X (.Attribute e n pos) (fun σ H Q => te σ H fun x H1 => ∃ (a D dd : Addr) (fs : List (Str × V)) (v : V), x = .ref a ∧ XfC K D ∧ PySem.W.findIn K (.ref D) n = some none ∧ Kept H1 a D dd fs ∧ fs.lookup n = some v ∧ Q v H1) := by
  subst eK
  constructor
  intro pins s σ H Q I h
  refine attr_of hb (thn (he.run pins s σ H _ I h) fun u s1 hh => ?_)
  obtain ⟨x, H1, I1, rx, a, D, dd, fs, v, rfl, T, hno, k, l, q⟩ := hh
  cases (show u = Value.ref a from rx)
  obtain ⟨oe, od, m, J, hl, hr⟩ := k.inst I1
  obtain ⟨w, hw, rw_⟩ := RelO.some_of (v := v) (o := m n) (by rw [← l]; exact hr n)
  exact HandSPX.exc_get I1.kIn J T.ga T.gg T.exC (PySem.W.findObj_own T.hdC hno rfl (by rw [hl, hw])) (handed_of rw_) ⟨v, H1, I1.tok _, rw_, q⟩
/-! ### X(v), X a class of the program over ValueError whose __init__ keeps v as value -/
/-- such an __init__ -/
def sp_init (C : Addr) : Sp := fun vs H Q _ => ∃ (a : Addr) (v : V), vs = [.ref a, v] ∧ H a = some (exo a C none) ∧ ∀ d, H d = none → d ≠ a → Q .non (upd (upd H d (exd d [("value", v)])) a (exo a C (some d)))
/-- what the text says of such a class -/
structure ValC (K : PySem.W.Frag) (mg : Str → Option Value) (x : Str) (C fI : Addr) (fd : FuncData) : Prop where
  o : OexC K C
  g : mg x = some (.ref C)
  i : PySem.W.findIn K (.ref C) "__init__" = some (some (.ref fI))
  t : PySem.W.typeIn K (.ref fI) = some (.type "function")
  b : Binds K fd ["self", "value"] []
  no : PySem.W.findIn K (.ref C) "value" = some none
theorem pmk_value {C fI : Addr} {fd : FuncData} {k : Nat} {x : Str} {p pos : Pos} {e : Expr} {te : TE} (T : ValC X.K X.mg x C fI fd) (F1 : FnOk X.prog X.w X.K X.mg X.base CX0 k fI fd ["self", "value"] (sp_init C)) (hr : Room (k + 1) X.A) (hg : Gl X x) (he : PE X e te)
    (hdb : (x == ("__debug__" : Str)) = false := by decide) (hs : starEach [e] X.env = (false, eval e X.env) :: starEach [] X.env := by rfl) (hpl : (backTo pos (starEach [] X.env)).any (·.1) = false := by rfl) :
    PMk X (.Call (.Name x p) [e] [] pos) (fun σ H Q => te σ H fun v H1 => ∀ d, H1 d = none → Q (.ref C) (some d) (upd H1 d (.xd [("value", v)]))) := by
  intro pins s σ H Q I h
  refine pmk_oex (dvs := []) T.o T.i T.t F1 hr T.b .nil (fun _ _ _ _ _ _ _ z => z.elim) hg T.g (pa_cons (pe_mono he) pa_nil hs) hdb hs hpl pins s σ H Q I ?_
  refine ⟨_, h, fun v H1 q => ?_⟩
  refine ⟨by show 1 ≤ 1000; decide, fun a ha => ⟨a, v, rfl, upd_same, fun d hd nd => ⟨rfl, d, [("value", v)], upd_same, ?_, ?_, ?_⟩⟩⟩
  · rw [upd_ne nd, upd_same]
  · exact (upd_ne nd).symm.trans hd
  · have hd1 : H1 d = none := (upd_ne nd).symm.trans hd
    have e : upd (del (upd (upd (upd H1 a (exo a C none)) d (exd d [("value", v)])) a (exo a C (some d))) a) d (.xd [("value", v)]) = upd H1 d (.xd [("value", v)]) := by
      funext b
      by_cases hb : b = d
      · rw [hb, upd_same, upd_same]
      · rw [upd_ne hb, upd_ne hb]
        by_cases h2 : b = a
        · rw [h2, del_same, ha]
        · rw [del_ne h2, upd_ne h2, upd_ne hb, upd_ne h2]
    rw [e]
    exact q d hd1
/-! ### xs.count(y), xs.index(y) of a list of bools -/
end
end Cf

set_option Elab.async false
set_option linter.all false
set_option maxRecDepth 100000
set_option maxHeartbeats 2000000
namespace Cf
open PySem PySem.Spec PyProof.Rows L2
open LamX (CodeO TabS Tabs ExtN TabB LamS lamEnv lamCx lam_make2 lam_start2 tLam run_ofS)
/-- what is known of it is used -/
def tlU (tl : XK → Hp → VK → Prop) : XK → Hp → VK → Prop := fun E' H Q' => ∃ (E : XK) (Q : VK), (∀ cls d H1, E cls d H1 → E' cls d H1) ∧ (∀ v H1, Q v H1 → Q' v H1) ∧ tl E H Q
/-! ### a lambda without parameters that is handed to a def, and what it lets out -/
section
variable {X : Cx} {pins : List (Addr × Obj)} {σ : L2.St} {H : Hp} {s : Shared}
/-- a() in the def at g that was handed the lambda at f -/
theorem act_lam {Ng : List Str} {qg : Str} {sg : Scope} {g f c' : Addr} {cdg pm ctv : Value} {params : Arguments} {body : Expr} {scope : Scope} {k i : Nat} {a : Str} {pn : List (Addr × Obj)} {xe : Value → Shared → Prop} {W : WX} {tb : XK → TE} {p1 p2 : Pos}
    (I : L2.Inv X pins σ H s) (S : LamS X.env.scope scope)
    (hf : s.heap.get? f = some (PySem.W.kla_obj "<lambda>" (X.env.qual ++ "<lambda>") params body scope (cloFrom X.env.cells scope.names []) pm c' ctv)) (nf : H f = none) (ff : f ∉ frs X.stack)
    (bnd : bindArgs (PySem.W.kla_fn "<lambda>" (X.env.qual ++ "<lambda>") params body scope (cloFrom X.env.cells scope.names []) pm (.ref c') ctv) ⟨[], []⟩ = pure [])
    (hgd : X.A.guards = some []) (room : Room (k + 1) (X.A.deeper (envOfC qg sg s.heap.objs.size g cdg)))
    (hb : ∀ (A : Around) (outer : List Env) (s : Shared) (H : Hp) (E : XK), A.guards = some [] → Room k (A.deeper (lamEnv X scope s.heap.objs.size f c')) → PE (lamCx X A outer s H E scope f c') body (tb E))
    (tk : Takes ((cxOf CX0 X.prog X.w X.K X.mg X.base Ng qg sg g cdg X.A X.stack s H E0).tr pn xe) W) (hN : Ng[i]? = some a) (hv : Vis sg a) (hd : (a == ("__debug__" : Str)) = false := by decide) (hcd : (a == ("__classdict__" : Str)) = false := by decide) :
    PE ((cxOf CX0 X.prog X.w X.K X.mg X.base Ng qg sg g cdg X.A X.stack s H E0).tr pn xe) (.Call (.Name a p1) [] [] p2)
      (fun σZ HZ Q => σZ[i]? = some (some (.ref f)) ∧ HZ c' = some (CodeO c' (X.env.qual ++ "<lambda>")) ∧ tlU (fun E H' Q' => tb E σ H' Q') (fun cls d H' => W cls d σZ H') HZ Q) := by
  constructor
  rintro pz sz σZ HZ Q IZ ⟨slot, code, E, Q0, toW, toQ, want⟩
  refine wpAny_Call_Name_kw (thn ((pe_var (pos := p1) (i := i) hN hv hd hcd).run pz sz σZ HZ (fun v H1 => v = .ref f ∧ H1 = HZ) IZ ⟨.ref f, slot, rfl, rfl⟩) ?_)
  rintro u s1 ⟨v, H1, I1, rv, rfl, rfl⟩
  cases (show u = Value.ref f from rv)
  have still := I1.base.keep f _ hf nf ff List.not_mem_nil
  refine PySem.W.callWith_F0 ⟨_, _, _, _, still⟩ ?_
  obtain ⟨⟨oc, vs, t, at1, at2, at3⟩, _, _⟩ := I1.hok c' _ code
  have ran : codeAny (model X.prog X.w) (X.A.deeper (envOfC qg sg s.heap.objs.size g cdg)) (.call (.ref f) ⟨[], []⟩)
      (CR (L2.CX X.prog X.w) (envOfC qg sg s.heap.objs.size g cdg :: X.stack) X.prog X.w H1 s1 Q0 E) s1 := by
    refine PySem.W.kla_callFunE room.depth still rfl S.co S.gen rfl ⟨c', oc, vs, t, rfl, at1, at2, at3⟩ ?_
    rw [bnd]
    refine wpAny_pure (wpAny_newFunctionEnv (fun y hy => (S.own y hy).2) (fun y hy => (List.not_mem_nil hy).elim) (fun h1 hns hsb => ⟨I1.nolimit.fresh _ hsb, ?_⟩) S.kind)
    show codeAny _ _ (.expr body (lamEnv X scope s1.heap.objs.size f c')) _ _
    have stays : ∀ b o, s1.heap.get? b = some o → h1.get? b = some o := by
      intro b o e
      exact hsb.extBut b o (Nat.ne_of_lt (Heap.lt_size e)) (Heap.get?_push_of_some _ e)
    have J := lam_start2 (f := f) (c' := c') (tk := s1.toks + ([] : List (Str × Value)).length) (E := E) I S I1.env0 room.hd I1.base hns stays
    refine PySem.W.kla_codeExpr (wpAny_mono ((hb (X.A.deeper (envOfC qg sg s.heap.objs.size g cdg)) _ s1 H1 _ hgd (room.deeper _)).run [] _ _ H1 Q0 J want) ?_ fun _ _ z => z)
    rintro y s' ⟨z, H', J', rz, q⟩
    exact ⟨z, H', J'.os, J'.bare, J'.base, J'.hok, rz, q⟩
  refine wpAny_call (codeAny_mono ran ?_)
  intro r s' hq
  match r, hq with
  | .error e, hq => exact tk e s' (XE.of_call I1 toW hq)
  | .ok (.ret u), hq =>
    obtain ⟨v, H', J, rv, q⟩ := I1.after hq
    exact ⟨v, H', J, rv, toQ v H' q⟩
  | .ok .next, hq => exact hq.elim
  | .ok .brk, hq => exact hq.elim
  | .ok .cont, hq => exact hq.elim
end
section
variable {P : Program} {w : World} {K : PySem.W.Frag} {mg : Str → Option Value} {base : Heap}
/-- a def that calls what it is handed: what comes of it, by what comes of the lambda -/
def Hands (P : Program) (w : World) (K : PySem.W.Frag) (mg : Str → Option Value) (base : Heap) (k : Nat) (x a : Str) (Ng : List Str) (st : Stmt) (TT : (XK → Hp → VK → Prop) → Hp → VK → Prop) : Prop :=
  ∀ (g : Addr) (cdg : Value) (A : Around) (outer : List Env) (s : Shared) (H : Hp) (Q : VK) (f c' : Addr) (q : Str) (tl : XK → Hp → VK → Prop),
    A.guards = some [] → Room k (A.deeper (envOfC x (defScope st) s.heap.objs.size g cdg)) →
    (∀ (W : WX) (pn : List (Addr × Obj)) (xe : Value → Shared → Prop) (p1 p2 : Pos), Takes ((cxOf CX0 P w K mg base Ng x (defScope st) g cdg A outer s H E0).tr pn xe) W →
      PE ((cxOf CX0 P w K mg base Ng x (defScope st) g cdg A outer s H E0).tr pn xe) (.Call (.Name a p1) [] [] p2) (fun σZ HZ Q' => σZ[0]? = some (some (.ref f)) ∧ HZ c' = some (CodeO c' q) ∧ tlU tl (fun cls d H' => W cls d σZ H') HZ Q')) →
    H c' = some (CodeO c' q) → TT tl H Q →
    ∃ t, PSs (cxOf CX0 P w K mg base Ng x (defScope st) g cdg A outer s H E0).nox (defBody st) t ∧ t { nx := fun _ H' => Q .non H', rt := Q } (L2.start Ng [.ref f]) H
/-- what a caller knows of such a def -/
structure ClH (P : Program) (w : World) (K : PySem.W.Frag) (mg : Str → Option Value) (base : Heap) (k : Nat) (x : Str) (TT : (XK → Hp → VK → Prop) → Hp → VK → Prop) : Prop where
  ex : ∃ (a : Str) (Ng : List Str) (st : Stmt) (g : Addr) (fd : FuncData), Fun K x x st g fd ∧ mg x = some (.ref g) ∧ Binds K fd [a] [] ∧ FnScope Ng [a] (defScope st) ∧ Ng[0]? = some a ∧ Vis (defScope st) a ∧ (a == ("__debug__" : Str)) = false ∧ (a == ("__classdict__" : Str)) = false ∧ Hands P w K mg base k x a Ng st TT
end
section
variable {X : Cx}
/-- x(lambda: body) -/
theorem pe_hand {T : List (Addr × Str)} {TT : (XK → Hp → VK → Prop) → Hp → VK → Prop} {x : Str} {c P : Addr} {k : Nat} {params : Arguments} {body : Expr} {scope : Scope} {t : XK → TE} {p lpos pos : Pos} (C : ClH X.prog X.w X.K X.mg X.base (k + 1) x TT) (hx : Gl X x)
    (TB : TabB X.base X.mg c P) (hc : X.env.code = .ref c) (hm : (P, X.env.qual ++ "<lambda>") ∈ T) (hu : ∀ p ∈ T, p.1 = P → p.2 = X.env.qual ++ "<lambda>") (hr : Room (k + 2) X.A) (hgd : X.A.guards = some []) (S : LamS X.env.scope scope) (hdef : defaultsOf params X.env = ([], []))
    (bnd : ∀ (q : Str) (cl : List (Str × Addr)) (pm cv ctv : Value), bindArgs (PySem.W.kla_fn "<lambda>" q params body scope cl pm cv ctv) ⟨[], []⟩ = pure [])
    (hb : ∀ (A : Around) (outer : List Env) (s : Shared) (H : Hp) (E : XK) (f c' : Addr), A.guards = some [] → Room k (A.deeper (lamEnv X scope s.heap.objs.size f c')) → PE (lamCx X A outer s H E scope f c') body (t E))
    (hdb : (x == ("__debug__" : Str)) = false := by decide) :
    PE X (.Call (.Name x p) [.Lambda params body scope lpos] [] pos) (tLam T TT t) := by
  obtain ⟨a, Ng, st, g, fd, F, mx, B, Sg, hN, hv, d1, d2, give⟩ := C.ex
  obtain ⟨oc, od, kV, doc, pmv, an, cd, ct, sl, rfl, look, code⟩ := F.ex
  constructor
  rintro pins s σ H Q I ⟨tabs, want⟩
  refine wpAny_Call_Name_kw (ld_glob I hx mx ?_ hdb)
  refine PySem.W.callWith_K (h₀ := X.base) I.ok.mod.kin F.kp ?_ (by rfl) (by rfl)
  show wpAny _ _ (spliced ((false, eval (.Lambda params body scope lpos) X.env) :: backTo pos (starEach [] X.env))) _ _ s
  refine Calls.spliced_cons (lam_make2 I TB hc hm hu tabs hdef (S.has I.ok) ?_)
  intro f c' pm ctv H1 s' I1 ext tabs1 obj nf ff co
  refine Calls.spliced_nil ⟨I1.kIn, ?_⟩
  have ran : codeAny (model X.prog X.w) X.A (.call (.ref g) ⟨[.ref f], []⟩) (CR CX0 X.stack X.prog X.w H1 s' Q E0) s' := by
    refine run_ofS (N := Ng) (ps := [a]) (us := [.ref f]) (vs := [.ref f]) look code Sg hr I1.env0 (B s' [.ref f] I1.kIn rfl) (.cons rfl .nil) rfl fun room => ?_
    obtain ⟨tt, judged, reading⟩ := give g cd X.A X.stack s' H1 Q f c' (X.env.qual ++ "<lambda>") (fun E H' Q' => t E σ H' Q') hgd room
      (fun W pn xe p1 p2 tk => act_lam (i := 0) I1 S obj nf ff (bnd _ _ _ _ _) hgd room (fun A outer s H E gd r => hb A outer s H E f c' gd r) tk hN hv d1 d2) co (want H1 ext tabs1)
    exact ⟨tt, judged.nox, reading⟩
  refine wpAny_call (codeAny_mono ran ?_)
  intro r s2 hq
  match r, hq with
  | .error e, hq => exact False.elim hq
  | .ok (.ret u), hq => exact I1.after hq
  | .ok .next, hq => exact hq.elim
  | .ok .brk, hq => exact hq.elim
  | .ok .cont, hq => exact hq.elim
end
end Cf

set_option Elab.async false
set_option linter.all false
set_option maxRecDepth 100000
set_option maxHeartbeats 2000000
namespace Cf
open PySem PySem.Spec PyProof.Rows L2
open LamX (Tabs)
theorem Cl.imp {P : Program} {w : World} {K : PySem.W.Frag} {mg : Str → Option Value} {base : Heap} {CX : CXT} {k n : Nat} {x : Str} {sp sp' : Sp} (C : Cl P w K mg base CX k x n sp) (h : ∀ vs H Q E, sp' vs H Q E → sp vs H Q E) : Cl P w K mg base CX k x n sp' := by
  obtain ⟨f, fd, ps, F, a, b, c⟩ := C.ex
  exact ⟨f, fd, ps, ⟨fun vs H Q E q => F.len vs H Q E (h vs H Q E q), fun A o s H a us vs Q E hr hg e b r q => F.run A o s H a us vs Q E hr hg e b r (h vs H Q E q)⟩, a, b, c⟩
/-! ### data of any kind, empty dicts among it -/
mutual
inductive Da (K : PySem.W.Frag) (H : Hp) : V → PyData → Prop
  | non : Da K H .non .none
  | bl (b : Bool) : Da K H (.bl b) (.bool b)
  | int (i : Int) : Da K H (.int i) (.int i)
  | str (x : Str) : Da K H (.str x) (.str x)
  | lst {a : Addr} {xs : List V} {ds : List PyData} : H a = some (.lst xs) → a ≠ sysModules → DaAll K H xs ds → Da K H (.ref a) (.list ds)
  | tup {a : Addr} {xs : List V} {ds : List PyData} : SqT K H a xs → DaAll K H xs ds → Da K H (.ref a) (.tuple ds)
  | dct {a : Addr} : H a = some (.dT []) → Da K H (.ref a) (.dict [])
inductive DaAll (K : PySem.W.Frag) (H : Hp) : List V → List PyData → Prop
  | nil : DaAll K H [] []
  | cons {v : V} {vs : List V} {d : PyData} {ds : List PyData} : Da K H v d → DaAll K H vs ds → DaAll K H (v :: vs) (d :: ds)
end
mutual
theorem Da.kt {K : PySem.W.Frag} {T : List (Addr × Str)} {H H' : Hp} (k : Kt T H H') : ∀ {v : V} {d : PyData}, Da K H v d → Da K H' v d
  | _, _, .non => .non
  | _, _, .bl b => .bl b
  | _, _, .int i => .int i
  | _, _, .str x => .str x
  | _, _, .lst s n h => .lst (k.atL s) n (DaAll.kt k h)
  | _, _, .tup s h => .tup (k.tup0 s) (DaAll.kt k h)
  | _, _, .dct h => .dct (k.ext _ _ h fun ps z => nomatch z)
theorem DaAll.kt {K : PySem.W.Frag} {T : List (Addr × Str)} {H H' : Hp} (k : Kt T H H') : ∀ {vs : List V} {ds : List PyData}, DaAll K H vs ds → DaAll K H' vs ds
  | _, _, .nil => .nil
  | _, _, .cons h t => .cons (Da.kt k h) (DaAll.kt k t)
end
theorem Da.kp {K : PySem.W.Frag} {H H' : Hp} (k : Kp [] H H') {v : V} {d : PyData} (h : Da K H v d) : Da K H' v d := h.kt (T := []) k.kt
theorem DaAll.kp {K : PySem.W.Frag} {H H' : Hp} (k : Kp [] H H') {vs : List V} {ds : List PyData} (h : DaAll K H vs ds) : DaAll K H' vs ds := h.kt (T := []) k.kt
section
variable {X : Cx} {pins : List (Addr × Obj)} {σ : L2.St} {H : Hp} {s : Shared}
mutual
theorem Da.rd (I : L2.Inv X pins σ H s) : ∀ (d : PyData) (v : V) (u : Value), Da X.K H v d → RelV v u → ∃ as, Reads s.heap u d as ∧ sysModules ∉ as
  | .none, _, _, h, r => by
    cases h
    cases r
    exact ⟨_, .none, List.not_mem_nil⟩
  | .bool b, _, _, h, r => by
    cases h
    cases r
    exact ⟨_, .bool b, List.not_mem_nil⟩
  | .int i, _, _, h, r => by
    cases h
    obtain ⟨t, rfl⟩ := r
    exact ⟨_, .int i t, List.not_mem_nil⟩
  | .str x, _, _, h, r => by
    cases h
    obtain ⟨t, rfl⟩ := r
    exact ⟨_, .str x t, List.not_mem_nil⟩
  | .list ds, _, _, h, r => by
    cases h with
    | lst hs na ha =>
      cases r
      obtain ⟨its, rv, ⟨o, n, ho, hc, _, hd⟩, _⟩ := I.list (.inl (.inl hs))
      obtain ⟨as, hr, hn⟩ := DaAll.rd I ds _ its ha rv
      refine ⟨_, .list ho hc hd hr, fun z => ?_⟩
      rcases List.mem_cons.mp z with z | z
      · exact na z.symm
      · exact hn z
  | .tuple ds, _, _, h, r => by
    cases h with
    | tup hs ha =>
      cases r
      obtain ⟨its, rv, ⟨o, ho, hc, n, hd⟩, _⟩ := I.tuple hs
      obtain ⟨as, hr, hn⟩ := DaAll.rd I ds _ its ha rv
      exact ⟨_, .tuple ho hc hd hr, hn⟩
  | .dict kvs, _, _, h, r => by
    cases h with
    | dct hd =>
      cases r
      obtain ⟨_, hsm, xs, hp, o, es, ep, ho, he, hdt, hes, _⟩ := I.hok _ _ hd
      cases hp
      have e0 : es.toList = [] := hes
      refine ⟨_, .dict (as := []) (bs := []) ho he.1 hdt (by rw [e0]; exact .nil) (by rw [e0]; exact .nil), fun z => ?_⟩
      rcases List.mem_cons.mp z with z | z
      · rw [← z] at hsm
        exact absurd hsm (by decide)
      · cases z
theorem DaAll.rd (I : L2.Inv X pins σ H s) : ∀ (ds : List PyData) (vs : List V) (us : List Value), DaAll X.K H vs ds → Vals vs us → ∃ as, ReadsAll s.heap us ds as ∧ sysModules ∉ as
  | [], _, _, h, r => by
    cases h
    cases r
    exact ⟨_, .nil, List.not_mem_nil⟩
  | d :: ds, _, _, h, r => by
    cases h with
    | cons h1 h2 =>
      cases r with
      | cons r1 r2 =>
        obtain ⟨as, q1, n1⟩ := Da.rd I d _ _ h1 r1
        obtain ⟨bs, q2, n2⟩ := DaAll.rd I ds _ _ h2 r2
        exact ⟨_, .cons q1 q2, fun z => (List.mem_append.mp z).elim n1 n2⟩
end
end
/-! ### how long a shown thing is, at any depth -/
structure Sm (n e : Nat) (d : PyData) : Prop where
  l : d.shown.length ≤ n
  s : d.showable = true
  d : d.depth ≤ e
theorem Sm.mono {n e n' e' : Nat} {d : PyData} (h : Sm n e d) (a : n ≤ n') (b : e ≤ e') : Sm n' e' d := ⟨Nat.le_trans h.l a, h.s, Nat.le_trans h.d b⟩
theorem Sm.int {i : Int} (h : i.natAbs < 2 ^ 100) : Sm 101 0 (.int i) := ⟨int_shown h, (int_ok h).1, (int_ok h).2⟩
theorem Sm.none : Sm 10 0 .none := ⟨by decide +kernel, by decide +kernel, by decide +kernel⟩
theorem Sm.bool (b : Bool) : Sm 10 0 (.bool b) := by cases b <;> exact ⟨by decide +kernel, by decide +kernel, by decide +kernel⟩
theorem Sm.tup {n e : Nat} {ds : List PyData} (h : ∀ d ∈ ds, Sm n e d) : Sm (ds.length * (n + 2) + 3) (e + 1) (.tuple ds) := by
  refine ⟨?_, ?_, ?_⟩
  · simp only [PyData.shown]
    rw [shownAll_map]
    have h1 := tupleText_le (ds.map PyData.shown)
    have h2 : piled (ds.map PyData.shown) ≤ (ds.map PyData.shown).length * (n + 2) := piled_of fun t ht => by
      obtain ⟨d, hd, rfl⟩ := List.mem_map.mp ht
      exact (h d hd).l
    rw [List.length_map] at h2
    omega
  · simp only [PyData.showable]
    exact showableAll_of fun d hd => (h d hd).s
  · simp only [PyData.depth]
    have := depthAll_of (m := e) fun d hd => (h d hd).d
    omega
theorem Sm.lst {n e : Nat} {ds : List PyData} (h : ∀ d ∈ ds, Sm n e d) : Sm (ds.length * (n + 2) + 3) (e + 1) (.list ds) := by
  refine ⟨?_, ?_, ?_⟩
  · simp only [PyData.shown]
    rw [shownAll_map]
    have h1 := listText_le (ds.map PyData.shown)
    have h2 : piled (ds.map PyData.shown) ≤ (ds.map PyData.shown).length * (n + 2) := piled_of fun t ht => by
      obtain ⟨d, hd, rfl⟩ := List.mem_map.mp ht
      exact (h d hd).l
    rw [List.length_map] at h2
    omega
  · simp only [PyData.showable]
    exact showableAll_of fun d hd => (h d hd).s
  · simp only [PyData.depth]
    have := depthAll_of (m := e) fun d hd => (h d hd).d
    omega
theorem Sm.shows {n e : Nat} {d : PyData} (h : Sm n e d) (a : n ≤ 10000000 := by decide) (b : e ≤ 60 := by decide) : Shows d := ⟨h.s, Nat.le_trans h.d b, Nat.le_trans h.l (Nat.le_trans a (by decide))⟩
section
variable {X : Cx}
end
end Cf

set_option Elab.async false
set_option linter.all false
set_option maxRecDepth 100000
set_option maxHeartbeats 2000000
namespace Cf
open PySem PySem.Spec PyProof.Rows L2
open LamX (Tabs)
/-! ### rules of two kinds -/
section
variable {X : Cx}
/-! ### a bool where an int stands -/
/-- what number a bool or an int is -/
inductive Num : V → Int → Prop
  | int (i : Int) : Num (.int i) i
  | bl (b : Bool) : Num (.bl b) (b2i b)
/-! ### t[::-1], t a tuple of anything -/
end
end Cf

set_option Elab.async false
set_option linter.all false
set_option maxRecDepth 100000
set_option maxHeartbeats 2000000
namespace Cf
open PySem PySem.Spec PyProof.Rows L2
open LamX (Tabs)
/-! ### data of any kind beside addresses N that are in use: its lists are none of them -/
mutual
inductive Db (K : PySem.W.Frag) (N : Addr → Prop) (H : Hp) : V → PyData → Prop
  | non : Db K N H .non .none
  | bl (b : Bool) : Db K N H (.bl b) (.bool b)
  | int (i : Int) : Db K N H (.int i) (.int i)
  | str (x : Str) : Db K N H (.str x) (.str x)
  | lst {a : Addr} {xs : List V} {ds : List PyData} : H a = some (.lst xs) → ¬ N a → DbAll K N H xs ds → Db K N H (.ref a) (.list ds)
  | tup {a : Addr} {xs : List V} {ds : List PyData} : SqT K H a xs → DbAll K N H xs ds → Db K N H (.ref a) (.tuple ds)
  | dct {a : Addr} : H a = some (.dT []) → Db K N H (.ref a) (.dict [])
inductive DbAll (K : PySem.W.Frag) (N : Addr → Prop) (H : Hp) : List V → List PyData → Prop
  | nil : DbAll K N H [] []
  | cons {v : V} {vs : List V} {d : PyData} {ds : List PyData} : Db K N H v d → DbAll K N H vs ds → DbAll K N H (v :: vs) (d :: ds)
end
section
variable {K : PySem.W.Frag} {N N' : Addr → Prop} {H H' : Hp}
/-- what stays of a heap, stays of its data -/
structure Stay (K : PySem.W.Frag) (N : Addr → Prop) (H H' : Hp) : Prop where
  l : ∀ p xs, ¬ N p → H p = some (.lst xs) → H' p = some (.lst xs)
  t : ∀ p xs, SqT K H p xs → SqT K H' p xs
  d : ∀ p, H p = some (.dT []) → H' p = some (.dT [])
mutual
theorem Db.stay (k : Stay K N H H') : ∀ {v : V} {d : PyData}, Db K N H v d → Db K N H' v d
  | _, _, .non => .non
  | _, _, .bl b => .bl b
  | _, _, .int i => .int i
  | _, _, .str x => .str x
  | _, _, .lst s n h => .lst (k.l _ _ n s) n (DbAll.stay k h)
  | _, _, .tup s h => .tup (k.t _ _ s) (DbAll.stay k h)
  | _, _, .dct h => .dct (k.d _ h)
theorem DbAll.stay (k : Stay K N H H') : ∀ {vs : List V} {ds : List PyData}, DbAll K N H vs ds → DbAll K N H' vs ds
  | _, _, .nil => .nil
  | _, _, .cons h t => .cons (Db.stay k h) (DbAll.stay k t)
end
theorem Kp.stay (k : Kp [] H H') : Stay K N H H' := ⟨fun p xs _ e => k.at0 e, fun p xs e => k.tup0 e, fun p e => k.at0 e⟩
theorem Kt.stay {T : List (Addr × Str)} (k : Kt T H H') : Stay K N H H' := ⟨fun p xs _ e => k.atL e, fun p xs e => k.tup0 e, fun p e => k.ext _ _ e fun ps z => nomatch z⟩
theorem Stay.trans {H1 : Hp} (a : Stay K N H H1) (b : Stay K N H1 H') : Stay K N H H' := ⟨fun p xs n e => b.l p xs n (a.l p xs n e), fun p xs e => b.t p xs (a.t p xs e), fun p e => b.d p (a.d p e)⟩
mutual
theorem Db.more (h : ∀ p xs, H p = some (.lst xs) → ¬ N p → ¬ N' p) : ∀ {v : V} {d : PyData}, Db K N H v d → Db K N' H v d
  | _, _, .non => .non
  | _, _, .bl b => .bl b
  | _, _, .int i => .int i
  | _, _, .str x => .str x
  | _, _, .lst s n q => .lst s (h _ _ s n) (DbAll.more h q)
  | _, _, .tup s q => .tup s (DbAll.more h q)
  | _, _, .dct q => .dct q
theorem DbAll.more (h : ∀ p xs, H p = some (.lst xs) → ¬ N p → ¬ N' p) : ∀ {vs : List V} {ds : List PyData}, DbAll K N H vs ds → DbAll K N' H vs ds
  | _, _, .nil => .nil
  | _, _, .cons a t => .cons (Db.more h a) (DbAll.more h t)
end
/-- one more address that is new -/
theorem Db.new {D : Addr} {v : V} {d : PyData} (h : Db K N H v d) (n : H D = none) : Db K (fun p => N p ∨ p = D) H v d :=
  h.more fun p xs e np z => z.elim np fun z => by rw [z, n] at e; cases e
theorem DbAll.len : ∀ {vs : List V} {ds : List PyData}, DbAll K N H vs ds → vs.length = ds.length
  | _, _, .nil => rfl
  | _, _, .cons _ t => by simp only [List.length_cons]; rw [t.len]
theorem DbAll.take : ∀ {vs : List V} {ds : List PyData} (n : Nat), DbAll K N H vs ds → DbAll K N H (vs.take n) (ds.take n)
  | _, _, 0, _ => by simp only [List.take_zero]; exact .nil
  | _, _, n + 1, .nil => by simp only [List.take_nil]; exact .nil
  | _, _, n + 1, .cons a t => .cons a (t.take n)
theorem DbAll.drop : ∀ {vs : List V} {ds : List PyData} (n : Nat), DbAll K N H vs ds → DbAll K N H (vs.drop n) (ds.drop n)
  | _, _, 0, h => h
  | _, _, n + 1, .nil => by simp only [List.drop_nil]; exact .nil
  | _, _, n + 1, .cons a t => t.drop n
theorem DbAll.get : ∀ {vs : List V} {ds : List PyData} {v : V} {i : Nat}, DbAll K N H vs ds → vs[i]? = some v → ∃ d, ds[i]? = some d ∧ Db K N H v d
  | _, _, _, _, .nil, e => by cases e
  | _, _, _, 0, .cons a t, e => ⟨_, rfl, by cases e; exact a⟩
  | _, _, _, i + 1, .cons a t, e => t.get (i := i) e
theorem DbAll.mem {vs : List V} {ds : List PyData} {v : V} (h : DbAll K N H vs ds) (m : v ∈ vs) : ∃ d ∈ ds, Db K N H v d := by
  obtain ⟨i, hi, e⟩ := List.getElem_of_mem m
  obtain ⟨d, e2, r⟩ := h.get (List.getElem?_eq_some_iff.mpr ⟨hi, e⟩)
  exact ⟨d, List.mem_of_getElem? e2, r⟩
theorem DbAll.ints : ∀ ns : List Int, DbAll K N H (ns.map V.int) (ns.map PyData.int)
  | [] => .nil
  | n :: r => .cons (.int n) (DbAll.ints r)
/-- the type of data -/
def tyN : PyData → String
  | .none => "NoneType"
  | .bool _ => "bool"
  | .int _ => "int"
  | .str _ => "str"
  | .list _ => "list"
  | .tuple _ => "tuple"
  | .dict _ => "dict"
theorem Db.ty {v : V} {d : PyData} (h : Db K N H v d) : TyX K H v (.type (tyN d)) := by
  cases h with
  | non => exact .base .non
  | bl b => exact .base (.bl b)
  | int i => exact .base (.int i)
  | str x => exact .base (.str x)
  | lst e n a => exact ty_lst (.inl (.inl e))
  | tup e a => exact ty_tup e
  | dct e => exact .base (.dT e)
theorem Db.kn {v : V} {d : PyData} (h : Db K N H v d) : Kn K H v := by
  cases h with
  | non => exact .non
  | bl b => exact .bl b
  | int i => exact .int i
  | str x => exact .str x
  | lst e n a => exact .lst (.inl (.inl e))
  | tup e a => exact .tup e
  | dct e => exact .dT e
def isSD : PyData → Bool
  | .str _ => true
  | _ => false
theorem kitS : ∀ d : PyData, kitB (tyN d) "str" = some (isSD d)
  | .none => (by decide +kernel : kitB "NoneType" "str" = some false)
  | .bool _ => (by decide +kernel : kitB "bool" "str" = some false)
  | .int _ => (by decide +kernel : kitB "int" "str" = some false)
  | .str _ => (by decide +kernel : kitB "str" "str" = some true)
  | .list _ => (by decide +kernel : kitB "list" "str" = some false)
  | .tuple _ => (by decide +kernel : kitB "tuple" "str" = some false)
  | .dict _ => (by decide +kernel : kitB "dict" "str" = some false)
end
section
variable {X : Cx} {pins : List (Addr × Obj)} {σ : L2.St} {N : Addr → Prop} {H : Hp} {s : Shared}
mutual
theorem Db.rd (hN : N sysModules) (I : L2.Inv X pins σ H s) : ∀ (d : PyData) (v : V) (u : Value), Db X.K N H v d → RelV v u → ∃ as, Reads s.heap u d as ∧ sysModules ∉ as
  | .none, _, _, h, r => by
    cases h
    cases r
    exact ⟨_, .none, List.not_mem_nil⟩
  | .bool b, _, _, h, r => by
    cases h
    cases r
    exact ⟨_, .bool b, List.not_mem_nil⟩
  | .int i, _, _, h, r => by
    cases h
    obtain ⟨t, rfl⟩ := r
    exact ⟨_, .int i t, List.not_mem_nil⟩
  | .str x, _, _, h, r => by
    cases h
    obtain ⟨t, rfl⟩ := r
    exact ⟨_, .str x t, List.not_mem_nil⟩
  | .list ds, _, _, h, r => by
    cases h with
    | lst hs na ha =>
      cases r
      obtain ⟨its, rv, ⟨o, n, ho, hc, _, hd⟩, _⟩ := I.list (.inl (.inl hs))
      obtain ⟨as, hr, hn⟩ := DbAll.rd hN I ds _ its ha rv
      refine ⟨_, .list ho hc hd hr, fun z => ?_⟩
      rcases List.mem_cons.mp z with z | z
      · exact na (z ▸ hN)
      · exact hn z
  | .tuple ds, _, _, h, r => by
    cases h with
    | tup hs ha =>
      cases r
      obtain ⟨its, rv, ⟨o, ho, hc, n, hd⟩, _⟩ := I.tuple hs
      obtain ⟨as, hr, hn⟩ := DbAll.rd hN I ds _ its ha rv
      exact ⟨_, .tuple ho hc hd hr, hn⟩
  | .dict kvs, _, _, h, r => by
    cases h with
    | dct hd =>
      cases r
      obtain ⟨_, hsm, xs, hp, o, es, ep, ho, he, hdt, hes, _⟩ := I.hok _ _ hd
      cases hp
      have e0 : es.toList = [] := hes
      refine ⟨_, .dict (as := []) (bs := []) ho he.1 hdt (by rw [e0]; exact .nil) (by rw [e0]; exact .nil), fun z => ?_⟩
      rcases List.mem_cons.mp z with z | z
      · rw [← z] at hsm
        exact absurd hsm (by decide)
      · cases z
theorem DbAll.rd (hN : N sysModules) (I : L2.Inv X pins σ H s) : ∀ (ds : List PyData) (vs : List V) (us : List Value), DbAll X.K N H vs ds → Vals vs us → ∃ as, ReadsAll s.heap us ds as ∧ sysModules ∉ as
  | [], _, _, h, r => by
    cases h
    cases r
    exact ⟨_, .nil, List.not_mem_nil⟩
  | d :: ds, _, _, h, r => by
    cases h with
    | cons h1 h2 =>
      cases r with
      | cons r1 r2 =>
        obtain ⟨as, q1, n1⟩ := Db.rd hN I d _ _ h1 r1
        obtain ⟨bs, q2, n2⟩ := DbAll.rd hN I ds _ _ h2 r2
        exact ⟨_, .cons q1 q2, fun z => (List.mem_append.mp z).elim n1 n2⟩
end
end
section
variable {X : Cx}
end
/-! ### how great data is -/
def Asc (x : Str) : Prop := ∀ c ∈ x.cps.toList, c < 128
mutual
def szD : PyData → Nat
  | .none => 10
  | .bool _ => 10
  | .dict _ => 10
  | .int _ => 110
  | .str x => 12 * x.length + 20
  | .list ds => szA ds + 10
  | .tuple ds => szA ds + 10
def szA : List PyData → Nat
  | [] => 0
  | d :: ds => szD d + 5 + szA ds
end
inductive Gd (k : Nat) : Nat → PyData → Prop
  | none {e : Nat} : Gd k e .none
  | bool {e : Nat} (b : Bool) : Gd k e (.bool b)
  | int {e : Nat} {i : Int} : i.natAbs < 2 ^ 80 + k → Gd k e (.int i)
  | str {e : Nat} {x : Str} : Asc x → Gd k e (.str x)
  | dict {e : Nat} : Gd k e (.dict [])
  | list {e : Nat} {ds : List PyData} : (∀ d ∈ ds, Gd k e d) → Gd k (e + 1) (.list ds)
  | tuple {e : Nat} {ds : List PyData} (h : ∀ d ∈ ds, Gd k e d) (hl : ds.length ≤ 41 + k := by first | omega | (simp <;> omega)) : Gd k (e + 1) (.tuple ds)
theorem Gd.mono {k k' : Nat} (hk : k ≤ k') : ∀ {e : Nat} {d : PyData}, Gd k e d → ∀ {e' : Nat}, e ≤ e' → Gd k' e' d := by
  intro e d h
  induction h with
  | none => intro e' _; exact .none
  | bool b => intro e' _; exact .bool b
  | int h => intro e' _; exact .int (by omega)
  | str h => intro e' _; exact .str h
  | dict => intro e' _; exact .dict
  | list h ih =>
    intro e' he
    obtain ⟨f, rfl⟩ : ∃ f, e' = f + 1 := ⟨e' - 1, by omega⟩
    exact .list fun d hd => ih d hd (by omega)
  | tuple h hl ih =>
    intro e' he
    obtain ⟨f, rfl⟩ : ∃ f, e' = f + 1 := ⟨e' - 1, by omega⟩
    exact .tuple (fun d hd => ih d hd (by omega)) (by omega)
theorem piled_sz {ds : List PyData} (h : ∀ d ∈ ds, d.shown.length ≤ szD d) : piled (ds.map PyData.shown) ≤ szA ds := by
  induction ds with
  | nil => simp [piled, szA]
  | cons d ds ih =>
    rw [List.map_cons, piled_cons]
    have h1 := h d List.mem_cons_self
    have h2 := ih fun e he => h e (List.mem_cons_of_mem _ he)
    simp only [szA]
    omega
theorem Gd.sh {k : Nat} (hk : k ≤ 2 ^ 80) {e : Nat} {d : PyData} (h : Gd k e d) : d.shown.length ≤ szD d ∧ d.showable = true ∧ d.depth ≤ e + 1 := by
  induction h with
  | none => exact ⟨by decide +kernel, by decide +kernel, by simp only [PyData.depth]; omega⟩
  | bool b => cases b <;> exact ⟨by decide +kernel, by decide +kernel, by simp only [PyData.depth]; omega⟩
  | @int e i h =>
    have hb : i.natAbs < 2 ^ 100 := by
      have : (2 : Nat) ^ 80 + 2 ^ 80 < 2 ^ 100 := by decide
      omega
    have h1 := int_shown hb
    have h2 := int_ok hb
    exact ⟨by simp only [szD]; omega, h2.1, by omega⟩
  | str h =>
    refine ⟨?_, rfl, by simp only [PyData.depth]; omega⟩
    have := StrLaws.reprText_len _ fun c hc => Nat.lt_of_lt_of_le (h c hc) (by decide)
    simp only [PyData.shown, szD]
    omega
  | dict => exact ⟨by decide +kernel, by decide +kernel, by simp only [PyData.depth, PyData.depthKv]; omega⟩
  | @list e ds h ih =>
    refine ⟨?_, ?_, ?_⟩
    · simp only [PyData.shown, szD]
      rw [shownAll_map]
      have := listText_le (ds.map PyData.shown)
      have := piled_sz fun d hd => (ih d hd).1
      omega
    · simp only [PyData.showable]
      exact showableAll_of fun d hd => (ih d hd).2.1
    · simp only [PyData.depth]
      have := depthAll_of (m := e + 1) fun d hd => (ih d hd).2.2
      omega
  | @tuple e ds h hl ih =>
    refine ⟨?_, ?_, ?_⟩
    · simp only [PyData.shown, szD]
      rw [shownAll_map]
      have := tupleText_le (ds.map PyData.shown)
      have := piled_sz fun d hd => (ih d hd).1
      omega
    · simp only [PyData.showable]
      exact showableAll_of fun d hd => (ih d hd).2.1
    · simp only [PyData.depth]
      have := depthAll_of (m := e + 1) fun d hd => (ih d hd).2.2
      omega
theorem Gd.shows {k : Nat} {e : Nat} {d : PyData} (h : Gd k e d) (hk : k ≤ 1000) (he : e ≤ 50) (hz : szD d ≤ 10000000) : Shows d := by
  obtain ⟨a, b, c⟩ := h.sh (Nat.le_trans hk (by decide))
  exact ⟨b, by omega, Nat.le_trans a (Nat.le_trans hz (by decide))⟩
/-! ### texts -/
/-! ### slices and sums of tuples, whatever they are -/
section
variable {X : Cx}
end
/-! t == (), t a tuple of anything -/
section
variable {X : Cx}
end
/-- data that a bent thing may be -/
def Ob (K : PySem.W.Frag) (N : Addr → Prop) (H : Hp) (k e z : Nat) (v : V) : Prop := ∃ d, Db K N H v d ∧ Gd k e d ∧ szD d ≤ z
theorem Ob.stay {K : PySem.W.Frag} {N : Addr → Prop} {H H' : Hp} {k e z : Nat} {v : V} (h : Ob K N H k e z v) (s : Stay K N H H') : Ob K N H' k e z v :=
  let ⟨d, a, b, c⟩ := h
  ⟨d, a.stay s, b, c⟩
theorem Ob.mono {K : PySem.W.Frag} {N : Addr → Prop} {H : Hp} {k e z k' e' z' : Nat} {v : V} (h : Ob K N H k e z v) (hk : k ≤ k') (he : e ≤ e') (hz : z ≤ z') : Ob K N H k' e' z' v :=
  let ⟨d, a, b, c⟩ := h
  ⟨d, a, b.mono hk he, by omega⟩
theorem Ob.new {K : PySem.W.Frag} {N : Addr → Prop} {H : Hp} {k e z : Nat} {v : V} {D : Addr} (h : Ob K N H k e z v) (n : H D = none) : Ob K (fun p => N p ∨ p = D) H k e z v :=
  let ⟨d, a, b, c⟩ := h
  ⟨d, a.new n, b, c⟩
/-- addresses that are in use -/
def Used (N : Addr → Prop) (H : Hp) : Prop := ∀ p, N p → H p ≠ none
theorem Used.kp {N : Addr → Prop} {H H' : Hp} (u : Used N H) (k : Kp [] H H') : Used N H' := fun p hp => by
  cases e : H p with
  | none => exact absurd e (u p hp)
  | some o => rw [k.at0 e]; exact fun z => nomatch z
theorem Used.free {N : Addr → Prop} {H : Hp} (u : Used N H) {p : Addr} (n : H p = none) : ¬ N p := fun z => u p z n
end Cf

set_option Elab.async false
set_option linter.all false
set_option maxRecDepth 100000
set_option maxHeartbeats 2000000
namespace Cf
open PySem PySem.Spec PyProof.Rows L2
/-! ### repr of data with empty dicts among its lists -/
mutual
inductive Rx (h : Heap) : Value → PyData → Prop
  | non : Rx h .none .none
  | bl (b : Bool) : Rx h (.bool b) (.bool b)
  | int (i : Int) (t : Tok) : Rx h (.int i t) (.int i)
  | str (x : Str) (t : Tok) : Rx h (.str x t) (.str x)
  | lst {a : Addr} {o : Obj} {us : Array Value} {n : Nat} {ds : List PyData} : h.get? a = some o → o.cls = .type "list" → o.data = .seq us n → RxAll h us.toList ds → Rx h (.ref a) (.list ds)
  | tup {a : Addr} {o : Obj} {us : Array Value} {n : Nat} {ds : List PyData} : h.get? a = some o → o.cls = .type "tuple" → o.data = .seq us n → RxAll h us.toList ds → Rx h (.ref a) (.tuple ds)
  | dct {a : Addr} {o : Obj} {es : Array DictEntry} {n : Nat} : h.get? a = some o → o.cls = .type "dict" → o.data = .dict es n → es.toList = [] → (a == sysModules) = false → Rx h (.ref a) (.dict [])
inductive RxAll (h : Heap) : List Value → List PyData → Prop
  | nil : RxAll h [] []
  | cons {u : Value} {us : List Value} {d : PyData} {ds : List PyData} : Rx h u d → RxAll h us ds → RxAll h (u :: us) (d :: ds)
end
mutual
theorem Rx.rd {h : Heap} : ∀ {u : Value} {d : PyData}, Rx h u d → ∃ as, Reads h u d as
  | _, _, .non => ⟨_, .none⟩
  | _, _, .bl b => ⟨_, .bool b⟩
  | _, _, .int i t => ⟨_, .int i t⟩
  | _, _, .str x t => ⟨_, .str x t⟩
  | _, _, .lst a b c q => let ⟨_, r⟩ := RxAll.rd q; ⟨_, .list a b c r⟩
  | _, _, .tup a b c q => let ⟨_, r⟩ := RxAll.rd q; ⟨_, .tuple a b c r⟩
  | _, _, .dct a b c e _ => ⟨_, .dict (as := []) (bs := []) a b c (by rw [e]; exact .nil) (by rw [e]; exact .nil)⟩
theorem RxAll.rd {h : Heap} : ∀ {us : List Value} {ds : List PyData}, RxAll h us ds → ∃ as, ReadsAll h us ds as
  | _, _, .nil => ⟨_, .nil⟩
  | _, _, .cons a t => let ⟨_, p⟩ := Rx.rd a; let ⟨_, q⟩ := RxAll.rd t; ⟨_, .cons p q⟩
end
section
variable {P : Program} {w : World} {h : Heap}
/-- what is shown of it, the addresses on the way no deeper than it is -/
def Sh (P : Program) (w : World) (h : Heap) (n : Nat) (u : Value) (t : Str) : Prop := ∃ bs, ReadAtMost h n bs ∧ ReprK P w bs h n u t
def ShAll (P : Program) (w : World) (h : Heap) (n : Nat) (us : List Value) (ts : List Str) : Prop := ∃ bs, ReadAtMost h n bs ∧ ReprAllK P w bs h n us ts
mutual
theorem Rx.sh : ∀ {u : Value} {d : PyData}, Rx h u d → d.showable = true → d.shown.length ≤ sizeLine → Sh P w h d.depth u d.shown
  | _, _, .non, hs, hz => ReprK.of_reads .none hs (fun z => by cases z) hz
  | _, _, .bl b, hs, hz => ReprK.of_reads (.bool b) hs (fun z => by cases z) hz
  | _, _, .int i t, hs, hz => ReprK.of_reads (.int i t) hs (fun z => by cases z) hz
  | _, _, .str x t, hs, hz => ReprK.of_reads (.str x t) hs (fun z => by cases z) hz
  | _, _, .lst (ds := ds) (us := us) e1 e2 e3 q, hs, hz => by
    simp only [PyData.showable] at hs
    simp only [PyData.shown] at hz
    obtain ⟨bs, m, k⟩ := RxAll.sh q hs fun t ht => Nat.le_trans (listText_mem_le ht) hz
    obtain ⟨_, r⟩ := (Rx.lst e1 e2 e3 q).rd
    have out := not_mem_of_deeper r (n := PyData.depthAll ds) (by simp only [PyData.depth]; omega) m
    refine ⟨_, ReadAtMost.cons r (by simp only [PyData.depth]; omega) m, ?_⟩
    simp only [PyData.depth, PyData.shown]
    obtain ⟨l⟩ := us
    match l, q, e3, k with
    | [], q, e3, k =>
      cases (show RxAll h [] ds from q)
      simp only [PyData.shownAll, listText_nil]
      exact ReprK.listEmpty e1 e2 e3
    | x :: l, q, e3, k => exact ReprK.list e1 e2 e3 out (by simpa using k.length_eq) (fun i y z => k.item i y (by simpa using z))
  | _, _, .tup (ds := ds) e1 e2 e3 q, hs, hz => by
    simp only [PyData.showable] at hs
    simp only [PyData.shown] at hz
    obtain ⟨bs, m, k⟩ := RxAll.sh q hs fun t ht => Nat.le_trans (tupleText_mem_le ht) hz
    obtain ⟨_, r⟩ := (Rx.tup e1 e2 e3 q).rd
    have out := not_mem_of_deeper r (n := PyData.depthAll ds) (by simp only [PyData.depth]; omega) m
    refine ⟨_, ReadAtMost.cons r (by simp only [PyData.depth]; omega) m, ?_⟩
    simp only [PyData.depth, PyData.shown]
    exact ReprK.tuple e1 e2 e3 out k
  | _, _, .dct (a := a) e1 e2 e3 e4 e5, hs, hz =>
    ReprK.of_reads (.dict (as := []) (bs := []) e1 e2 e3 (by rw [e4]; exact .nil) (by rw [e4]; exact .nil)) hs (fun _ z => by
      rcases List.mem_cons.mp z with z | z
      · rw [← z] at e5
        exact absurd e5 (by decide)
      · cases z) hz
theorem RxAll.sh : ∀ {us : List Value} {ds : List PyData}, RxAll h us ds → PyData.showableAll ds = true → (∀ t ∈ PyData.shownAll ds, t.length ≤ sizeLine) → ShAll P w h (PyData.depthAll ds) us (PyData.shownAll ds)
  | _, _, .nil, _, _ => ⟨[], fun _ z => (List.not_mem_nil z).elim, by simp only [PyData.shownAll]; exact .nil⟩
  | _, _, .cons (d := d) (ds := ds) a t, hs, hz => by
    simp only [PyData.showableAll, Bool.and_eq_true] at hs
    simp only [PyData.shownAll, List.forall_mem_cons] at hz
    obtain ⟨b1, m1, k1⟩ := Rx.sh a hs.1 hz.1
    obtain ⟨b2, m2, k2⟩ := RxAll.sh t hs.2 hz.2
    simp only [PyData.depthAll, PyData.shownAll]
    refine ⟨b1 ++ b2, (m1.mono (Nat.le_max_left _ _)).append (m2.mono (Nat.le_max_right _ _)), .cons ?_ ?_⟩
    · exact (k1.more fun b z => List.mem_append_left _ z).level_le (Nat.le_max_left _ _)
    · exact k2.more_le (fun b z => List.mem_append_right _ z) (Nat.le_max_right _ _)
end
variable {A : Around} {E : Value → Shared → Prop} {s : Shared} {Q : Value → Shared → Prop}
theorem repr_rx {a : Addr} {d : PyData} (x : Rx h (.ref a) d) (hs : d.showable = true) (hz : d.shown.length ≤ sizeLine) (hg : A.guards = some []) (hu : A.units + (d.depth + 1) < cLine) (hk : ∀ b o, h.get? b = some o → s.heap.get? b = some o)
    (hQ : ∀ h' t tk, (∀ b o, s.heap.get? b = some o → h'.get? b = some o) → Q (.str d.shown t) { s with heap := h', toks := tk }) : wpAny (model P w) A (call (.builtin "repr") [.ref a]) Q E s := by
  cases x with
  | @lst _ o us n ds e1 e2 e3 q =>
    simp only [PyData.showable] at hs
    simp only [PyData.shown] at hz hQ
    simp only [PyData.depth] at hu
    obtain ⟨bs, m, k⟩ := RxAll.sh (P := P) (w := w) q hs fun t ht => Nat.le_trans (listText_mem_le ht) hz
    obtain ⟨_, r⟩ := (Rx.lst e1 e2 e3 q).rd
    have out := not_mem_of_deeper r (n := PyData.depthAll ds) (by simp only [PyData.depth]; omega) m
    refine call_repr_slot (by omega) ⟨o, hk _ _ e1, e2⟩ F.slot_list_repr.toG ?_
    obtain ⟨l⟩ := us
    match l, q, e3, k with
    | [], q, e3, k =>
      cases (show RxAll h [] ds from q)
      simp only [PyData.shownAll, listText_nil] at hQ
      exact call_list_repr_empty ⟨o, hk _ _ e1, e2⟩ (hk _ _ e1) e3 ⟨_, _, rfl, hQ s.heap _ _ fun _ _ z => z⟩
    | x :: l, q, e3, k => exact call_list_reprK e1 e2 e3 out (by simpa using k.length_eq) (fun i y z => k.item i y (by simpa using z)) hg (fun b _ => Clear.nil b) (by show A.units + 1 + _ < cLine; omega) hk (fun h' t tk z => ⟨_, _, rfl, hQ h' t tk z⟩) hz
  | @tup _ o us n ds e1 e2 e3 q =>
    simp only [PyData.showable] at hs
    simp only [PyData.shown] at hz hQ
    simp only [PyData.depth] at hu
    obtain ⟨bs, m, k⟩ := RxAll.sh (P := P) (w := w) q hs fun t ht => Nat.le_trans (tupleText_mem_le ht) hz
    obtain ⟨_, r⟩ := (Rx.tup e1 e2 e3 q).rd
    have out := not_mem_of_deeper r (n := PyData.depthAll ds) (by simp only [PyData.depth]; omega) m
    refine call_repr_slot (by omega) ⟨o, hk _ _ e1, e2⟩ F.slot_tuple_repr ?_
    exact call_tuple_reprK e1 e2 e3 out k hg (fun b _ => Clear.nil b) (by show A.units + 1 + _ < cLine; omega) hk (fun h' t tk z => ⟨_, _, rfl, hQ h' t tk z⟩) hz
  | dct e1 e2 e3 e4 e5 =>
    refine repr_of_reads' (.dict (as := []) (bs := []) e1 e2 e3 (by rw [e4]; exact .nil) (by rw [e4]; exact .nil)) hs (fun _ z => ?_) hg hu hk hQ hz
    rcases List.mem_cons.mp z with z | z
    · rw [← z] at e5
      exact absurd e5 (by decide)
    · cases z
end
section
variable {X : Cx} {pins : List (Addr × Obj)} {σ : L2.St} {N : Addr → Prop} {H : Hp} {s : Shared}
mutual
theorem Db.rx (I : L2.Inv X pins σ H s) : ∀ (d : PyData) (v : V) (u : Value), Db X.K N H v d → RelV v u → Rx s.heap u d
  | .none, _, _, q, r => by
    cases q
    cases r
    exact .non
  | .bool b, _, _, q, r => by
    cases q
    cases r
    exact .bl b
  | .int i, _, _, q, r => by
    cases q
    obtain ⟨t, rfl⟩ := r
    exact .int i t
  | .str x, _, _, q, r => by
    cases q
    obtain ⟨t, rfl⟩ := r
    exact .str x t
  | .list ds, _, _, q, r => by
    cases q with
    | lst hs na ha =>
      cases r
      obtain ⟨its, rv, ⟨o, n, ho, hc, _, hd⟩, _⟩ := I.list (.inl (.inl hs))
      exact .lst ho hc hd (DbAll.rx I ds _ its ha rv)
  | .tuple ds, _, _, q, r => by
    cases q with
    | tup hs ha =>
      cases r
      obtain ⟨its, rv, ⟨o, ho, hc, n, hd⟩, _⟩ := I.tuple hs
      exact .tup ho hc hd (DbAll.rx I ds _ its ha rv)
  | .dict kvs, _, _, q, r => by
    cases q with
    | dct hd =>
      cases r
      obtain ⟨_, hsm, xs, hp, o, es, ep, ho, he, hdt, hes, _⟩ := I.hok _ _ hd
      cases hp
      exact .dct ho he.1 hdt hes hsm
theorem DbAll.rx (I : L2.Inv X pins σ H s) : ∀ (ds : List PyData) (vs : List V) (us : List Value), DbAll X.K N H vs ds → Vals vs us → RxAll s.heap us ds
  | [], _, _, q, r => by
    cases q
    cases r
    exact .nil
  | d :: ds, _, _, q, r => by
    cases q with
    | cons h1 h2 =>
      cases r with
      | cons r1 r2 => exact .cons (Db.rx I d _ _ h1 r1) (DbAll.rx I ds _ _ h2 r2)
end
end
/-- repr(x) of data of any kind -/
def rReprX (K : PySem.W.Frag) : List V → Hp → VK → Prop := fun xs H Q => ∃ x d, ∃ N : Addr → Prop, xs = [x] ∧ Db K N H x d ∧ Shows d ∧ Q (.str d.shown) H
section
variable {X : Cx}
theorem call_reprX {k : Nat} {K : PySem.W.Frag} (e : X.K = K) (hr : Room k X.A) (hgd : X.A.guards = some []) : CallR X (.builtin "repr") (rReprX K) := by
  subst e
  intro pins s σ H xs us Q I r h
  obtain ⟨x, d, N, rfl, hd, ⟨hs, hdp, hz⟩, q⟩ := h
  obtain ⟨u, rfl, ru⟩ := vals1 r
  have rx := hd.rx I d x u ru
  have hun := hr.un
  cases hd with
  | non => exact call_repr hr hgd pins s σ H _ [u] Q I r ⟨_, _, rfl, .non, ⟨hs, hdp, hz⟩, q⟩
  | bl b => exact call_repr hr hgd pins s σ H _ [u] Q I r ⟨_, _, rfl, .bl b, ⟨hs, hdp, hz⟩, q⟩
  | int i => exact call_repr hr hgd pins s σ H _ [u] Q I r ⟨_, _, rfl, .int i, ⟨hs, hdp, hz⟩, q⟩
  | str y => exact call_repr hr hgd pins s σ H _ [u] Q I r ⟨_, _, rfl, .str y, ⟨hs, hdp, hz⟩, q⟩
  | lst sq na al =>
    cases (show u = Value.ref _ from ru)
    exact repr_rx rx hs hz hgd (by omega) (fun _ _ z => z) (fun h' t tk hk => ⟨.str _, H, I.kept hk, ⟨_, rfl⟩, q⟩)
  | tup sq al =>
    cases (show u = Value.ref _ from ru)
    exact repr_rx rx hs hz hgd (by omega) (fun _ _ z => z) (fun h' t tk hk => ⟨.str _, H, I.kept hk, ⟨_, rfl⟩, q⟩)
  | dct hd =>
    cases (show u = Value.ref _ from ru)
    exact repr_rx rx hs hz hgd (by omega) (fun _ _ z => z) (fun h' t tk hk => ⟨.str _, H, I.kept hk, ⟨_, rfl⟩, q⟩)
end
end Cf

set_option Elab.async false
set_option linter.all false
set_option maxRecDepth 100000
namespace Cf
open PySem PySem.Spec PyProof.Rows L2
open LamX (CodeO TabS Tabs ExtN TabB)
theorem loose_int {lv : List (Str × PySem.W.WData)} {mg : Str → Option Value} {h : Heap} {x : Str} {n : Int} (L : PySem.W.LooseAre lv mg h) (m : (x, PySem.W.WData.int n) ∈ lv) : ∃ t, mg x = some (.int n t) := by
  obtain ⟨v, e, r⟩ := L.val _ m
  cases r
  exact ⟨_, e⟩
/-- the end of a law some of whose constants are written as sums -/
theorem walkL {l : PySem.W.OpenLaw} {n k : Nat} {q p : Program} {lv : List (Str × PySem.W.WData)} {loose : List Str} {YP : World → Heap → Prop} {d : DefRec} {K : Params → PySem.W.Frag} {x : Str}
    (hn : l.most = some n) (hn2 : n ≤ sizeLine) (hdf : d.params.defaults = []) (hr : Room k callerA) (hY : ∀ (w : World) (h : Heap), YP w h → (K w.params).In h)
    (F : ∀ (w : World) (mg : Str → Option Value) (fa : Addr) (h : Heap), YP w h → PySem.W.LooseAre lv mg h → (K w.params).In h → h.Ns mainGlobals mg → mg d.name = some (.ref fa) →
      ∃ (fd : FuncData) (cs : List (Addr × Addr)) (sp : Sp), (∀ t ∈ cs, h.get? t.2 = some { cls := .none, data := .fields #[] }) ∧ (∀ t ∈ cs, (K w.params).lookup t.2 = none) ∧ (∀ t ∈ cs, PySem.W.CodeHd h t.1 t.2) ∧ (∀ (s : Shared) (u : Value), BindsTo s fd ⟨[u], []⟩ [(x, u)]) ∧
        (∀ (H : Hp) (a : Addr) (ns : List Int), ns.length ≤ n → (∀ t ∈ cs, H t.2 = some (.tbl #[])) → SqL (K w.params) H a (ns.map V.int) → sp [.ref a] H (fun v _ => v = .bl true) fun _ _ _ => False) ∧
        ∀ base : Heap, (K w.params).In base → base.Ns mainGlobals mg → (∀ t ∈ cs, TabB base mg t.1 t.2) → FnG l.prog w (K w.params) mg base CX0 k fa fd [x] sp) :
    PySem.W.WalkO q loose (PySem.W.XL p lv) YP l.row.toRowW d [] (fun f vs => PySem.call f vs) := by
  refine Att.attach_call hn hdf ?_
  intro w s0 s1 mg mb fa o pm cd doc a vs ns G Y ho hd hcd hmg hobj hints hlen hg
  have inK := hY w _ Y
  obtain ⟨fd, cs, sp, hT, nT, hC, hb, hsp, hF⟩ := F w mg fa _ Y G.X.2 inK G.T.g hmg
  exact law_callT inK G.T.g G.T.b G.T.builtins G.T.nolimit hg hT nT hC G.T.bmain hobj hints (Nat.le_trans hlen hn2) hr hF hb (fun H hH hS => hsp H a ns hlen hH hS) (fun H e s' h => h)
end Cf

set_option Elab.async false
set_option linter.all false
set_option maxRecDepth 100000
namespace Cf
open PySem PySem.Spec PyProof.Rows L2
section
variable {X : Cx}
end
end Cf

set_option Elab.async false
set_option linter.all false
set_option maxRecDepth 100000
namespace Cf
open PySem PySem.Spec PyProof.Rows L2
/-! ### ints in a list of the program's own, or in a tuple -/
def Si2 (K : PySem.W.Frag) (H : Hp) (p : Addr) (ns : List Int) : Prop := IL H p ns ∨ SqT K H p (ns.map V.int)
section
variable {K : PySem.W.Frag} {H H' : Hp} {p D : Addr} {ns : List Int}
theorem Si2.kp0 (h : Si2 K H p ns) (k : Kp [] H H') : Si2 K H' p ns := h.imp (fun h => k.at0 h) fun h => k.tup0 h
theorem Si2.md {acc : List V} (h : Si2 K H p ns) (hD : H D = some (.lst acc)) (m : Md D H H') (ne : p ≠ D ∨ SqT K H p (ns.map V.int)) : Si2 K H' p ns := by
  rcases ne with ne | h2
  · exact h.imp (fun h => (m p ne).trans h) fun h => m.kp.tup1 hD h
  · exact .inr (m.kp.tup1 hD h2)
theorem Si2.seq (h : Si2 K H p ns) : SqL K H p (ns.map V.int) ∨ SqT K H p (ns.map V.int) := h.imp (fun h => sqL h) id
theorem Si2.h1 {a : Addr} {ys : List V} (h : (IL H p ns ∧ p ≠ a) ∨ SqT K H p (ns.map V.int)) (ha : H a = some (.lst ys)) (k : Kp [a] H H') : Si2 K H' p ns := h.imp (fun h => k.at1 h.2 h.1) fun h => k.tup1 ha h
end
section
variable {X : Cx}
end
end Cf

set_option Elab.async false
set_option linter.all false
set_option maxRecDepth 100000
namespace Cf
open PySem PySem.Spec PyProof.Rows L2
/-! ### a def of one's own, called by keywords alone -/
def pickU (js : List Nat) (ws : List Value) : List Value := js.map fun j => ws.getD j .none
structure ClK (P : Program) (w : World) (K : PySem.W.Frag) (mg : Str → Option Value) (base : Heap) (CX : CXT) (k : Nat) (x : Str) (ks : List Str) (js : List Nat) (sp : Sp) : Prop where
  ex : ∃ (f : Addr) (fd : FuncData) (ps : List Str), FnG P w K mg base CX k f fd ps sp ∧ mg x = some (.ref f) ∧ PySem.W.keepIn K (.ref f) = true ∧
    ∀ (s : Shared) (ws : List Value), ws.length = ks.length → BindsTo s fd ⟨[], ks.zip ws⟩ (ps.zip (pickU js ws))
section
variable {X : Cx} {CX : CXT} {k : Nat} {sp : Sp} {E : XK} {x : Str} {p pos : Pos} {ks : List Str} {js : List Nat} {kws : List Keyword} {tk : TA}
end
end Cf

set_option Elab.async false
set_option linter.all false
set_option maxRecDepth 100000
set_option maxHeartbeats 2000000
namespace Cf
open PySem PySem.Spec PyProof.Rows L2
/-! ### a dict by a comprehension, whose keys are tuples -/
section
variable {X : Cx}
/-- what the parts of the comprehension promise, within its block -/
structure Parts (X : Cx) (scope : Scope) (tg kx vx : Expr) (ifs : List Expr) (g : TG) (tt : TT) (tk tv : TE) : Prop where
  tg : ∀ (m : Shared) (G : Hp) (C : Addr) (cl : List (Str × Addr)) (fp : List Addr), PG (X.blk m G scope (compEnvC scope cl C X.env) fp) tg g
  ts : ∀ (m : Shared) (G : Hp) (C : Addr) (cl : List (Str × Addr)) (fp : List Addr), PTs (X.blk m G scope (compEnvC scope cl C X.env) fp) ifs tt
  ky : ∀ (m : Shared) (G : Hp) (C : Addr) (cl : List (Str × Addr)) (fp : List Addr), PE (X.blk m G scope (compEnvC scope cl C X.env) fp) kx tk
  vl : ∀ (m : Shared) (G : Hp) (C : Addr) (cl : List (Str × Addr)) (fp : List Addr), PE (X.blk m G scope (compEnvC scope cl C X.env) fp) vx tv
end
end Cf

set_option Elab.async false
set_option linter.all false
set_option maxRecDepth 100000
set_option maxHeartbeats 2000000
namespace Cf
open PySem PySem.Spec PyProof.Rows L2
/-! ### numbers that may be None, and dicts of them by tuples -/
def oV : Option Int → V
  | none => .non
  | some i => .int i
theorem flat_oV (zs : List (Option Int)) : (zs.map oV).all flatV = true := by
  rw [List.all_eq_true]
  intro v hv
  obtain ⟨o, _, rfl⟩ := List.mem_map.mp hv
  cases o <;> rfl
theorem inV_oV : ∀ zs : List (Option Int), inV .non (zs.map oV) = decide (none ∈ zs)
  | [] => rfl
  | z :: r => by
    have ih := inV_oV r
    unfold inV at ih ⊢
    rw [List.map_cons, List.any_cons, ih]
    cases z with
    | none => simp [oV, eqV]
    | some i => simp [oV, eqV]
section
variable {X : Cx}
/-- None not in xs, a list of numbers and None -/
theorem op_notInO {K : PySem.W.Frag} (e : X.K = K) : OpR X (compareOp .NotIn) (fun x y H Q => ∃ p, ∃ zs : List (Option Int), x = .non ∧ y = .ref p ∧ SqL K H p (zs.map oV) ∧ Q (.bl (!decide (none ∈ zs))) H) := by
  subst e
  refine op_imp op_notIn_seq fun x y H Q ⟨p, zs, a, b, c, q⟩ => ?_
  subst a
  refine ⟨p, _, b, .inl c, rfl, flat_oV zs, ?_⟩
  rw [inV_oV]
  exact q
end
/-! ### pairs of a tuple and a number or None -/
inductive Pn (H : Hp) : List V → List (List Int × Option Int) → Prop
  | nil : Pn H [] []
  | cons {t u : Addr} {ns : List Int} {o : Option Int} {xs : List V} {ps : List (List Int × Option Int)} : H t = some (.tup [.ref u, oV o]) → H u = some (.tup (ns.map V.int)) → Pn H xs ps → Pn H (.ref t :: xs) ((ns, o) :: ps)
section
variable {H H' : Hp} {xs ys : List V} {ps qs : List (List Int × Option Int)}
theorem Pn.go (e : ∀ p zs, H p = some (.tup zs) → H' p = some (.tup zs)) : ∀ {xs : List V} {ps : List (List Int × Option Int)}, Pn H xs ps → Pn H' xs ps
  | _, _, .nil => .nil
  | _, _, .cons a b r => .cons (e _ _ a) (e _ _ b) (Pn.go e r)
theorem Pn.len : ∀ {xs : List V} {ps : List (List Int × Option Int)}, Pn H xs ps → xs.length = ps.length
  | _, _, .nil => rfl
  | _, _, .cons _ _ r => congrArg (· + 1) r.len
theorem Pn.one {t u : Addr} {ns : List Int} {o : Option Int} (h : H t = some (.tup [.ref u, oV o])) (hu : H u = some (.tup (ns.map V.int))) : Pn H [.ref t] [(ns, o)] := .cons h hu .nil
theorem Pn.get : ∀ {xs : List V} {ps : List (List Int × Option Int)} {i : Nat} {x : V}, Pn H xs ps → xs[i]? = some x → ∃ t u, x = .ref t ∧ i < ps.length ∧ H t = some (.tup [.ref u, oV (ps.getD i ([], none)).2]) ∧ H u = some (.tup ((ps.getD i ([], none)).1.map V.int))
  | _, _, 0, _, .cons a b r, e => by
    cases e
    exact ⟨_, _, rfl, Nat.succ_pos _, a, b⟩
  | _, _, i + 1, _, .cons a b r, e => by
    obtain ⟨t, u, h1, h2, h3, h4⟩ := Pn.get (i := i) r e
    exact ⟨t, u, h1, Nat.succ_lt_succ h2, h3, h4⟩
end
def oD : Option Int → PyData
  | none => .none
  | some i => .int i
def pnD (p : List Int × Option Int) : PyData := .tuple [tupD p.1, oD p.2]
theorem Pn.dp {K : PySem.W.Frag} {H : Hp} : ∀ {xs : List V} {ps : List (List Int × Option Int)}, Pn H xs ps → DpAll K H xs (ps.map pnD)
  | _, _, .nil => .nil
  | _, _, .cons (o := o) a b r => .cons (.tup (sqT a) (.cons (dp_ti (sqT b)) (.cons (by cases o with | none => exact .non | some i => exact .int i) .nil))) r.dp
section
variable {X : Cx}
end
/-! ### a dict that holds f s for each s of S -/
end Cf

set_option Elab.async false
set_option linter.all false
set_option maxRecDepth 100000
set_option maxHeartbeats 2000000
namespace Cf
open PySem PySem.Spec PyProof.Rows L2
section
variable {X : Cx}
end
end Cf

set_option Elab.async false
set_option linter.all false
set_option maxRecDepth 100000
set_option maxHeartbeats 2000000
namespace Cf
open PySem PySem.Spec PyProof.Rows L2
section
variable {X : Cx}
end
end Cf
namespace Cf
open PySem PySem.Spec PyProof.Rows L2
section
variable {X : Cx}
end
end Cf

set_option Elab.async false
set_option linter.all false
set_option maxRecDepth 100000
set_option maxHeartbeats 2000000
namespace Cf
open PySem PySem.Spec PyProof.Rows L2
open Sem (wp)
open AutoSeq1 (wpAny_loadPart')
/-! ### tuple(d.items()) -/
section
variable {X : Cx}
end
end Cf

set_option Elab.async false
set_option linter.all false
set_option maxRecDepth 100000
set_option maxHeartbeats 2000000
namespace Cf
open PySem PySem.Spec PyProof.Rows L2
open Sem (wp)
/-! ### sorted(d), d with tuples for keys -/
section
variable {prog : Program} {w : World} {A : Around} {s : Shared}
end
section
variable {X : Cx}
/-! ### dict(xs), xs pairs of a tuple and anything -/
end
end Cf

set_option Elab.async false
set_option linter.all false
set_option maxRecDepth 100000
set_option maxHeartbeats 2000000
namespace Cf
open PySem PySem.Spec PyProof.Rows L2
section
variable {X : Cx}
end
end Cf

set_option Elab.async false
set_option linter.all false
set_option maxRecDepth 100000
set_option maxHeartbeats 2000000
namespace Cf
open PySem PySem.Spec PyProof.Rows L2
open LamX (Tabs)
theorem sqH {K : PySem.W.Frag} {H : Hp} {p : Addr} {xs : List V} (h : H p = some (.tup xs)) : L2.SqT K H p xs := sqT h
namespace Pt
/-! ### data whose tuples stand in the heap, unlocked -/
abbrev SqT (K : PySem.W.Frag) (H : Hp) (p : Addr) (xs : List V) : Prop := H p = some (.tup xs)
theorem sqT {K : PySem.W.Frag} {H : Hp} {p : Addr} {xs : List V} (h : H p = some (.tup xs)) : SqT K H p xs := h
mutual
inductive Db (K : PySem.W.Frag) (N : Addr → Prop) (H : Hp) : V → PyData → Prop
  | non : Db K N H .non .none
  | bl (b : Bool) : Db K N H (.bl b) (.bool b)
  | int (i : Int) : Db K N H (.int i) (.int i)
  | str (x : Str) : Db K N H (.str x) (.str x)
  | lst {a : Addr} {xs : List V} {ds : List PyData} : H a = some (.lst xs) → ¬ N a → DbAll K N H xs ds → Db K N H (.ref a) (.list ds)
  | tup {a : Addr} {xs : List V} {ds : List PyData} : SqT K H a xs → DbAll K N H xs ds → Db K N H (.ref a) (.tuple ds)
  | dct {a : Addr} : H a = some (.dT []) → Db K N H (.ref a) (.dict [])
inductive DbAll (K : PySem.W.Frag) (N : Addr → Prop) (H : Hp) : List V → List PyData → Prop
  | nil : DbAll K N H [] []
  | cons {v : V} {vs : List V} {d : PyData} {ds : List PyData} : Db K N H v d → DbAll K N H vs ds → DbAll K N H (v :: vs) (d :: ds)
end
section
variable {K : PySem.W.Frag} {N N' : Addr → Prop} {H H' : Hp}
/-- what stays of a heap, stays of its data -/
structure Stay (K : PySem.W.Frag) (N : Addr → Prop) (H H' : Hp) : Prop where
  l : ∀ p xs, ¬ N p → H p = some (.lst xs) → H' p = some (.lst xs)
  t : ∀ p xs, SqT K H p xs → SqT K H' p xs
  d : ∀ p, H p = some (.dT []) → H' p = some (.dT [])
mutual
theorem Db.stay (k : Stay K N H H') : ∀ {v : V} {d : PyData}, Db K N H v d → Db K N H' v d
  | _, _, .non => .non
  | _, _, .bl b => .bl b
  | _, _, .int i => .int i
  | _, _, .str x => .str x
  | _, _, .lst s n h => .lst (k.l _ _ n s) n (DbAll.stay k h)
  | _, _, .tup s h => .tup (k.t _ _ s) (DbAll.stay k h)
  | _, _, .dct h => .dct (k.d _ h)
theorem DbAll.stay (k : Stay K N H H') : ∀ {vs : List V} {ds : List PyData}, DbAll K N H vs ds → DbAll K N H' vs ds
  | _, _, .nil => .nil
  | _, _, .cons h t => .cons (Db.stay k h) (DbAll.stay k t)
end
theorem Stay.trans {H1 : Hp} (a : Stay K N H H1) (b : Stay K N H1 H') : Stay K N H H' := ⟨fun p xs n e => b.l p xs n (a.l p xs n e), fun p xs e => b.t p xs (a.t p xs e), fun p e => b.d p (a.d p e)⟩
mutual
theorem Db.more (h : ∀ p xs, H p = some (.lst xs) → ¬ N p → ¬ N' p) : ∀ {v : V} {d : PyData}, Db K N H v d → Db K N' H v d
  | _, _, .non => .non
  | _, _, .bl b => .bl b
  | _, _, .int i => .int i
  | _, _, .str x => .str x
  | _, _, .lst s n q => .lst s (h _ _ s n) (DbAll.more h q)
  | _, _, .tup s q => .tup s (DbAll.more h q)
  | _, _, .dct q => .dct q
theorem DbAll.more (h : ∀ p xs, H p = some (.lst xs) → ¬ N p → ¬ N' p) : ∀ {vs : List V} {ds : List PyData}, DbAll K N H vs ds → DbAll K N' H vs ds
  | _, _, .nil => .nil
  | _, _, .cons a t => .cons (Db.more h a) (DbAll.more h t)
end
/-- one more address that is new -/
theorem Db.new {D : Addr} {v : V} {d : PyData} (h : Db K N H v d) (n : H D = none) : Db K (fun p => N p ∨ p = D) H v d :=
  h.more fun p xs e np z => z.elim np fun z => by rw [z, n] at e; cases e
theorem DbAll.len : ∀ {vs : List V} {ds : List PyData}, DbAll K N H vs ds → vs.length = ds.length
  | _, _, .nil => rfl
  | _, _, .cons _ t => by simp only [List.length_cons]; rw [t.len]
theorem DbAll.take : ∀ {vs : List V} {ds : List PyData} (n : Nat), DbAll K N H vs ds → DbAll K N H (vs.take n) (ds.take n)
  | _, _, 0, _ => by simp only [List.take_zero]; exact .nil
  | _, _, n + 1, .nil => by simp only [List.take_nil]; exact .nil
  | _, _, n + 1, .cons a t => .cons a (t.take n)
theorem DbAll.drop : ∀ {vs : List V} {ds : List PyData} (n : Nat), DbAll K N H vs ds → DbAll K N H (vs.drop n) (ds.drop n)
  | _, _, 0, h => h
  | _, _, n + 1, .nil => by simp only [List.drop_nil]; exact .nil
  | _, _, n + 1, .cons a t => t.drop n
theorem DbAll.get : ∀ {vs : List V} {ds : List PyData} {v : V} {i : Nat}, DbAll K N H vs ds → vs[i]? = some v → ∃ d, ds[i]? = some d ∧ Db K N H v d
  | _, _, _, _, .nil, e => by cases e
  | _, _, _, 0, .cons a t, e => ⟨_, rfl, by cases e; exact a⟩
  | _, _, _, i + 1, .cons a t, e => t.get (i := i) e
theorem DbAll.mem {vs : List V} {ds : List PyData} {v : V} (h : DbAll K N H vs ds) (m : v ∈ vs) : ∃ d ∈ ds, Db K N H v d := by
  obtain ⟨i, hi, e⟩ := List.getElem_of_mem m
  obtain ⟨d, e2, r⟩ := h.get (List.getElem?_eq_some_iff.mpr ⟨hi, e⟩)
  exact ⟨d, List.mem_of_getElem? e2, r⟩
theorem DbAll.ints : ∀ ns : List Int, DbAll K N H (ns.map V.int) (ns.map PyData.int)
  | [] => .nil
  | n :: r => .cons (.int n) (DbAll.ints r)
theorem Db.ty {v : V} {d : PyData} (h : Db K N H v d) : TyX K H v (.type (tyN d)) := by
  cases h with
  | non => exact .base .non
  | bl b => exact .base (.bl b)
  | int i => exact .base (.int i)
  | str x => exact .base (.str x)
  | lst e n a => exact ty_lst (.inl (.inl e))
  | tup e a => exact ty_tup (sqH e)
  | dct e => exact .base (.dT e)
theorem Db.kn {v : V} {d : PyData} (h : Db K N H v d) : Kn K H v := by
  cases h with
  | non => exact .non
  | bl b => exact .bl b
  | int i => exact .int i
  | str x => exact .str x
  | lst e n a => exact .lst (.inl (.inl e))
  | tup e a => exact .tup (sqH e)
  | dct e => exact .dT e
end
/-- data that a bent thing may be -/
def Ob (K : PySem.W.Frag) (N : Addr → Prop) (H : Hp) (k e z : Nat) (v : V) : Prop := ∃ d, Db K N H v d ∧ Gd k e d ∧ szD d ≤ z
theorem Ob.stay {K : PySem.W.Frag} {N : Addr → Prop} {H H' : Hp} {k e z : Nat} {v : V} (h : Ob K N H k e z v) (s : Stay K N H H') : Ob K N H' k e z v :=
  let ⟨d, a, b, c⟩ := h
  ⟨d, a.stay s, b, c⟩
theorem Ob.mono {K : PySem.W.Frag} {N : Addr → Prop} {H : Hp} {k e z k' e' z' : Nat} {v : V} (h : Ob K N H k e z v) (hk : k ≤ k') (he : e ≤ e') (hz : z ≤ z') : Ob K N H k' e' z' v :=
  let ⟨d, a, b, c⟩ := h
  ⟨d, a, b.mono hk he, by omega⟩
theorem Ob.new {K : PySem.W.Frag} {N : Addr → Prop} {H : Hp} {k e z : Nat} {v : V} {D : Addr} (h : Ob K N H k e z v) (n : H D = none) : Ob K (fun p => N p ∨ p = D) H k e z v :=
  let ⟨d, a, b, c⟩ := h
  ⟨d, a.new n, b, c⟩
/-! ### rules -/
section
variable {X : Cx}
theorem call_len_seqK {K : PySem.W.Frag} (e : X.K = K) : CallR X (.builtin "len") (fun xs H Q => ∃ p ys, xs = [.ref p] ∧ (SqL K H p ys ∨ SqT K H p ys) ∧ Q (.int ys.length) H) :=
  call_imp (Cf.call_len_seqK e) fun _ _ _ ⟨p, ys, e1, e2, q⟩ => ⟨p, ys, e1, e2.imp id sqH, q⟩
theorem ix_taN {K : PySem.W.Frag} (e : X.K = K) : IxR X (fun x y H Q => ∃ (p : Addr) (xs : List V) (i : Nat) (v : V), x = .ref p ∧ y = .int (i : Int) ∧ SqT K H p xs ∧ xs[i]? = some v ∧ Q v H) :=
  ix_imp (Cf.ix_taN e) fun _ _ _ _ ⟨p, xs, i, v, e1, e2, e3, q⟩ => ⟨p, xs, i, v, e1, e2, sqH e3, q⟩
end
end Pt
mutual
theorem Pt.Db.db {K : PySem.W.Frag} {N : Addr → Prop} {H : Hp} : ∀ {v : V} {d : PyData}, Pt.Db K N H v d → Cf.Db K N H v d
  | _, _, .non => .non
  | _, _, .bl b => .bl b
  | _, _, .int i => .int i
  | _, _, .str x => .str x
  | _, _, .lst s n h => .lst s n (Pt.DbAll.db h)
  | _, _, .tup s h => .tup (sqH s) (Pt.DbAll.db h)
  | _, _, .dct h => .dct h
theorem Pt.DbAll.db {K : PySem.W.Frag} {N : Addr → Prop} {H : Hp} : ∀ {vs : List V} {ds : List PyData}, Pt.DbAll K N H vs ds → Cf.DbAll K N H vs ds
  | _, _, .nil => .nil
  | _, _, .cons h t => .cons h.db (Pt.DbAll.db t)
end
end Cf

set_option Elab.async false
set_option linter.all false
set_option maxRecDepth 100000
set_option maxHeartbeats 2000000
namespace Cf
open PySem PySem.Spec PyProof.Rows L2
section
variable {X : Cx}
/-! ### {t: v}, t a tuple -/
/-! ### the length of a dict with tuples for keys -/
/-! ### xs[i::k], xs any list -/
end
end Cf

set_option Elab.async false
set_option linter.all false
set_option maxRecDepth 100000
namespace Cf
open PySem PySem.Spec PyProof.Rows L2
/-! ### {**d, k: v} -/
section
variable {prog : Program} {w : World} {K : Type} [DecidableEq K] {knd : KeyKind prog w K} {A : Around} {E : Value → Shared → Prop} {s : Shared}
theorem wpAny_dictPut {d : Addr} {kvs : List (K × Value)} {k : K} {key v : Value} {Q : Unit → Shared → Prop} (hkey : knd.is k key = true) (hm : s.heap.DictOf knd d kvs)
    (hQ : ∀ h', h'.DictOf knd d (stored kvs k v) → Heap.SameBut d s.heap h' → Q () { s with heap := h' })
    (hsz : kvs.length ≤ sizeLine) :
    wpAny (model prog w) A (dictPut d (knd.hash k) key v) Q E s := by
  obtain ⟨o, es, ep, ho, hc, hd, hk, hp, hn⟩ := hm
  have hes : es.size ≤ sizeLine := by have e1 := hp.length; have e2 : es.toList.length = es.size := by simp
                                      omega
  unfold dictPut
  refine wpAny_bind (wpAny_dictFind_of hkey ho hd hk ?_)
  have hidx : (es.findIdx? fun e => knd.is k e.key) = kvs.findIdx? fun kv => decide (kv.1 = k) := by
    rw [← hp.findIdx k]; obtain ⟨l⟩ := es; simp
  cases hi : es.findIdx? fun e => knd.is k e.key with
  | some i =>
    refine (wpAny_updateDict ho hd ((hQ _ ⟨_, _, ep, Heap.get?_update_self _ ho (Obj.isFreed_of_dict (Obj.data_mapDict hd _)),
      hc.mapDict _, Obj.data_mapDict hd _, hk.modify _ _, ?_, ?_⟩ (Heap.SameBut.update ..))))
    · rw [stored, if_pos (any_of_findIdx_some (hidx ▸ hi))]
      have hl : (es.toList.findIdx? fun e => knd.is k e.key) = some i := by rw [← hi]; obtain ⟨l⟩ := es; simp
      have := hp.modify hn hl v
      obtain ⟨l⟩ := es
      simpa using this
    · rw [stored, if_pos (any_of_findIdx_some (hidx ▸ hi)), keys_map_store]; exact hn
  | none =>
    have hnot : k ∉ kvs.map (·.1) := not_mem_of_findIdx_none (hidx ▸ hi)
    have hany : ¬ (kvs.any fun kv => decide (kv.1 = k)) = true := by
      rw [List.any_eq_true]; rintro ⟨kv, hkv, he⟩
      exact hnot (List.mem_map.mpr ⟨kv, hkv, of_decide_eq_true he⟩)
    refine (wpAny_updateDictKeys (hz := hes) ho hd (hQ _ ⟨_, _, ep + 1, Heap.get?_update_self _ ho (Obj.isFreed_of_dict (Obj.data_mapDictKeys hd _)),
      hc.mapDictKeys _, Obj.data_mapDictKeys hd _, hk.push hkey _, ?_, ?_⟩ (Heap.SameBut.update ..)))
    · rw [stored, if_neg hany]
      have := hp.append hkey (knd.hash k) v
      obtain ⟨l⟩ := es
      simpa using this
    · rw [stored, if_neg hany, List.map_append, List.nodup_append]
      refine ⟨hn, by simp, ?_⟩
      intro a ha b hb
      simp only [List.map_cons, List.map_nil, List.mem_singleton] at hb
      subst hb
      exact fun e => hnot (e ▸ ha)
theorem wpAny_mergeMapping {d o : Addr} {kvs more : List (K × Value)} {Q : Unit → Shared → Prop} (hdo : d ≠ o) (hoS : (o == sysModules) = false)
    (hd : s.heap.DictOf knd d kvs) (ho : s.heap.DictOf knd o more)
    (hQ : ∀ h', h'.DictOf knd d (merged kvs more) → h'.DictOf knd o more → Heap.SameBut d s.heap h' → Q () { s with heap := h' })
    (hsz : kvs.length + more.length ≤ sizeLine) :
    wpAny (model prog w) A (mergeMapping d (.ref o) false) Q E s := by
  obtain ⟨od, esd, epd, hod, hcd, hdd, hkd, hpd, hnd⟩ := id hd
  obtain ⟨oo, eso, epo, hoo, hco, hdo', hko, hpo, hno⟩ := id ho
  have hlen : more.length = eso.size := by rw [← hpo.length]; simp
  unfold mergeMapping
  refine wpAny_bind (wpAny_isInstance ho.typeIs isSubtype_dict_dict ?_)
  rw [if_pos rfl]
  refine wpAny_bind (wpAny_specialOf ho.typeIs F.slot_dict_iter.lookup (wpAny_bind (wpAny_pure ?_)))
  dsimp only [Option.some.injEq]
  rw [show ((some (Value.builtin "dict.__iter__") == some (Value.builtin "dict.__iter__")) = true) from beq_self_eq_true _]
  dsimp only
  rw [if_neg (by rw [hoS]; exact Bool.false_ne_true)]
  have loop : wpAny (model prog w) A (do
      let l ← dictEntries o
      let epoch ← dictEpoch o
      forIn (List.range l.size) PUnit.unit fun i (_ : PUnit) => (do
          let l' ← dictEntries o
          match l'[i]? with
            | some e => do
              holding [e.key, e.val] (dictPut d e.hash e.key e.val)
              let ep' ← dictEpoch o
              if (ep' != epoch) = true then do
                  (unsupported "dict.changed-during-merge" : Sem PUnit)
                  pure (ForInStep.yield PUnit.unit)
                else pure (ForInStep.yield PUnit.unit)
            | _ => do
              (unsupported "dict.changed-during-merge" : Sem PUnit)
              pure (ForInStep.yield PUnit.unit) : Sem (ForInStep PUnit))
      pure ()) Q E s := by
    refine wpAny_bind (wpAny_dictEntries hoo hdo' ?_)
    refine wpAny_bind (wpAny_dictEpoch hoo hdo' ?_)
    refine wpAny_bind ?_
    refine wpAny_forIn_list _
      (fun rest _ s' => ∃ h' i, s' = { s with heap := h' } ∧ rest = List.range' i (eso.size - i) ∧ i ≤ eso.size ∧ h'.DictOf knd d (merged kvs (more.take i)) ∧ h'.get? o = some oo ∧ Heap.SameBut d s.heap h')
      _ ?_ ?_ _ _ ⟨s.heap, 0, rfl, by rw [List.range_eq_range', Nat.sub_zero], Nat.zero_le _, by simpa [merged] using hd, hoo, Heap.SameBut.refl _ _⟩
    · rintro x rest b s' ⟨h', i, rfl, hr, hi, hd', hoo', hs'⟩
      have hlt : i < eso.size := by
        rcases Nat.lt_or_ge i eso.size with h | h
        · exact h
        · rw [Nat.sub_eq_zero_of_le h] at hr; simp at hr
      obtain ⟨rfl, hrest⟩ : x = i ∧ rest = List.range' (i + 1) (eso.size - (i + 1)) := by
        have e : eso.size - i = (eso.size - (i + 1)) + 1 := by omega
        rw [e, List.range'_succ] at hr
        injection hr with h1 h2
        exact ⟨h1, h2⟩
      refine wpAny_bind (wpAny_dictEntries hoo' hdo' ?_)
      rw [Array.getElem?_eq_getElem hlt]
      obtain ⟨kv, hkv⟩ : ∃ kv, more[x]? = some kv := ⟨more[x]'(by rw [hlen]; exact hlt), List.getElem?_eq_getElem _⟩
      obtain ⟨k, v⟩ := kv
      obtain ⟨hkey, hval⟩ := hpo.get? (e := eso[x]) (by simp [hlt]) hkv
      obtain ⟨k', hkey', hhash⟩ := hko eso[x] (Array.getElem_mem hlt)
      obtain rfl : k' = k := knd.inj _ _ _ hkey' hkey
      show wpAny _ _ (holding [eso[x].key, eso[x].val] (dictPut d eso[x].hash eso[x].key eso[x].val) >>= _) _ _ _
      rw [hhash, hval]
      have hmx : (merged kvs (more.take x)).length ≤ sizeLine := by
        have e1 := merged_length_le kvs (more.take x)
        have e2 : (more.take x).length ≤ more.length := by rw [List.length_take]; omega
        omega
      refine wpAny_bind (wpAny_holding (wpAny_dictPut (hsz := hmx) hkey hd' fun h'' hd'' hs'' => ?_))
      have hoo'' : h''.get? o = some oo := (hs''.2 o (Ne.symm hdo)).trans hoo'
      refine wpAny_bind (wpAny_dictEpoch hoo'' hdo' ?_)
      rw [if_neg (by simp)]
      exact wpAny_pure ⟨h'', x + 1, rfl, hrest, hlt, by rw [merged_take_succ kvs more x (k', v) hkv]; exact hd'', hoo'', hs'.trans hs''⟩
    · rintro b s' ⟨h', i, rfl, hr, hi, hd', hoo', hs'⟩
      have hin : i = eso.size := by
        rcases Nat.lt_or_ge i eso.size with h | h
        · have e : eso.size - i = (eso.size - (i + 1)) + 1 := by omega
          rw [e, List.range'_succ] at hr; exact nomatch hr
        · exact Nat.le_antisymm hi h
      refine wpAny_pure (hQ h' ?_ ⟨oo, eso, epo, hoo', hco, hdo', hko, hpo, hno⟩ hs')
      rw [hin, ← hlen, List.take_length] at hd'; exact hd'
  refine wpAny_bind (wpAny_dictEntries hod hdd ?_)
  split
  · refine wpAny_bind (wpAny_dictEntries hoo hdo' ?_)
    refine wpAny_bind (wpAny_of_eq (a := PUnit.unit) ?_ loop)
    rw [← Array.forIn_toList]
    refine forIn_yield_id _ fun e he c => ?_
    obtain ⟨k, hkey, _⟩ := hko e (Array.mem_toList_iff.mp he)
    split
    · rename_i a ea
      have := knd.byValue k _ hkey
      rw [ea] at this
      cases this
    · rfl
  · exact loop
theorem display_star (m k v : Sem Value) : dictDisplay [(none, m), (some k, v)] = (do
    let d ← alloc { cls := .type "dict", data := .dict #[] }
    let x ← holding [.ref d] m
    (((holding [.ref d, x] (mergeMapping d x false)).onRaise fun y => do let _ ← holding [.ref d, x, y] (runValue (.builtin "proto.let_go" {}))).tryCatch fun e => do
        if ← isInstance e (.type "AttributeError") then
          rule "dict.display.not-a-mapping"; raiseError "TypeError" s!"'{← typeNameOf x}' object is not a mapping"
        throw e).onRaise fun y => do let _ ← holding [.ref d, y] (runValue (.builtin "proto.let_go" {}))
    let sub ← holding [.ref d] (subDict [(k, v)])
    (holding [.ref d, .ref sub] (mergeMapping d (.ref sub) false)).onRaise fun x => do let _ ← holding [.ref d, x] (runValue (.builtin "proto.let_go" {}))
    pure (.ref d)) := by
  unfold dictDisplay
  simp [List.forIn_cons, List.forIn_nil, bind_assoc]
end
section
variable {X : Cx} {pos : Pos}
/-- {**d, k: v}, keys ints and texts -/
def tStar (td tk tv : TE) : TE := fun σ H Q => ∀ p, H p = none → td σ (upd H p (.dK [])) fun x H1 => ∃ (a : Addr) (kvs : List (Key × V)), x = .ref a ∧ a ≠ p ∧ Rd H1 a (.dK kvs) ∧ H1 p = some (.dK []) ∧ kvs.length + 1 ≤ sizeLine ∧
  ∀ q, H1 q = none → tk σ (upd (upd H1 p (.dK kvs)) q (.dK [])) fun kx H2 => tv σ H2 fun y H3 => ∃ key : Key, kx = kV key ∧ H3 p = some (.dK kvs) ∧ H3 q = some (.dK []) ∧ q ≠ p ∧
    Q (.ref p) (upd (upd H3 q (.dK [(key, y)])) p (.dK (putK kvs key y)))
theorem pe_dstar {ed ek ev : Expr} {td tk tv : TE} (hd : PE X ed td) (hk : PE X ek tk) (hv : PE X ev tv) : PE X (.Dict [none, some ek] [ed, ev] pos) (tStar td tk tv) := by
  refine ⟨fun pins s σ H Q I q => ?_⟩
  rw [arm_eval_Dict]
  refine wpAny_bind (wpAny_standAt ?_)
  show wpAny _ _ (dictDisplay [(none, (do let x ← eval ed X.env; standAt pos; pure x)), (some (eval ek X.env), (do let x ← eval ev X.env; standAt pos; pure x))]) _ _ s
  rw [display_star]
  have hn := I.hok.fresh (Nat.le_refl s.heap.objs.size)
  have I1 := I.laid (a := s.heap.objs.size) (o := .dK []) (h' := s.heap.push { cls := .type "dict", data := .dict #[] }) (t' := s.toks) (fun _ _ q => Heap.get?_push_of_some _ q) (Nat.le_refl _) (dk_empty s.heap I.big)
  refine wpAny_bind (wpAny_alloc ?_)
  refine wpAny_bind (wpAny_holding (wpAny_bind ?_))
  refine thn (hd.run pins _ σ _ _ I1 (q _ hn)) fun u s1 ⟨x, H1, I2, rx, a, kvs, ex, hap, rd, hp, hl, q2⟩ => ?_
  subst ex
  cases (show u = Value.ref a from rx)
  refine wpAny_bind (wpAny_standAt (wpAny_pure ?_))
  refine wpAny_bind (wpAny_onRaise (wpAny_tryCatch (wpAny_onRaise (wpAny_holding ?_))))
  obtain ⟨zp, hps, vp, rp, dp⟩ := dk_of I2.hok hp
  cases rp
  obtain ⟨za, has, va, ra, da⟩ := dk_rd I2.hok rd
  have hlen : kvs.length = va.length := ra.length
  refine wpAny_mergeMapping (knd := mixKind X.prog X.w) (kvs := []) (more := va) hap.symm has dp da (fun h1 d1 _ sb => ?_) (by rw [List.length_nil]; omega)
  have hva : (va.map (·.1)).Nodup := let ⟨_, _, _, _, _, _, _, _, hn⟩ := da; hn
  rw [merged_nil_of_nodup va hva] at d1
  have he : ∃ q, h1.get? s.heap.objs.size = some q := let ⟨q, _, _, hq, _⟩ := d1; ⟨q, hq⟩
  have I3 : Inv X pins σ (upd H1 s.heap.objs.size (.dK kvs)) { s1 with heap := h1 } := d_write (t' := s1.toks) I2 (by rw [hp]; exact True.intro) sb he (dk_new (by omega) hps ra d1)
  have hq := I3.hok.fresh (Nat.le_refl h1.objs.size)
  have hqp : h1.objs.size ≠ s.heap.objs.size := fun e => by
    rw [e, upd_same] at hq
    cases hq
  have hq1 : H1 h1.objs.size = none := (upd_ne hqp).symm.trans hq
  have I4 := I3.laid (a := h1.objs.size) (o := .dK []) (h' := h1.push { cls := .type "dict", data := .dict #[] }) (t' := s1.toks) (fun _ _ q => Heap.get?_push_of_some _ q) (Nat.le_refl _) (dk_empty h1 I3.big)
  refine wpAny_bind (wpAny_holding ?_)
  refine wpAny_subDict (knd := mixKind X.prog X.w) (s := { s1 with heap := h1 }) (pairs := [(eval ek X.env, (do let x ← eval ev X.env; standAt pos; pure x))]) (by show 1 ≤ 15; decide) ?_
  refine evalPairs_cons (thn (hk.run pins _ σ _ _ I4 (q2 _ hq1)) fun kv s2 ⟨kx, H2, J2, rk, w2⟩ => ?_)
  refine wpAny_bind (thn (hv.run pins _ σ _ _ J2 w2) fun vv s3 ⟨y, H3, J3, rv, key, ek2, e3, e4, hne, w3⟩ => wpAny_bind (wpAny_standAt (wpAny_pure ?_)))
  subst ek2
  refine evalPairs_nil ?_
  obtain ⟨_, hqs, vq, rq, dq⟩ := dk_of J3.hok e4
  cases rq
  refine ⟨[(key, vv)], ⟨kV_is rk, rfl, True.intro⟩, dq, fun h2 d2 sb2 => ?_⟩
  have he2 : ∃ q, h2.get? h1.objs.size = some q := let ⟨q, _, _, hq, _⟩ := d2; ⟨q, hq⟩
  have d2' : h2.DictOf (mixKind X.prog X.w) h1.objs.size [(key, vv)] := d2
  have J4 : Inv X pins σ (upd H3 h1.objs.size (.dK [(key, y)])) { s3 with heap := h2, toks := s3.toks + 1 } := d_write (t' := s3.toks + 1) J3 (by rw [e4]; exact True.intro) sb2 he2 (dk_new (by show 1 ≤ sizeLine; decide) hqs (.cons ⟨rfl, rv⟩ .nil) d2')
  refine wpAny_bind (wpAny_onRaise (wpAny_holding ?_))
  have e5 : (upd H3 h1.objs.size (.dK [(key, y)])) s.heap.objs.size = some (.dK kvs) := (upd_ne hne.symm).trans e3
  obtain ⟨_, _, vp2, rp2, dp2⟩ := dk_of J4.hok e5
  have hl2 : kvs.length = vp2.length := rp2.length
  refine wpAny_mergeMapping (knd := mixKind X.prog X.w) (kvs := vp2) (more := [(key, vv)]) hne.symm hqs dp2 d2' (fun h3 d3 _ sb3 => ?_) (by show vp2.length + 1 ≤ sizeLine; omega)
  have he3 : ∃ q, h3.get? s.heap.objs.size = some q := let ⟨q, _, _, hq, _⟩ := d3; ⟨q, hq⟩
  have hpl : (putK kvs key y).length ≤ sizeLine := Nat.le_trans (length_putK kvs key y) hl
  have r3 : KV (putK kvs key y) (merged vp2 [(key, vv)]) := rp2.put key rv
  refine wpAny_pure ⟨.ref s.heap.objs.size, _, d_write (t' := s3.toks + 1) J4 (by rw [e5]; exact True.intro) sb3 he3 (dk_new hpl hps r3 d3), rfl, w3⟩
end
end Cf

set_option Elab.async false
set_option linter.all false
set_option maxRecDepth 100000
namespace Cf
open PySem PySem.Spec PyProof.Rows L2
/-! ### methods of the program's own classes, over defs that run where nothing is shown -/
theorem make_guards {A : Around} {C : Addr} {us : List Value} {kw : List (Str × Value)} : (A.under (.builtin "type.__call__" ⟨.ref C :: us, kw⟩)).guards = A.guards := by
  first | rfl | simp [Around.under, Code.guards, Code.isGuard, guardIds]
/-- what a caller knows of a method -/
structure ClM (P : Program) (w : World) (K : PySem.W.Frag) (mg : Str → Option Value) (base : Heap) (CX : CXT) (k : Nat) (C : Addr) (m : Str) (sp : Sp) : Prop where
  ex : ∃ (f : Addr) (fd : FuncData) (ps : List Str), FnG P w K mg base CX k f fd ps sp ∧ Meth K C m f ∧ Binds K fd ps []
/-- .. and by the names of all its parameters but self -/
structure ClMK (P : Program) (w : World) (K : PySem.W.Frag) (mg : Str → Option Value) (base : Heap) (CX : CXT) (k : Nat) (C : Addr) (m : Str) (ks : List Str) (js : List Nat) (sp : Sp) : Prop where
  ex : ∃ (f : Addr) (fd : FuncData) (ps : List Str), FnG P w K mg base CX k f fd ps sp ∧ Meth K C m f ∧
    ∀ (s : Shared) (u : Value) (ws : List Value), ws.length = ks.length → BindsTo s fd ⟨[u], ks.zip ws⟩ (ps.zip (u :: pickU js ws))
/-- .. of a class that is made -/
structure ClN (P : Program) (w : World) (K : PySem.W.Frag) (mg : Str → Option Value) (base : Heap) (CX : CXT) (k : Nat) (x : Str) (C : Addr) (sp : Sp) : Prop where
  g : mg x = some (.ref C)
  ex : ∃ (f : Addr) (fd : FuncData) (ps : List Str), FnG P w K mg base CX k f fd ps sp ∧ Mk K C f ∧ Binds K fd ps []
structure ClNK (P : Program) (w : World) (K : PySem.W.Frag) (mg : Str → Option Value) (base : Heap) (CX : CXT) (k : Nat) (x : Str) (C : Addr) (ks : List Str) (js : List Nat) (sp : Sp) : Prop where
  g : mg x = some (.ref C)
  ex : ∃ (f : Addr) (fd : FuncData) (ps : List Str), FnG P w K mg base CX k f fd ps sp ∧ Mk K C f ∧
    ∀ (s : Shared) (u : Value) (ws : List Value), ws.length = ks.length → BindsTo s fd ⟨[u], ks.zip ws⟩ (ps.zip (u :: pickU js ws))
/-- a method without wishes of its own beside that of its caller -/
def tMethG (C : Addr) (m : Str) (sp : Sp) (E : L2.St → XK) (ta : TE) (t : TA) : TE := fun σ H Q => ta σ H fun x H1 => ∃ a dx fs, x = .ref a ∧ H1 a = some (.ins C dx fs) ∧ fs.lookup m = none ∧ t σ H1 fun vs H2 => sp (x :: vs) H2 Q (E σ)
def tNewG (C : Addr) (sp : Sp) (E : L2.St → XK) (t : TA) : TE := fun σ H Q => t σ H fun vs H1 => ∀ x dx, H1 x = none → H1 dx = none → dx ≠ x → sp (.ref x :: vs) (upd (upd H1 dx (.own x)) x (.ins C dx [])) (fun v H2 => v = .non ∧ Q (.ref x) H2) (E σ)
theorem passG {X : Cx} {E : L2.St → XK} : ∀ σ, PassesAt CX0 X σ (E σ) := fun σ _ _ _ _ _ _ z => z.elim
section
variable {X : Cx} {CX : CXT} {k n : Nat} {C : Addr} {sp : Sp} {E : L2.St → XK} {x m : Str} {p pos apos : Pos} {e o : Expr} {es : List Expr} {t tk : TA} {ta : TE} {ks : List Str} {js : List Nat} {kws : List Keyword}
theorem run_g {pins : List (Addr × Obj)} {σ : L2.St} {H : Hp} {s : Shared} {Q : VK} {us : List Value} {vs : List V} {f : Addr} {fd : FuncData} {ps : List Str} (F : FnG X.prog X.w X.K X.mg X.base CX k f fd ps sp) (hr : Room k X.A) (hgd : X.A.guards = some []) (hb : Binds X.K fd ps [])
    (hx : ∀ σ, PassesAt CX X σ (E σ)) (I : Inv X pins σ H s) (r : Vals vs us) (q : sp vs H Q (E σ)) : wpAny (model X.prog X.w) X.A (call (.ref f) us) (EP X pins σ Q) X.xe s := by
  have hl : us.length = ps.length := by
    rw [← r.length]
    exact F.len _ _ _ _ q
  have hb' := hb s us I.kIn (by rw [List.append_nil]; exact hl)
  rw [List.append_nil] at hb'
  refine wpAny_call (codeAny_mono (F.run X.A X.stack s H ⟨us, []⟩ us vs Q (E σ) hr hgd I.env0 hb' r q) ?_)
  intro res s' hq
  match res, hq with
  | .error er, hq => exact hx σ pins H s er s' I hq
  | .ok (.ret u), hq => exact I.after hq
  | .ok .next, hq => exact hq.elim
  | .ok .brk, hq => exact hq.elim
  | .ok .cont, hq => exact hq.elim
/-- o.m(e, ..) -/
theorem pe_clM {pl : Sem Bool} (c : Cls X.K C) (M : ClM X.prog X.w X.K X.mg X.base CX k C m sp) (hr : Room k X.A) (hgd : X.A.guards = some []) (hx : ∀ σ, PassesAt CX X σ (E σ)) (he : PE X o ta) (ha : PA X (e :: es) t)
    (hst : starEach (e :: es) X.env = (false, eval e X.env) :: starEach es X.env := by rfl) (hpl : (backTo pos (starEach es X.env)).any (·.1) = false := by rfl)
    (ht : eval (.Call (.Attribute o m apos) (e :: es) [] pos) X.env = (do
      let ov ← eval o X.env
      standAt apos.atName
      let (f, first) ← holding [ov] (getMethod ov m pl)
      callWith pos f first (backTo pos (starEach (e :: es) X.env)) (backToKw pos (keywordEach [] X.env))) := by rfl) :
    PE X (.Call (.Attribute o m apos) (e :: es) [] pos) (tMethG C m sp E ta t) := by
  obtain ⟨f, fd, ps, F, hm, hb⟩ := M.ex
  refine ⟨fun pins s σ H Q I h => ?_⟩
  refine PySem.W.methodCall_KW (pl := pl) (thn (he.run pins s σ H _ I h) fun u s1 ⟨x, H1, I1, rx, a, dx, fs, ex, ea, l, q⟩ => ?_) ht
  subst ex
  obtain rfl : u = Value.ref a := rx
  refine getmeth_ok I1 ea c hm l ?_
  refine PySem.W.callWith_K (first := [.ref a]) (h₀ := X.base) I.ok.mod.kin hm.kp (thn (ha.run pos pins s1 σ H1 _ I1 q) fun us s2 ⟨vs, H2, I2, r, q2⟩ => ⟨I2.kIn, ?_⟩) hst hpl
  exact run_g (us := .ref a :: us) (vs := .ref a :: vs) F hr hgd hb hx I2 (.cons rfl r) q2
/-- o.m() -/
theorem pe_clM0 {pl : Sem Bool} (c : Cls X.K C) (M : ClM X.prog X.w X.K X.mg X.base CX k C m sp) (hr : Room k X.A) (hgd : X.A.guards = some []) (hx : ∀ σ, PassesAt CX X σ (E σ)) (he : PE X o ta)
    (ht : eval (.Call (.Attribute o m apos) [] [] pos) X.env = (do
      let ov ← eval o X.env
      standAt apos.atName
      let (f, first) ← holding [ov] (getMethod ov m pl)
      callWith pos f first (backTo pos (starEach [] X.env)) (backToKw pos (keywordEach [] X.env))) := by rfl) :
    PE X (.Call (.Attribute o m apos) [] [] pos) (tMethG C m sp E ta tNil) := by
  obtain ⟨f, fd, ps, F, hm, hb⟩ := M.ex
  refine ⟨fun pins s σ H Q I h => ?_⟩
  refine PySem.W.methodCall_KW (pl := pl) (thn (he.run pins s σ H _ I h) fun u s1 ⟨x, H1, I1, rx, a, dx, fs, ex, ea, l, q⟩ => ?_) ht
  subst ex
  obtain rfl : u = Value.ref a := rx
  refine getmeth_ok I1 ea c hm l ?_
  exact PySem.W.callWith_K0 (first := [.ref a]) I1.kIn hm.kp (run_g (us := [.ref a]) (vs := [.ref a]) F hr hgd hb hx I1 (.cons rfl .nil) q)
/-- C(e, ..) -/
theorem run_mk {pins : List (Addr × Obj)} {σ : L2.St} {H : Hp} {s : Shared} {Q : VK} {us us2 : List Value} {kw : List (Str × Value)} {vs : List V} {f : Addr} {fd : FuncData} {ps : List Str} (M : Mk X.K C f) (F : FnG X.prog X.w X.K X.mg X.base CX k f fd ps sp) (hr : Room (k + 1) X.A) (hgd : X.A.guards = some [])
    (hb : ∀ (s : Shared) (u : Value), X.K.In s.heap → (u :: us2).length = ps.length → BindsTo s fd ⟨u :: us, kw⟩ (ps.zip (u :: us2)))
    (hx : ∀ σ, PassesAt CX X σ (E σ)) (I : Inv X pins σ H s) (r : Vals vs us2)
    (h : ∀ x dx, H x = none → H dx = none → dx ≠ x → sp (.ref x :: vs) (upd (upd H dx (.own x)) x (.ins C dx [])) (fun v H2 => v = .non ∧ Q (.ref x) H2) (E σ)) :
    wpAny (model X.prog X.w) X.A (call (.ref C) us kw) (EP X pins σ Q) X.xe s := by
  have hq := h (s.heap.objs.size + 1) s.heap.objs.size (I.hok.fresh (Nat.le_succ _)) (I.hok.fresh (Nat.le_refl _)) (Nat.ne_of_lt (Nat.lt_succ_self _))
  have I2 := Inv.made (C := C) I
  have r2 : Vals (V.ref (s.heap.objs.size + 1) :: vs) (Value.ref (s.heap.objs.size + 1) :: us2) := .cons rfl r
  have hl : (Value.ref (s.heap.objs.size + 1) :: us2).length = ps.length := by
    have e := r2.length
    rw [F.len _ _ _ _ hq] at e
    exact e.symm
  refine wpAny_call (make_map (f := f) I.kIn M.makes M.init (beq_iff_eq.mp M.fn) (codeAny_mono (F.run _ X.stack _ _ ⟨Value.ref (s.heap.objs.size + 1) :: us, kw⟩ (Value.ref (s.heap.objs.size + 1) :: us2) _ _ (E σ) (hr.make C us kw) (make_guards.trans hgd)
    (I2.env0.make C us kw) (hb _ (Value.ref (s.heap.objs.size + 1)) I2.kIn hl) r2 hq) fun r s' hq' => ?_))
  cases r with
  | error e => exact hx σ pins _ _ e s' I2 hq'
  | ok fl =>
    cases fl with
    | ret u =>
      obtain ⟨v, H', I3, rv, ev, q3⟩ := I2.after hq'
      subst ev
      exact ⟨rv, ⟨V.ref (s.heap.objs.size + 1), H', I3, rfl, q3⟩⟩
    | next => exact False.elim hq'
    | brk => exact False.elim hq'
    | cont => exact False.elim hq'
theorem pe_clN (M : ClN X.prog X.w X.K X.mg X.base CX k x C sp) (hr : Room (k + 1) X.A) (hgd : X.A.guards = some []) (hx : ∀ σ, PassesAt CX X σ (E σ)) (hg : Gl X x) (ha : PA X (e :: es) t)
    (hdb : (x == ("__debug__" : Str)) = false := by decide) (he : starEach (e :: es) X.env = (false, eval e X.env) :: starEach es X.env := by rfl) (hpl : (backTo pos (starEach es X.env)).any (·.1) = false := by rfl) :
    PE X (.Call (.Name x p) (e :: es) [] pos) (tNewG C sp E t) := by
  obtain ⟨f, fd, ps, F, hm, hb⟩ := M.ex
  refine ⟨fun pins s σ H Q I h => ?_⟩
  refine wpAny_Call_Name_kw (ld_glob I hg M.g ?_ hdb)
  refine PySem.W.callWith_K (h₀ := X.base) I.ok.mod.kin hm.kp (thn (ha.run pos pins s σ H _ I h) fun us s1 ⟨vs, H1, I1, r, q⟩ => ⟨I1.kIn, ?_⟩) he hpl
  refine run_mk (us := us) (us2 := us) hm F hr hgd (fun s u kin hl => ?_) hx I1 r q
  have := hb s (u :: us) kin (by rw [List.append_nil]; exact hl)
  rwa [List.append_nil] at this
end
end Cf

set_option Elab.async false
set_option linter.all false
set_option maxRecDepth 100000
namespace Cf
open PySem PySem.Spec PyProof.Rows L2
open LamX (Tabs)
/-! ### o.f as one target among several -/
section
variable {X : Cx} {o : Expr} {f : Str} {pos : Pos} {ta : TE}
end
/-! ### heaps that go on, but for the addresses of S -/
structure Ks (T : List (Addr × Str)) (S : Addr → Prop) (H H' : Hp) : Prop where
  keep : ∀ p o, ¬ S p → H p = some o → (∀ ps, o ≠ .tbl ps) → H' p = some o
  tab : Tabs T H → Tabs T H'
section
variable {K : PySem.W.Frag} {T : List (Addr × Str)} {S S' S1 : Addr → Prop} {H H0 H1 H2 : Hp} {p d : Addr} {o : HO} {xs : List V}
theorem Ks.of (k : Kt T H H1) : Ks T S H H1 := ⟨fun p o _ e n => k.ext p o e n, k.tab⟩
theorem Ks.refl : Ks T S H H := .of .refl
theorem Ks.mono (k : Ks T S H H1) (h : ∀ p, S p → S' p) : Ks T S' H H1 := ⟨fun p o n e z => k.keep p o (fun w => n (h p w)) e z, k.tab⟩
/-- one more step; what it changes is in S or was not there at the start -/
theorem Ks.thn (a : Ks T S H0 H) (b : Ks T S1 H H1) (h : ∀ p, S1 p → S p ∨ Nt H0 p) : Ks T S H0 H1 :=
  ⟨fun p o n e z => b.keep p o (fun w => (h p w).elim n fun t => by
    obtain ⟨ps, e2⟩ := t o e
    exact z ps e2) (a.keep p o n e z) z, fun t => b.tab (a.tab t)⟩
theorem Ks.trans (a : Ks T S H0 H) (b : Ks T S H H1) : Ks T S H0 H1 := a.thn b fun _ z => .inl z
theorem Ks.kt (a : Ks T S H0 H) (b : Kt T H H1) : Ks T S H0 H1 := a.trans (.of b)
theorem Ks.kp (a : Ks T S H0 H) (b : Kp [] H H1) : Ks T S H0 H1 := a.kt b.kt
theorem Ks.toKt (a : Ks T S H0 H) (h : ∀ p, S p → Nt H0 p) : Kt T H0 H := ⟨fun p o e n => a.keep p o (fun w => by
    obtain ⟨ps, e2⟩ := h p w o e
    exact n ps e2) e n, a.tab⟩
theorem tabs_put {o' : HO} (h : H p = some o) (n1 : ∀ ps, o ≠ .tbl ps) (n2 : ∀ f, o ≠ .ext f) (t : Tabs T H) : Tabs T (upd H p o') := fun r hr => by
  obtain ⟨ps, h1, h3, h4⟩ := t r hr
  refine ⟨ps, ?_, h3, fun pos cv hc => ?_⟩
  · rw [upd_ne fun z => ?_]
    · exact h1
    · rw [← z, h1] at h
      exact n1 _ (Option.some.inj h).symm
  · obtain ⟨c, e1, e2⟩ := h4 pos cv hc
    refine ⟨c, e1, ?_⟩
    rw [upd_ne fun z => ?_]
    · exact e2
    · rw [← z, e2] at h
      have := (Option.some.inj h).symm
      exact n2 _ this
theorem Ks.put {o' : HO} (a : Ks T S H0 H) (h : H p = some o) (n1 : ∀ ps, o ≠ .tbl ps) (n2 : ∀ f, o ≠ .ext f) (s : S p ∨ Nt H0 p) : Ks T S H0 (upd H p o') := by
  refine a.thn (S1 := fun q => q = p) ⟨fun q u n e _ => by rw [upd_ne n]; exact e, tabs_put h n1 n2⟩ fun q z => by rw [z]; exact s
theorem Ks.putI {C dx : Addr} {fs : List (Str × V)} {o' : HO} (a : Ks T S H0 H) (h : H p = some (.ins C dx fs)) (s : S p ∨ Nt H0 p) : Ks T S H0 (upd H p o') := a.put h (fun _ z => nomatch z) (fun _ z => nomatch z) s
/-- a list at p is changed -/
theorem Ks.md {ys : List V} (a : Ks T S H0 H) (h : H p = some (.lst ys)) (m : Kp [p] H H1) (s : S p ∨ Nt H0 p) : Ks T S H0 H1 := by
  refine a.thn (S1 := fun q => q = p) ⟨fun q u n e _ => m.at1 n e, fun t => ?_⟩ fun q z => by rw [z]; exact s
  intro r hr
  obtain ⟨ps, h1, h3, h4⟩ := t r hr
  refine ⟨ps, m.at1 (fun z => ?_) h1, h3, fun pos cv hc => ?_⟩
  · rw [z, h] at h1
    cases h1
  · obtain ⟨c, e1, e2⟩ := h4 pos cv hc
    refine ⟨c, e1, m.at1 (fun z => ?_) e2⟩
    rw [z, h] at e2
    unfold LamX.CodeO at e2
    cases e2
theorem Ks.at_ (a : Ks T S H H1) (n : ¬ S p) (h : H p = some o) (z : ∀ ps, o ≠ .tbl ps) : H1 p = some o := a.keep p o n h z
theorem Ks.nt (a : Ks T S H H1) (h : Nt H1 p) (n : ¬ S p) : Nt H p := fun o e => by
  by_cases z : ∃ ps, o = .tbl ps
  · exact z
  · exact h o (a.keep p o n e fun ps w => z ⟨ps, w⟩)
theorem Ks.atL (a : Ks T S H H1) (n : ¬ S p) (h : H p = some (.lst xs)) : H1 p = some (.lst xs) := a.keep p _ n h fun _ z => nomatch z
theorem Ks.atT (a : Ks T S H H1) (n : ¬ S p) (h : H p = some (.tup xs)) : H1 p = some (.tup xs) := a.keep p _ n h fun _ z => nomatch z
theorem Ks.atD {kvs : List (Key × V)} (a : Ks T S H H1) (n : ¬ S p) (h : H p = some (.dK kvs)) : H1 p = some (.dK kvs) := a.keep p _ n h fun _ z => nomatch z
theorem Ks.atI {C dx : Addr} {fs : List (Str × V)} (a : Ks T S H H1) (n : ¬ S p) (h : H p = some (.ins C dx fs)) : H1 p = some (.ins C dx fs) := a.keep p _ n h fun _ z => nomatch z
/-- the addresses of S hold no tuples -/
def NoTupS (S : Addr → Prop) (H : Hp) : Prop := ∀ p, S p → ∀ xs o, H p ≠ some (.tup xs) ∧ H p ≠ some (.frz o (.tup xs)) ∧ H p ≠ some (.dT [])
theorem Ks.tup (a : Ks T S H H1) (n : ∀ p, S p → ∀ xs o, H p ≠ some (.tup xs) ∧ H p ≠ some (.frz o (.tup xs))) (h : SqT K H p xs) : SqT K H1 p xs := by
  rcases h with (h | ⟨u, h⟩) | h
  · exact .inl (.inl (a.keep p _ (fun z => (n p z xs default).1 h) h fun _ z => nomatch z))
  · exact .inl (.inr ⟨u, a.keep p _ (fun z => (n p z xs u).2 h) h fun _ z => nomatch z⟩)
  · exact .inr h
theorem Ks.stay {N : Addr → Prop} (a : Ks T S H H1) (n : NoTupS S H) (hN : ∀ p xs, S p → H p = some (.lst xs) → N p) : Stay K N H H1 :=
  ⟨fun p xs np e => a.atL (fun z => np (hN p xs z e)) e, fun p xs e => a.tup (fun p z xs o => ⟨(n p z xs o).1, (n p z xs o).2.1⟩) e, fun p e => a.keep p _ (fun z => (n p z [] default).2.2 e) e fun _ z => nomatch z⟩
end
end Cf

set_option Elab.async false
set_option linter.all false
set_option maxRecDepth 100000
set_option maxHeartbeats 2000000
namespace Cf
open PySem PySem.Spec PyProof.Rows L2
open LamX (Tabs)
/-! ### a dict by a comprehension, whose keys are ints and texts -/
section
variable {X : Cx}
/-- sorted(d) of a dict with few keys, all texts: the keys in order, said by a premise -/
theorem cr_srtDS (calm : X.calm = true) : CallR X (.builtin "sorted") (fun xs H Q => ∃ (a : Addr) (kvs : List (Key × V)) (ks : List Str), xs = [.ref a] ∧ Rd H a (.dK kvs) ∧ kvs.map (·.1) = ks.map Sum.inr ∧ ks.length < 64 ∧
    ∀ ys : List Str, ys.Perm ks → sortedS ys = true → New H (.lst (ys.map V.str)) Q) := by
  intro pins s σ H xs us Q I r q
  obtain ⟨a, kvs, ks, e, rd, ek, l, w⟩ := q
  exact call_sortedD calm pins s σ H xs us Q I r ⟨a, kvs, ks, e, rd, ek, l, fun ys p pm so n => w ys pm so p _ n (Kp.new n) upd_same⟩
theorem cr_dictD {K : PySem.W.Frag} (eK : X.K = K) : CallR X (.type "dict") (fun xs H Q => ∃ (a : Addr) (kvs : List (Key × V)), xs = [.ref a] ∧ Rd H a (.dK kvs) ∧ New H (.dK kvs) Q) := by
  intro pins s σ H xs us Q I r q
  obtain ⟨a, kvs, e, rd, w⟩ := q
  exact call_dictD pins s σ H xs us Q I r ⟨a, kvs, e, rd, fun p n => w p _ n (Kp.new n) upd_same⟩
end
end Cf

set_option Elab.async false
set_option linter.all false
set_option maxRecDepth 100000
set_option maxHeartbeats 2000000
namespace Cf
open PySem PySem.Spec PyProof.Rows L2
open LamX (Tabs)
section
variable {X : Cx}
/-- a def that may let exceptions out, called where it doesn't -/
theorem passFS : ∀ σ, PassesAt (L2.CX X.prog X.w) X σ ((fun (_ : L2.St) (_ : Value) (_ : Option Addr) (_ : Hp) => False) σ) := fun σ pins H s e s' I c => passF (X := X) pins σ H s e s' I c
end
end Cf

set_option Elab.async false
set_option linter.all false
set_option maxRecDepth 100000
set_option maxHeartbeats 4000000
/-! NJ: sorted and min of pairs (int, text). -/
namespace SrtIS
open PySem PyProof.Rows Srt SrtO
def IsIS (h : Heap) (v : Value) (x : Int) (y : Str) : Prop := ∃ a o t u n, v = .ref a ∧ h.get? a = some o ∧ o.cls = .type "tuple" ∧ o.data = .seq #[.int x t, .str y u] n
theorem IsIS.keeps {h h' : Heap} {v : Value} {x : Int} {y : Str} (p : IsIS h v x y) (k : ∀ b o, h.get? b = some o → o.cls = .type "tuple" → h'.get? b = some o) : IsIS h' v x y := by
  obtain ⟨a, o, t, u, n, e, ho, hc, hd⟩ := p
  exact ⟨a, o, t, u, n, e, k _ _ ho hc, hc, hd⟩
theorem str_ext {a b : Str} (h : a.cps.toList = b.cps.toList) : a = b := by
  cases a with
  | mk x => cases b with
    | mk y => rw [show x = y from Array.toList_inj.mp h]
section
variable {prog : Program} {w : World} {A : Around} {E : Value → Shared → Prop} {s : Shared}
end
end SrtIS
namespace Cf
open PySem PySem.Spec PyProof.Rows L2 SrtIS
open PySem.W (dataLt minD min_list_data AlikeAll alike alikeAll dataLt_pair dataLt_int dataLt_str)
/-- a list of pairs (int, text) -/
inductive PIS (H : Hp) : List V → List (Int × Str) → Prop
  | nil : PIS H [] []
  | cons {t : Addr} {p : Int × Str} {xs : List V} {ps : List (Int × Str)} : H t = some (.tup [.int p.1, .str p.2]) → PIS H xs ps → PIS H (.ref t :: xs) (p :: ps)
theorem PIS.len {H : Hp} : ∀ {xs : List V} {ps : List (Int × Str)}, PIS H xs ps → xs.length = ps.length
  | _, _, .nil => rfl
  | _, _, .cons _ h => by rw [List.length_cons, List.length_cons, h.len]
theorem PIS.keep {H H' : Hp} (k : ∀ t xs, H t = some (.tup xs) → H' t = some (.tup xs)) : ∀ {xs : List V} {ps : List (Int × Str)}, PIS H xs ps → PIS H' xs ps
  | _, _, .nil => .nil
  | _, _, .cons e h => .cons (k _ _ e) (h.keep k)
/-- what the pair at a place of the heap says -/
def kIS (H : Hp) : V → Int × Str
  | .ref t => match H t with
    | some (.tup [.int i, .str s]) => (i, s)
    | _ => (0, Str.empty)
  | _ => (0, Str.empty)
theorem kIS_at {H : Hp} {t : Addr} {i : Int} {s : Str} (h : H t = some (.tup [.int i, .str s])) : kIS H (.ref t) = (i, s) := by
  unfold kIS
  show (match H t with | some (.tup [.int i, .str s]) => (i, s) | _ => (0, Str.empty)) = _
  rw [h]
theorem PIS.map {H : Hp} : ∀ {xs : List V} {ps : List (Int × Str)}, PIS H xs ps → xs.map (kIS H) = ps
  | _, _, .nil => rfl
  | _, _, .cons (p := p) e h => by rw [List.map_cons, h.map, kIS_at e]
theorem PIS.all {H : Hp} : ∀ {xs : List V} {ps : List (Int × Str)}, PIS H xs ps → ∀ x ∈ xs, ∃ t, x = .ref t ∧ H t = some (.tup [.int (kIS H x).1, .str (kIS H x).2])
  | _, _, .nil, _, hx => nomatch hx
  | _, _, .cons (t := t) e h, x, hx => by
    rcases List.mem_cons.mp hx with rfl | hx
    · refine ⟨t, rfl, ?_⟩
      rw [kIS_at e]
      exact e
    · exact h.all x hx
theorem PIS.of {H : Hp} : ∀ {xs : List V}, (∀ x ∈ xs, ∃ t, x = .ref t ∧ H t = some (.tup [.int (kIS H x).1, .str (kIS H x).2])) → PIS H xs (xs.map (kIS H))
  | [], _ => .nil
  | x :: xs, h => by
    obtain ⟨t, rfl, e⟩ := h x List.mem_cons_self
    exact .cons e (PIS.of fun y hy => h y (List.mem_cons_of_mem _ hy))
section
variable {X : Cx}
/-! ### the least pair -/
def encIS (p : Int × Str) : PyData := .tuple [.int p.1, .str p.2]
theorem PIS.reads {pins : List (Addr × Obj)} {σ : L2.St} {H : Hp} {s : Shared} (I : Inv X pins σ H s) : ∀ {xs : List V} {ps : List (Int × Str)} {us : List Value}, PIS H xs ps → Vals xs us → ∃ as, ReadsAll s.heap us (ps.map encIS) as
  | _, _, _, .nil, .nil => ⟨[], .nil⟩
  | _, _, _, .cons (t := t) e h, .cons r rs => by
    obtain ⟨as, ih⟩ := h.reads I rs
    obtain rfl : _ = Value.ref t := r
    obtain ⟨_, its2, r2, o, ho, hc, n, hd⟩ := I.hok _ _ e
    obtain ⟨u1, u2, rfl, ri, rj⟩ := vals2 r2
    obtain ⟨t1, rfl⟩ := ri
    obtain ⟨t2, rfl⟩ := rj
    exact ⟨_, .cons (.tuple ho hc hd (.cons (.int _ _) (.cons (.str _ _) .nil))) ih⟩
end
end Cf

set_option Elab.async false
set_option linter.all false
set_option maxRecDepth 100000
set_option maxHeartbeats 2000000
namespace Cf
open PySem PySem.Spec PyProof.Rows L2
open LamX (Tabs)
/-! ### d[k] as one target among several -/
section
variable {X : Cx} {o i : Expr} {pos : Pos} {td ty : TE}
/-! ### dict(list(d.items())): a copy -/
/-- a reading that may be weakened -/
def tWk (te : TE) : TE := fun σ H Q => ∃ P : VK, te σ H P ∧ ∀ x H1, P x H1 → Q x H1
theorem pe_wk {e : Expr} {te : TE} (he : PE X e te) : PE X e (tWk te) := by
  refine ⟨fun pins s σ H Q I h => ?_⟩
  obtain ⟨P, h, w⟩ := h
  exact thn (he.run pins s σ H P I h) fun u s1 ⟨x, H1, I1, r1, q1⟩ => ⟨x, H1, I1, r1, w x H1 q1⟩
end
end Cf

set_option Elab.async false
set_option linter.all false
set_option maxRecDepth 100000
set_option maxHeartbeats 2000000
/-! NL: sorted(set(xs)), xs a list of texts. -/
namespace Cf
open PySem PySem.Spec PyProof.Rows L2 PySem.Froz
/-- the payload of a set that can be walked, with the texts l in it -/
structure TxR (P : Program) (w : World) (D : SD) (l : List Str) : Prop where
  ok : TxOk P w D l
  ris : Ris D.2.2.place.toList
  led : w.params.followText "set-order" = true ∨ D.2.2.led = true
  vals : ∃ vs : List Value, vs.Perm (D.1.toList.map (·.2)) ∧ StrsAre vs l
section
variable {P : Program} {w : World}
variable {A : Around} {E : Value → Shared → Prop} {s : Shared}
end
section
variable {P : Program} {w : World} {A : Around} {E : Value → Shared → Prop} {s : Shared}
end
/-! ### as rules -/
section
variable {X : Cx}
end
end Cf

set_option Elab.async false
set_option linter.all false
set_option maxRecDepth 100000
set_option maxHeartbeats 2000000
/-! NM: xs == [], xs a list of anything. -/
namespace Cf
open PySem PySem.Spec PyProof.Rows L2
section
variable {X : Cx}
end
end Cf

set_option Elab.async false
set_option linter.all false
set_option maxRecDepth 100000
set_option maxHeartbeats 2000000
/-! NN: len(o), o with a __len__ of its own. -/
namespace Cf
open PySem PySem.Spec PyProof.Rows L2
section
variable {X : Cx}
end
end Cf

set_option Elab.async false
set_option linter.all false
set_option maxRecDepth 100000
set_option maxHeartbeats 2000000
namespace Cf
open PySem PySem.Spec PyProof.Rows L2
/-! ### a caught exception, with an own dict or without -/
structure KeptO (H : Hp) (a D : Addr) (d : Option Addr) (fs : List (Str × V)) : Prop where
  ob : H a = some (ExK (.ref D) d a)
  di : ∀ q, d = some q → H q = some (.xd fs)
theorem KeptO.kept {H : Hp} {a D q : Addr} {fs : List (Str × V)} (k : KeptO H a D (some q) fs) : Kept H a D q fs := ⟨k.ob, k.di q rfl⟩
theorem KeptO.kp {H H' : Hp} {a D : Addr} {d : Option Addr} {fs : List (Str × V)} (h : KeptO H a D d fs) (k : Kp [] H H') : KeptO H' a D d fs := ⟨k.at0 h.ob, fun q e => k.at0 (h.di q e)⟩
section
variable {X : Cx}
theorem KeptO.inst {pins : List (Addr × Obj)} {σ : L2.St} {H : Hp} {s : Shared} {a D : Addr} {d : Option Addr} {fs : List (Str × V)} (k : KeptO H a D d fs) (I : Inv X pins σ H s) :
    ∃ (oe : Obj) (od : Option Obj), PySem.W.InstAt s.heap a oe D od := by
  cases d with
  | some q =>
    obtain ⟨oe, od, m, J, _⟩ := k.kept.inst I
    exact ⟨oe, _, J⟩
  | none =>
    obtain ⟨⟨oe, vs, e1, ⟨e2, e3⟩, e4⟩, _, _⟩ := I.hok a _ k.ob
    refine ⟨oe, none, ?_⟩
    obtain ⟨oc, od, oda, osl⟩ := oe
    dsimp only at e2 e3 e4
    subst e2 e3 e4
    exact ⟨e1, rfl, rfl, trivial⟩
/-! ### a text in a list or tuple of texts -/
/-! ### a def without parameters -/
end
end Cf
set_option Elab.async false
set_option linter.all false
set_option maxRecDepth 100000
set_option maxHeartbeats 2000000
namespace Cf
open PySem PySem.Spec PyProof.Rows L2
/-! ### sorted of a tuple of texts -/
section
variable {prog : Program} {w : World} {A : Around} {E : Value → Shared → Prop} {s : Shared} {l : Addr}
end
section
variable {X : Cx}
end
/-! ### list(zip(a, b)) of two tuples of one length -/
/-- the pairs of xs and ys from place k on, at the addresses as -/
def PrsAt (h : Heap) (xs ys : Array Value) : Nat → List Addr → Prop
  | _, [] => True
  | k, a :: as => (∃ x y, xs[k]? = some x ∧ ys[k]? = some y ∧ IsPair h a x y) ∧ PrsAt h xs ys (k + 1) as
theorem PrsAt.go {h h' : Heap} {xs ys : Array Value} : ∀ {as : List Addr} {k : Nat}, PrsAt h xs ys k as → (∀ a ∈ as, ∀ o, h.get? a = some o → h'.get? a = some o) → PrsAt h' xs ys k as
  | [], _, _, _ => trivial
  | a :: as, k, ⟨⟨x, y, e1, e2, e3⟩, r⟩, w => ⟨⟨x, y, e1, e2, w a List.mem_cons_self _ e3⟩, PrsAt.go r fun b hb => w b (List.mem_cons_of_mem _ hb)⟩
section
variable {prog : Program} {w : World} {A : Around} {E : Value → Shared → Prop} {s : Shared}
/-- what stands while a zip of two tuples is drawn from: pair k is the next one -/
structure ZipRun (h : Heap) (z TI TO T i1 i2 l1 l2 : Addr) (f : Bool) (k : Nat) (xs ys : Array Value) : Prop where
  z : IsZipHeld h z TI TO T f
  T : ∃ o, h.get? T = some o
  TI : IsPair h TI (.ref i1) (.ref i2)
  i1 : h.IsTupleIter i1 l1 k
  i2 : h.IsTupleIter i2 l2 k
  l1 : h.IsTuple l1 xs
  l2 : h.IsTuple l2 ys
end
theorem PrsAt.get {h : Heap} {xs ys : Array Value} : ∀ {as : List Addr} {k j : Nat} {a : Addr}, PrsAt h xs ys k as → as[j]? = some a → ∃ x y, xs[k + j]? = some x ∧ ys[k + j]? = some y ∧ IsPair h a x y
  | [], _, _, _, _, e => by cases e
  | b :: as, k, 0, a, ⟨z, _⟩, e => by
    cases e
    exact z
  | b :: as, k, j + 1, a, ⟨_, r⟩, e => by
    have := PrsAt.get (k := k + 1) (j := j) r e
    rw [show k + 1 + j = k + (j + 1) by omega] at this
    exact this
section
variable {X : Cx}
end
end Cf

set_option Elab.async false
set_option linter.all false
set_option maxRecDepth 100000
set_option maxHeartbeats 2000000
/-! NQ: an own __eq__ against a value of any kind, != by it, dicts compared. -/
namespace Cf
open PySem PySem.Spec PyProof.Rows L2
section
variable {κ : Type} [DecidableEq κ]
end
section
variable {X : Cx}
end
section
variable {prog : Program} {w : World} {A : Around} {E : Value → Shared → Prop} {s : Shared} {K : PySem.W.Frag} {x C f : Addr} {ox : Obj} {od : Option Obj} {name : Str}
end
section
variable {X : Cx}
end
section
variable {X : Cx}
end
end Cf

set_option Elab.async false
set_option linter.all false
set_option maxRecDepth 100000
set_option maxHeartbeats 2000000
/-! NR: max and min of a list of pairs of ints. -/
namespace Cf
open PySem PySem.Spec PyProof.Rows PySem.W L2
def encII (p : Int × Int) : PyData := .tuple [.int p.1, .int p.2]
def leII (p q : Int × Int) : Prop := p.1 < q.1 ∨ (p.1 = q.1 ∧ p.2 ≤ q.2)
theorem leII.trans {p q r : Int × Int} (a : leII p q) (b : leII q r) : leII p r := by
  unfold leII at *
  omega
section
variable {X : Cx} {pins : List (Addr × Obj)} {σ : L2.St} {H : Hp} {s : Shared}
theorem Pr.reads (I : Inv X pins σ H s) : ∀ {xs : List V} {ps : List (Int × Int)} {us : List Value}, Pr H xs ps → Vals xs us → ∃ as, ReadsAll s.heap us (ps.map encII) as
  | _, _, _, .nil, .nil => ⟨[], .nil⟩
  | _, _, _, .cons (t := t) e h, .cons r rs => by
    obtain ⟨as, ih⟩ := h.reads I rs
    obtain rfl : _ = Value.ref t := r
    obtain ⟨_, its2, r2, o, ho, hc, n, hd⟩ := I.hok _ _ e
    obtain ⟨u1, u2, rfl, ri, rj⟩ := vals2 r2
    obtain ⟨t1, rfl⟩ := ri
    obtain ⟨t2, rfl⟩ := rj
    exact ⟨_, .cons (.tuple ho hc hd (.cons (.int _ _) (.cons (.int _ _) .nil))) ih⟩
end
section
variable {X : Cx}
end
end Cf

set_option Elab.async false
set_option linter.all false
set_option maxRecDepth 100000
set_option maxHeartbeats 2000000
/-! NS: for i, x in enumerate(xs, start=1). -/
namespace Cf
open PySem PySem.Spec PyProof.Rows L2
section
variable {M : Model} {A : Around} {E : Value → Shared → Prop} {s : Shared} {env : Env}
theorem callWith_type_kwB {pos : Pos} {T : String} {first : List Value} {args : List (Bool × Sem Value)} {keywords : List (Option Str × Sem Value)} {Q : Value → Shared → Prop}
    (h1 : args.any (·.1) = false) (h2 : keywords.any (·.1.isNone) = false)
    (h : wpAny M A (evalArgs (.type T) true args keywords) (fun a s₁ => wpAny M A (call (.type T) (first ++ a.pos) a.kw) Q E s₁) E s) :
    wpAny M A (callWith pos (.type T) first args keywords) Q E s := by
  unfold callWith
  refine wpAny_bind (wpAny_holding (wpAny_mono h (fun a s₁ q => wpAny_bind (wpAny_standAt ?_)) fun _ _ x => x))
  simp only [h1, h2, Bool.or_false]
  refine wpAny_bind (wpAny_pure ?_)
  exact wpAny_bind (wpAny_mono q (fun r s₂ z => wpAny_bind (wpAny_holding (wpAny_point (wpAny_pure z)))) fun _ _ x => x)
end
/-- the places from n on, each with its item -/
def Ites (K : PySem.W.Frag) (a : Addr) (n : Nat) : It where
  go := fun i H => ∃ xs x, SqL K H a xs ∧ xs[i]? = some x
  yld := fun i H v H' => ∃ T x, v = .ref T ∧ H T = none ∧ Kp [] H H' ∧ H' T = some (.tup [.int ((i + n : Nat) : Int), x]) ∧ ∀ xs, SqL K H a xs → xs[i]? = some x
  stop := fun i H => ∃ xs, SqL K H a xs ∧ xs.length ≤ i
theorem turn_es {P : Program} {w : World} {K : PySem.W.Frag} {elts : List Expr} {kk : Nat} {tpos : Pos} (a e it : Addr) (n : Nat) (ne : e ≠ it) (na : a ≠ e) :
    Turn P w K (.Tuple elts kk tpos) (Ites K a n) [e, it] e (fun i h => (∃ old, IsEnum h e it ((i + n : Nat) : Int) old) ∧ h.IsListIter it a i) where
  mem := List.mem_cons_self
  obj := by
    rintro i h ⟨⟨old, he⟩, ⟨o, ho, _, hd⟩⟩ c hc
    simp only [List.mem_cons, List.not_mem_nil, or_false] at hc
    rcases hc with rfl | rfl
    · exact ⟨_, he, fun v q => nomatch q⟩
    · exact ⟨o, ho, fun v q => by rw [hd] at q; cases q⟩
  keep := by
    rintro i h h' ⟨⟨old, he⟩, hi⟩ k
    exact ⟨⟨old, k e (by simp) _ he⟩, hi.at fun o q => k it (by simp) o q⟩
  item := by
    intro X hP hw hK hc i pins s σ H E I hf st hg
    subst hP hw hK
    obtain ⟨⟨old, he⟩, hit⟩ := st
    obtain ⟨xs, x, hq, hx⟩ := hg
    obtain ⟨its, rv, p, _⟩ := I.list hq
    obtain ⟨u, hu, ru⟩ := rv.get hx
    have lt : ∀ c ∈ [e, it], c < s.heap.objs.size := by
      intro c hc
      simp only [List.mem_cons, List.not_mem_nil, or_false] at hc
      rcases hc with rfl | rfl
      · exact Heap.lt_size he
      · obtain ⟨_, q, _⟩ := hit
        exact Heap.lt_size q
    refine next_enum he (PySem.wpAny_nextOf_list_item hit p.isList (x := u) (by simpa using hu) ?_)
    intro g1 hit1 same1
    refine ⟨(same1.2 e ne).trans he, ?_⟩
    intro g2 E2 T2 size2 kept2
    refine ⟨_, rfl, wpAny_letOwnedTupleGo_enum (s := { s with heap := g2, toks := s.toks + 1 }) E2 ?_⟩
    intro g3 E3 same3
    replace same3 : Heap.SameBut e g2 g3 := same3
    have size1 : g1.objs.size = s.heap.objs.size := same1.1
    have ltE : e < g1.objs.size := by
      rw [size1]
      exact lt e (List.mem_cons_self)
    have T3 : g3.get? s.heap.objs.size = some { cls := .type "tuple", data := .seq #[.int ((i + n : Nat) : Int) s.toks, u] } := by
      rw [← size1]
      exact (same3.2 _ (Nat.ne_of_gt ltE)).trans T2
    have hn : H s.heap.objs.size = none := I.hok.fresh (Nat.le_refl _)
    have I2 : L2.Inv X pins σ (upd H s.heap.objs.size (.tup [.int ((i + n : Nat) : Int), x])) { s with heap := g3, toks := s.toks + 1 } := by
      refine I.turnedNew (ch := [e, it]) ?_ hf (Nat.le_refl _) ?_
      · intro c o hc q
        have hce : c ≠ e := fun z => hc (by simp [z])
        have hci : c ≠ it := fun z => hc (by simp [z])
        exact (same3.2 c hce).trans (kept2 c o hce ((same1.2 c hci).trans q))
      · exact ⟨by show 2 ≤ sizeLine; decide, [.int ((i + n : Nat) : Int) s.toks, u], .cons ⟨_, rfl⟩ (.cons ru .nil), ⟨_, T3, rfl, _, rfl⟩⟩
    have eT : Value.ref g1.objs.size = Value.ref s.heap.objs.size := by rw [size1]
    refine ⟨.ref s.heap.objs.size, _, I2, eT, ⟨_, x, rfl, hn, Kp.new hn, upd_same, ?_⟩, ⟨⟨u, ?_⟩, ?_⟩, ?_⟩
    · intro l hl
      rw [I.list_inj hl hq]
      exact hx
    · rw [show ((i + 1 + n : Nat) : Int) = ((i + n : Nat) : Int) + 1 by omega]
      exact E3
    · exact hit1.at fun o q => (same3.2 it ne.symm).trans (kept2 it o ne.symm q)
    · intro c hc
      rw [upd_ne (Nat.ne_of_lt (lt c hc))]
      exact (hf c hc).1
  done := by
    intro X hP hw hK hc i pins s σ H E I hf st hg
    subst hP hw hK
    obtain ⟨⟨old, he⟩, hit⟩ := st
    obtain ⟨xs, hq, hl⟩ := hg
    obtain ⟨its, rv, p, _⟩ := I.list hq
    have n1 := rv.length
    refine next_enum_end he (PySem.wpAny_nextOf_list_end (I.ok.hd hc) hit p.isList (by simp; omega) ?_)
    rintro g1 ex kept ⟨o, ho, hcl⟩
    refine ⟨ex, o, rfl, ho, hcl, rfl, ?_⟩
    refine I.turnedL (t' := s.toks) (ch := [e, it]) ?_ hf
    intro c ob hb q
    exact kept c ob (fun z => hb (by simp [z])) q
  self := by
    rintro A i s Q E ⟨⟨old, he⟩, _⟩ h
    exact wpAny_pyIter_enum he h
def iEs (K : PySem.W.Frag) (te tk : TA) : TI := fun σ H R => te σ H fun vs H1 => tk σ H1 fun zs H2 => ∃ a xs n, vs = [.ref a] ∧ zs = [.int ((n : Nat) : Int)] ∧ n < 1000 ∧ SqL K H2 a xs ∧ R (Ites K a n) H2
theorem pi_es {X : Cx} {e : Expr} {kws : List Keyword} {te tk : TA} {p pos tpos : Pos} {elts : List Expr} {kk : Nat} (hg : Gl X "enumerate") (hm : X.mg "enumerate" = none)
    (ha : PA X [e] te) (hk : PK X kws tk) (he : backTo pos (starEach [e] X.env) = (false, eval e X.env) :: backTo pos (starEach [] X.env) := by rfl) (hpl : (backTo pos (starEach [e] X.env)).any (·.1) = false := by rfl)
    (hall : (backToKw pos (keywordEach kws X.env)).all (·.1.isSome) = true := by rfl) (hnone : (backToKw pos (keywordEach kws X.env)).any (·.1.isNone) = false := by rfl)
    (hks : (backToKw pos (keywordEach kws X.env)).filterMap (·.1) = [Str.ofString "start"] := by rfl) :
    PI X (.Tuple elts kk tpos) (.Call (.Name "enumerate" p) [e] kws pos) (iEs X.K te tk) := by
  refine ⟨fun pins s σ H R I h => ?_⟩
  refine wpAny_Call_Name_kw (ld_blt I hg hm PyProof.Rows.boot_enumerate ?_)
  refine callWith_type_kwB hpl hnone ?_
  rw [he]
  refine evalArgs_kwB hall ?_
  rw [← he]
  refine thn (ha.run pos pins s σ H _ I h) fun us s1 ⟨vs, H1, I1, r1, q1⟩ => thn (hk.run pos pins s1 σ H1 _ I1 q1) fun ws s2 ⟨zs, H2, I2, r2, q2⟩ => ?_
  obtain ⟨a, xs, n, rfl, rfl, hn, hq, q⟩ := q2
  rw [hks]
  cases r1 with
  | cons ra rb =>
    cases rb
    cases ra
    cases r2 with
    | cons rc rd =>
      cases rd
      obtain ⟨t, rfl⟩ := rc
      obtain ⟨its, rv, p1, _⟩ := I2.list hq
      refine enum_begins_start (begins_list a its.toArray) p1.isList (by omega) (by omega) ?_
      intro g1 he1 hit sz kept
      refine wpAny_pyIter_enum he1 ?_
      have I3 : L2.Inv X pins σ H2 { s2 with heap := g1 } := I2.kept (t' := s2.toks) kept
      have la : a < s2.heap.objs.size := by
        obtain ⟨o, ho, _⟩ := p1.isList
        exact Heap.lt_size ho
      refine ⟨s2.heap.objs.size + 1, [s2.heap.objs.size + 1, s2.heap.objs.size], _, Ites X.K a n, H2, rfl, I3,
        turn_es a (s2.heap.objs.size + 1) s2.heap.objs.size n (Nat.succ_ne_self _) (Nat.ne_of_lt (Nat.lt_succ_of_lt la)), ⟨⟨.none, ?_⟩, ?_⟩, ?_, q⟩
      · rw [Nat.zero_add]; exact he1
      · exact ⟨_, hit, rfl, rfl⟩
      intro c hc
      have hle : s2.heap.objs.size ≤ c := by
        simp only [List.mem_cons, List.not_mem_nil, or_false] at hc
        rcases hc with rfl | rfl
        · exact Nat.le_add_right _ _
        · exact Nat.le_refl _
      exact I2.fpOk hle (I2.hok.fresh hle)
def YES (n : Nat) (xs : List V) : Nat → Hp → V → Hp → Prop := fun i H x H' => ∃ T v, x = .ref T ∧ H T = none ∧ Kp [] H H' ∧ H' T = some (.tup [.int ((i + n : Nat) : Int), v]) ∧ xs[i]? = some v
theorem walk_es {K : PySem.W.Frag} {a : Addr} {n : Nat} {xs : List V} : Walk (Ites K a n) xs.length (fun H => SqL K H a xs) (YES n xs) := by
  refine ⟨fun i H hi q => ⟨_, _, q, List.getElem?_eq_getElem hi⟩, fun H q => ⟨_, q, Nat.le_refl _⟩, ?_⟩
  rintro i H x H' hi q ⟨T, x1, e, n, kp, hT, e1⟩
  exact ⟨T, x1, e, n, kp, hT, e1 _ q⟩
end Cf

set_option Elab.async false
set_option linter.all false
set_option maxRecDepth 100000
set_option maxHeartbeats 2000000
/-! NT: an except suite that raises anew from None: X(v) made where nothing is handled, its context kept in sight; X(v) made in the suite. -/
namespace Cf
open PySem PySem.Spec PyProof.Rows L2
section
variable {P : Program} {w : World} {K : PySem.W.Frag} {mg : Str → Option Value} {base : Heap}
/-- a def that may let exceptions of the program out, none of them with a context -/
theorem okN {k : Nat} {x qual : Str} {st : Stmt} {f : Addr} {fd : FuncData}
    {N ps : List Str} {sp : Sp} (F : Fun K x qual st f fd) (S : FnScope N ps (defScope st))
    (len : ∀ vs H Q E, sp vs H Q E → vs.length = ps.length)
    (body : ∀ (cdv : Value) (A : Around) (outer : List Env) (s : Shared) (H : Hp) (vs : List V) (Q : VK) (E : XK),
      (A.deeper (envOfC qual (defScope st) s.heap.objs.size f cdv)).guards = some [] → Room k (A.deeper (envOfC qual (defScope st) s.heap.objs.size f cdv)) → sp vs H Q E →
      ∃ t, PSs (cxOf (L2N.CX P w) P w K mg base N qual (defScope st) f cdv A outer s H E) (defBody st) t ∧
        t { nx := fun _ H' => Q .non H', rt := Q } (start N vs) H) :
    FnG P w K mg base (L2N.CX P w) (k + 1) f fd ps sp :=
  fnG_of F S len fun cd A o s H vs Q E g hr q => body cd A o s H vs Q E g hr q
/-- a def that is called while an exception is handled -/
theorem fnH_of {CX : CXT} {k : Nat} {x qual : Str} {st : Stmt} {f : Addr} {fd : FuncData}
    {N ps : List Str} {sp : Sp} (F : Fun K x qual st f fd) (S : FnScope N ps (defScope st))
    (len : ∀ vs H Q E, sp vs H Q E → vs.length = ps.length)
    (body : ∀ (cdv : Value) (A : Around) (outer : List Env) (s : Shared) (H : Hp) (vs : List V) (Q : VK) (E : XK) (p : Addr × Obj),
      L2H.Hot1 A p → L2H.RoomH k (A.deeper (envOfC qual (defScope st) s.heap.objs.size f cdv)) → sp vs H Q E →
      ∃ t, PSs (L2H.cxH CX P w K mg base N qual (defScope st) f cdv A outer s H E p) (defBody st) t ∧
        t { nx := fun _ H' => Q .non H', rt := Q } (start N vs) H) :
    L2H.FnH P w K mg base CX (k + 1) f fd ps sp := by
  obtain ⟨oc, od, kV, doc, pm, an, cd, ct, sl, rfl, look, code⟩ := F.ex
  exact L2H.fn_ofH look code S len fun A o s H vs Q E p h1 h2 h3 => body cd A o s H vs Q E p h1 h2 h3
/-- a class and its __init__, where an exception is handled -/
def ToldH (P : Program) (w : World) (K : PySem.W.Frag) (mg : Str → Option Value) (base : Heap) (x : Str) (C : Addr) : Prop :=
  ∃ (fI : Addr) (fd : FuncData), ValC K mg x C fI fd ∧ L2H.FnH P w K mg base CX0 1 fI fd ["self", "value"] (sp_init C)
end
section
variable {X : Cx}
theorem upd3 {H1 : Hp} {a d : Addr} {o1 o2 o3 : HO} (ha : H1 a = none) (hda : d ≠ a) (z : HO) : upd (del (upd (upd (upd H1 a o1) d o2) a o3) a) d z = upd H1 d z := by
  funext b
  by_cases hb : b = d
  · rw [hb, upd_same, upd_same]
  · rw [upd_ne hb, upd_ne hb]
    by_cases h2 : b = a
    · rw [h2, del_same, ha]
    · rw [del_ne h2, upd_ne h2, upd_ne hb, upd_ne h2]
/-- X(v) in an except suite -/
theorem pmk5_value {C fI : Addr} {fd : FuncData} {k : Nat} {x : Str} {p pos : Pos} {e : Expr} {te : TE} (T : ValC X.K X.mg x C fI fd) (F1 : L2H.FnH X.prog X.w X.K X.mg X.base CX0 k fI fd ["self", "value"] (sp_init C)) (hr : L2H.RoomH (k + 1) X.A) (hot : L2H.HotC X) (hg : Gl X x) (he : PE X e te)
    (hdb : (x == ("__debug__" : Str)) = false := by decide) (hs : starEach [e] X.env = (false, eval e X.env) :: starEach [] X.env := by rfl) (hpl : (backTo pos (starEach [] X.env)).any (·.1) = false := by rfl) :
    L2H.PMk5 X (.Call (.Name x p) [e] [] pos) (fun σ H Q => te σ H fun v H1 => ∀ d, H1 d = none → Q (.ref C) (some d) (upd H1 d (.xd [("value", v)]))) := by
  intro pins s σ H Q I h
  refine L2H.pmk5_oexH T.o T.i T.t F1 hr hot T.b (fun _ _ _ _ _ _ _ z => z.elim) hg T.g (pa_cons (pe_mono he) pa_nil hs) hdb hs hpl pins s σ H Q I ?_
  refine ⟨_, h, fun v H1 q => ?_⟩
  refine ⟨by show 1 ≤ 1000; decide, fun a ha => ⟨a, v, rfl, upd_same, fun d hd nd => ⟨rfl, d, [("value", v)], upd_same, ?_, ?_, ?_⟩⟩⟩
  · rw [upd_ne nd, upd_same]
  · exact (upd_ne nd).symm.trans hd
  · rw [upd3 ha nd]
    exact q d ((upd_ne nd).symm.trans hd)
/-- try: for .. in ..: .., except X: a suite that raises -/
theorem ps_try_for {x : Str} {c : Value} {tg iter : Expr} {body suite : List Stmt} {b₀ : Stmt} {fpos np pos pos' : Pos} {wi : TI} {g : TG} {tb : WX → TS} {ts : Addr → Value → Option Addr → TS} {Wout : WX}
    (hs : X.stack = X.env :: X.outer) (hf : X.env.frame = some X.env.locals) (hc : Names X x c) (hpa : ∀ hd : Option Value, PassesOwnAt (model X.prog X.w) (X.A.mark hd) X.A X.env X.xe) (tk : L2.Takes X Wout) (calm : X.calm = true)
    (hi : ∀ (pn : List (Addr × Obj)) (xe : Value → Shared → Prop), PI (X.tr pn xe) tg iter wi) (hg : ∀ (pn : List (Addr × Obj)) (xe : Value → Shared → Prop), PG (X.tr pn xe) tg g)
    (hb : ∀ (W : WX) (pn : List (Addr × Obj)) (xe : Value → Shared → Prop), L2N.Takes (X.tr pn xe) W → PSs (X.tr pn xe) body (tb W))
    (hsu : ∀ (a : Addr) (oe : Obj) (cls : Value) (d : Option Addr) (pn : List (Addr × Obj)), L2N.Zn cls d oe → (∃ vs, oe.data = .fields vs) → L2.Takes (L2H.suiteX X a ((a, oe) :: pn)) Wout → L2H.HotC (L2H.suiteX X a ((a, oe) :: pn)) →
      PSs (L2H.suiteX X a ((a, oe) :: pn)) (b₀ :: suite) (ts a cls d))
    (hfold : ∀ x, foldedSetIterable iter X.env x = pure x := by intro _; rfl) :
    PS X (.Try [.For tg iter body [] fpos] [.ExceptHandler (some (.Name x np)) none (b₀ :: suite) pos'] [] [] pos) (fun D σ H => tForW wi g (tb (L2.wOnly X.K c ts Wout D)) D σ H) :=
  L2H.ps_try_onlyX (tb := fun W => tForW wi g (tb W)) hs hf hc hpa tk
    (fun W pn xe tk1 tk2 po => pss_one (ps_forW po calm (hi pn xe) (hg pn xe) (hb W pn xe tk1) hfold)) hsu
/-- X(v) where nothing is handled: it has no context -/
theorem pmkN_value {C fI : Addr} {fd : FuncData} {k : Nat} {x : Str} {p pos : Pos} {e : Expr} {te : TE} (T : ValC X.K X.mg x C fI fd) (F1 : FnOk X.prog X.w X.K X.mg X.base CX0 k fI fd ["self", "value"] (sp_init C)) (room : Room (k + 1) X.A) (hg : Gl X x) (he : PE X e te)
    (hdb : (x == ("__debug__" : Str)) = false := by decide) (hs : starEach [e] X.env = (false, eval e X.env) :: starEach [] X.env := by rfl) (hpl : (backTo pos (starEach [] X.env)).any (·.1) = false := by rfl) :
    L2N.PMk X (.Call (.Name x p) [e] [] pos) (fun σ H Q => te σ H fun v H1 => ∀ d, H1 d = none → Q (.ref C) (some d) (upd H1 d (.xd [("value", v)]))) := by
  intro pins s σ H Q I h
  obtain ⟨cn, cq, cN, cb, cm, csn, csub, cab, ccol, cdd, y0, y1, y2, y3, y5, at_C, of_cm⟩ := T.o.cls
  refine wpAny_Call_Name_kw (ld_glob I hg T.g ?_ hdb)
  refine PySem.W.callWith_K (h₀ := X.base) I.ok.mod.kin T.o.kC (thn ((pa_cons (pe_mono he) pa_nil hs).run pos pins s σ H (fun vs H1 => ∃ v, vs = [v] ∧ ∀ d, H1 d = none → Q (.ref C) (some d) (upd H1 d (.xd [("value", v)]))) I ⟨_, h, fun v H1 q => ⟨v, rfl, q⟩⟩) ?_) hs hpl
  rintro us s1 ⟨_, H1, I1, rel, v, rfl, wish⟩
  refine ⟨I1.kIn, ?_⟩
  show wpAny _ _ (call (.ref C) us) _ _ _
  obtain ⟨hp, gn, dr, tk, os⟩ := s1
  generalize hn : hp.objs.size = n at *
  have le1 : hp.objs.size ≤ n + 1 := by omega
  have free1 : H1 (n + 1) = none := I1.hok.fresh le1
  generalize hh2 : (hp.push (PySem.W.kdv_tup us)).push (PySem.HandSPX.excO C n) = hp2
  have stay2 : ∀ b o, hp.get? b = some o → hp2.get? b = some o := by
    intro b o z
    rw [← hh2]
    exact Heap.get?_push_of_some _ (Heap.get?_push_of_some _ z)
  have at2 : hp2.get? (n + 1) = some (PySem.HandSPX.excO C n) := by
    rw [← hh2, ← hn]
    heap_get
  have J : Inv X pins σ (upd H1 (n + 1) (exo (n + 1) C none)) ⟨hp2, gn, dr, tk, os⟩ :=
    I1.laid (t' := tk) stay2 le1 (exo_ok at2)
  have rel2 : Vals [V.ref (n + 1), v] (Value.ref (n + 1) :: us) := .cons rfl rel
  have two : (Value.ref (n + 1) :: us ++ []).length = 2 := by
    rw [List.append_nil]
    exact rel2.length.symm
  have few : us.length ≤ sizeLine := by
    rw [← Paired.length rel, sizeLine_eq]
    exact Nat.le_of_ble_eq_true rfl
  have init : sp_init C [V.ref (n + 1), v] (upd H1 (n + 1) (exo (n + 1) C none)) (fun u H2 => u = .non ∧ ∃ (d : Addr) (fs : List (Str × V)), H2 (n + 1) = some (exo (n + 1) C (some d)) ∧ H2 d = some (exd d fs) ∧ H1 d = none ∧ Q (.ref C) (some d) (upd (del H2 (n + 1)) d (.xd fs))) (fun _ _ _ => False) := by
    refine ⟨n + 1, v, rfl, upd_same, fun d hd nd => ⟨rfl, d, [("value", v)], upd_same, ?_, ?_, ?_⟩⟩
    · rw [upd_ne nd, upd_same]
    · exact (upd_ne nd).symm.trans hd
    · rw [upd3 free1 nd]
      exact wish d ((upd_ne nd).symm.trans hd)
  have bind := T.b _ (Value.ref (n + 1) :: us) J.kIn two
  rw [List.append_nil] at bind
  have body := F1.run (X.A.under (.builtin "type.__call__" ⟨.ref C :: us, []⟩)) X.stack ⟨hp2, gn, dr, tk, os⟩ _ ⟨Value.ref (n + 1) :: us, []⟩ (Value.ref (n + 1) :: us) _ _ (fun _ _ _ => False) (room.make C us []) (J.env0.make C us []) bind rel2 init
  rw [← hh2, ← hn] at body
  refine wpAny_call (PySem.HandSPX.call_own F.excBase_ValueError (fun Y => PySem.HandSPX.refsVE_contains Y cm of_cm) (I1.kIn _ _ at_C) (PySem.W.looks_findIn I1.kIn T.i) (fun me => PySem.W.bind_fn I1.kIn me T.t) few (codeAny_mono body ?_))
  rw [hn, hh2]
  intro res s2 out
  match res, out with
  | .error er, out => exact False.elim out
  | .ok .next, out => exact False.elim out
  | .ok .brk, out => exact False.elim out
  | .ok .cont, out => exact False.elim out
  | .ok (.ret u), out =>
    obtain ⟨v2, H2, os2, bare2, un2, hok2, rv, rfl, d, fs, ea, ed, hd1, q2⟩ := out
    obtain ⟨h2, g2, d2, t2, os3⟩ := s2
    obtain ⟨t0, G, J2, kG, ge, hoe, na⟩ := mk_end0 (d2 := d2) (t2 := t2) I1 le1 stay2 un2 hok2 os2 bare2 ea ed hd1
    refine ⟨rv, ⟨n + 1, _, _, ⟨G, g2, d2, t2, os3⟩, _, .ref C, some d, rfl, J2, kG, ge, hoe, ⟨rfl, rfl, fun vs hv => ?_⟩, rfl, rfl, na, rfl, bare2, raises_own T.o.exC T.o.tyC, q2⟩⟩
    cases hv
    rfl
end
end Cf

set_option Elab.async false
set_option linter.all false
set_option maxRecDepth 100000
set_option maxHeartbeats 4000000
namespace Cf
open PySem PySem.Spec PyProof.Rows L2
open LamX (TabB Tabs TabS)
def topS (i : Nat) : Stmt := PySem.Challenge.pw_creditfloor_k61_texts_of_any_kind.main.body.getD i (.Pass ⟨0, 0, 0, 0⟩)
abbrev s_is_integer : Stmt := topS 7
theorem sc_is_integer : FnScope ["thing"] ["thing"] (defScope s_is_integer) :=
  ⟨rfl, rfl, rfl, by decide +kernel, rfl, by decide +kernel, by decide +kernel⟩
abbrev s_is_between : Stmt := topS 8
theorem sc_is_between : FnScope ["thing", "least", "most"] ["thing", "least", "most"] (defScope s_is_between) :=
  ⟨rfl, rfl, rfl, by decide +kernel, rfl, by decide +kernel, by decide +kernel⟩
abbrev s_is_amount : Stmt := topS 9
theorem sc_is_amount : FnScope ["thing"] ["thing"] (defScope s_is_amount) :=
  ⟨rfl, rfl, rfl, by decide +kernel, rfl, by decide +kernel, by decide +kernel⟩
abbrev s_is_budget : Stmt := topS 10
theorem sc_is_budget : FnScope ["thing"] ["thing"] (defScope s_is_budget) :=
  ⟨rfl, rfl, rfl, by decide +kernel, rfl, by decide +kernel, by decide +kernel⟩
abbrev s_is_name : Stmt := topS 11
theorem sc_is_name : FnScope ["thing", "letter"] ["thing"] (defScope s_is_name) :=
  ⟨rfl, rfl, rfl, by decide +kernel, rfl, by decide +kernel, by decide +kernel⟩
abbrev s_thresholds : Stmt := topS 25
theorem sc_thresholds : FnScope ["count", "budget", "found", "reached", "size", "share"] ["count", "budget"] (defScope s_thresholds) :=
  ⟨rfl, rfl, rfl, by decide +kernel, rfl, by decide +kernel, by decide +kernel⟩
abbrev s_sums : Stmt := topS 27
theorem sc_sums : FnScope ["balances", "found", "total", "balance"] ["balances"] (defScope s_sums) :=
  ⟨rfl, rfl, rfl, by decide +kernel, rfl, by decide +kernel, by decide +kernel⟩
abbrev s_gap : Stmt := topS 28
theorem sc_gap : FnScope ["balances", "budget", "needs", "at", "held"] ["balances", "budget"] (defScope s_gap) :=
  ⟨rfl, rfl, rfl, by decide +kernel, rfl, by decide +kernel, by decide +kernel⟩
abbrev s_poorest_first : Stmt := topS 30
theorem sc_poorest_first : FnScope ["balances", "senders", "at"] ["balances", "senders"] (defScope s_poorest_first) :=
  ⟨rfl, rfl, rfl, by decide +kernel, rfl, by decide +kernel, by decide +kernel⟩
abbrev s_weak_set : Stmt := topS 29
theorem sc_weak_set : FnScope ["balances", "budget", "found", "order"] ["balances", "budget"] (defScope s_weak_set) :=
  ⟨rfl, rfl, rfl, by decide +kernel, rfl, by decide +kernel, by decide +kernel⟩
abbrev s_require_amount : Stmt := topS 33
theorem sc_require_amount : FnScope ["amount"] ["amount"] (defScope s_require_amount) :=
  ⟨rfl, rfl, rfl, by decide +kernel, rfl, by decide +kernel, by decide +kernel⟩
abbrev s_require_budget : Stmt := topS 34
theorem sc_require_budget : FnScope ["budget"] ["budget"] (defScope s_require_budget) :=
  ⟨rfl, rfl, rfl, by decide +kernel, rfl, by decide +kernel, by decide +kernel⟩
abbrev s_weak_names : Stmt := topS 35
theorem sc_weak_names : FnScope ["budget", "balances", "names", "senders", "name", "at"] ["budget", "balances"] (defScope s_weak_names) :=
  ⟨rfl, rfl, rfl, by decide +kernel, rfl, by decide +kernel, by decide +kernel⟩
abbrev s_Link_require_known : Stmt := inClass (topS 32) 18
theorem sc_Link_require_known : FnScope ["self", "name"] ["self", "name"] (defScope s_Link_require_known) :=
  ⟨rfl, rfl, rfl, by decide +kernel, rfl, by decide +kernel, by decide +kernel⟩
abbrev s_Link_keep : Stmt := inClass (topS 32) 20
theorem sc_Link_keep : FnScope ["self", "budget", "balances"] ["self", "budget", "balances"] (defScope s_Link_keep) :=
  ⟨rfl, rfl, rfl, by decide +kernel, rfl, by decide +kernel, by decide +kernel⟩
abbrev s_Link_change : Stmt := inClass (topS 32) 19
theorem sc_Link_change : FnScope ["self", "budget", "balances", "names"] ["self", "budget", "balances"] (defScope s_Link_change) :=
  ⟨rfl, rfl, rfl, by decide +kernel, rfl, by decide +kernel, by decide +kernel⟩
abbrev s_Link___init__ : Stmt := inClass (topS 32) 0
theorem sc_Link___init__ : FnScope ["self", "budget"] ["self", "budget"] (defScope s_Link___init__) :=
  ⟨rfl, rfl, rfl, by decide +kernel, rfl, by decide +kernel, by decide +kernel⟩
abbrev s_Link_enter : Stmt := inClass (topS 32) 3
theorem sc_Link_enter : FnScope ["self", "name", "balance"] ["self", "name", "balance"] (defScope s_Link_enter) :=
  ⟨rfl, rfl, rfl, by decide +kernel, rfl, by decide +kernel, by decide +kernel⟩
abbrev s_Link_names : Stmt := inClass (topS 32) 5
theorem sc_Link_names : FnScope ["self"] ["self"] (defScope s_Link_names) :=
  ⟨rfl, rfl, rfl, by decide +kernel, rfl, by decide +kernel, by decide +kernel⟩
abbrev s_Link_balance_of : Stmt := inClass (topS 32) 6
theorem sc_Link_balance_of : FnScope ["self", "name"] ["self", "name"] (defScope s_Link_balance_of) :=
  ⟨rfl, rfl, rfl, by decide +kernel, rfl, by decide +kernel, by decide +kernel⟩
abbrev s_Link_current_budget : Stmt := inClass (topS 32) 8
theorem sc_Link_current_budget : FnScope ["self"] ["self"] (defScope s_Link_current_budget) :=
  ⟨rfl, rfl, rfl, by decide +kernel, rfl, by decide +kernel, by decide +kernel⟩
abbrev s_Link_changes : Stmt := inClass (topS 32) 16
theorem sc_Link_changes : FnScope ["self"] ["self"] (defScope s_Link_changes) :=
  ⟨rfl, rfl, rfl, by decide +kernel, rfl, by decide +kernel, by decide +kernel⟩
abbrev s_Link_clone : Stmt := inClass (topS 32) 17
theorem sc_Link_clone : FnScope ["self", "twin"] ["self"] (defScope s_Link_clone) :=
  ⟨rfl, rfl, rfl, by decide +kernel, rfl, by decide +kernel, by decide +kernel⟩
abbrev s_read_number : Stmt := topS 49
theorem sc_read_number : FnScope ["word", "least", "most", "number", "digit"] ["word", "least", "most"] (defScope s_read_number) :=
  ⟨rfl, rfl, rfl, by decide +kernel, rfl, by decide +kernel, by decide +kernel⟩
abbrev s_read_amount : Stmt := topS 47
theorem sc_read_amount : FnScope ["word"] ["word"] (defScope s_read_amount) :=
  ⟨rfl, rfl, rfl, by decide +kernel, rfl, by decide +kernel, by decide +kernel⟩
abbrev s_read_budget : Stmt := topS 48
theorem sc_read_budget : FnScope ["word"] ["word"] (defScope s_read_budget) :=
  ⟨rfl, rfl, rfl, by decide +kernel, rfl, by decide +kernel, by decide +kernel⟩
abbrev s_read_numbers : Stmt := topS 46
theorem sc_read_numbers : FnScope ["words", "found", "word"] ["words"] (defScope s_read_numbers) :=
  ⟨rfl, rfl, rfl, by decide +kernel, rfl, by decide +kernel, by decide +kernel⟩
abbrev s_show_balances : Stmt := topS 39
theorem sc_show_balances : FnScope ["balances", "balance"] ["balances"] (defScope s_show_balances) :=
  ⟨rfl, rfl, rfl, by decide +kernel, rfl, by decide +kernel, by decide +kernel⟩
abbrev s_read_balances : Stmt := topS 41
theorem sc_read_balances : FnScope ["text", "found"] ["text"] (defScope s_read_balances) :=
  ⟨rfl, rfl, rfl, by decide +kernel, rfl, by decide +kernel, by decide +kernel⟩
abbrev s_show_link : Stmt := topS 40
theorem sc_show_link : FnScope ["link", "rows", "name"] ["link"] (defScope s_show_link) :=
  ⟨rfl, rfl, rfl, by decide +kernel, rfl, by decide +kernel, by decide +kernel⟩
abbrev s_read_budget_row : Stmt := topS 44
theorem sc_read_budget_row : FnScope ["row", "words"] ["row"] (defScope s_read_budget_row) :=
  ⟨rfl, rfl, rfl, by decide +kernel, rfl, by decide +kernel, by decide +kernel⟩
abbrev s_read_sender_row : Stmt := topS 45
theorem sc_read_sender_row : FnScope ["row", "words", "balance"] ["row"] (defScope s_read_sender_row) :=
  ⟨rfl, rfl, rfl, by decide +kernel, rfl, by decide +kernel, by decide +kernel⟩
abbrev s_read_senders : Stmt := topS 43
theorem sc_read_senders : FnScope ["rows", "found", "before", "at", "row", "pair"] ["rows"] (defScope s_read_senders) :=
  ⟨rfl, rfl, rfl, by decide +kernel, rfl, by decide +kernel, by decide +kernel⟩
abbrev s_read_link : Stmt := topS 42
theorem sc_read_link : FnScope ["text", "rows", "budget", "senders", "link", "name", "balance"] ["text"] (defScope s_read_link) :=
  ⟨rfl, rfl, rfl, by decide +kernel, rfl, by decide +kernel, by decide +kernel⟩
abbrev s__law_take : Stmt := topS 52
theorem sc__law_take : FnScope ["_law_hand_here", "_law_many", "_law_digit", "_law_prime", "_law_drawn"] ["_law_hand_here", "_law_many"] (defScope s__law_take) :=
  ⟨rfl, rfl, rfl, by decide +kernel, rfl, by decide +kernel, by decide +kernel⟩
abbrev s__law_of : Stmt := topS 53
theorem sc__law_of : FnScope ["_law_hand_here", "_law_some"] ["_law_hand_here", "_law_some"] (defScope s__law_of) :=
  ⟨rfl, rfl, rfl, by decide +kernel, rfl, by decide +kernel, by decide +kernel⟩
abbrev s__law_hand : Stmt := topS 51
theorem sc__law_hand : FnScope ["_law_script", "_law_k", "_law_cell", "_law_great"] ["_law_script", "_law_k"] (defScope s__law_hand) :=
  ⟨rfl, rfl, rfl, by decide +kernel, rfl, by decide +kernel, by decide +kernel⟩
abbrev s__law_nested : Stmt := topS 54
theorem sc__law_nested : FnScope ["_law_hand_here", "_law_some", "_law_found", "_law_turn"] ["_law_hand_here"] (defScope s__law_nested) :=
  ⟨rfl, rfl, rfl, by decide +kernel, rfl, by decide +kernel, by decide +kernel⟩
abbrev s__law_short : Stmt := topS 55
theorem sc__law_short : FnScope ["_law_hand_here", "_law_signs", "_law_turn"] ["_law_hand_here"] (defScope s__law_short) :=
  ⟨rfl, rfl, rfl, by decide +kernel, rfl, by decide +kernel, by decide +kernel⟩
abbrev s__law_read : Stmt := topS 56
theorem sc__law_read : FnScope ["_law_call", "_law_caught", "error"] ["_law_call"] (defScope s__law_read) :=
  ⟨rfl, rfl, rfl, by decide +kernel, rfl, by decide +kernel, by decide +kernel⟩
abbrev s__law_are_numbers : Stmt := topS 57
theorem sc__law_are_numbers : FnScope ["_law_text", "_law_word", "_law_sign"] ["_law_text"] (defScope s__law_are_numbers) :=
  ⟨rfl, rfl, rfl, by decide +kernel, rfl, by decide +kernel, by decide +kernel⟩
abbrev s__law_text_right : Stmt := topS 58
theorem sc__law_text_right : FnScope ["_law_text", "_law_found", "_law_link"] ["_law_text"] (defScope s__law_text_right) :=
  ⟨rfl, rfl, rfl, by decide +kernel, rfl, by decide +kernel, by decide +kernel⟩
abbrev s_law : Stmt := topS 59
theorem sc_law : FnScope ["_law_script", "_law_k", "_law_hand_here", "_law_turn", "_law_told", "_law_thing"] ["_law_script"] (defScope s_law) :=
  ⟨rfl, rfl, rfl, by decide +kernel, rfl, by decide +kernel, by decide +kernel⟩
section
variable {P : Program} {w : World} {K : PySem.W.Frag} {mg : Str → Option Value} {base : Heap}
abbrev i_BadName : Stmt := inClass (topS 15) 0
theorem sci_BadName : FnScope ["self", "value"] ["self", "value"] (defScope i_BadName) := ⟨rfl, rfl, rfl, by decide +kernel, rfl, by decide +kernel, by decide +kernel⟩
theorem init_BadName {f C : Addr} {fd : FuncData} (F : Fun K "__init__" "BadName.__init__" i_BadName f fd) (T : OexC K C) (no : PySem.W.findIn K (.ref C) "value" = some none) : FnOk P w K mg base CX0 1 f fd ["self", "value"] (sp_init C) := by
  refine F.ok sci_BadName (fun vs H Q E h => ?_) (fun cdv A outer s H vs Q E hr h => ⟨_, pss_one (ps_ost (pv 0) (pv 1)), ?_⟩)
  · obtain ⟨a, v, rfl, _⟩ := h
    rfl
  · obtain ⟨a, v, rfl, ha, q⟩ := h
    refine ⟨_, rfl, _, rfl, a, C, rfl, T, no, .inl ⟨ha, fun d hd nd => q d hd nd⟩⟩
abbrev i_TakenName : Stmt := inClass (topS 16) 0
theorem sci_TakenName : FnScope ["self", "value"] ["self", "value"] (defScope i_TakenName) := ⟨rfl, rfl, rfl, by decide +kernel, rfl, by decide +kernel, by decide +kernel⟩
theorem init_TakenName {f C : Addr} {fd : FuncData} (F : Fun K "__init__" "TakenName.__init__" i_TakenName f fd) (T : OexC K C) (no : PySem.W.findIn K (.ref C) "value" = some none) : FnOk P w K mg base CX0 1 f fd ["self", "value"] (sp_init C) := by
  refine F.ok sci_TakenName (fun vs H Q E h => ?_) (fun cdv A outer s H vs Q E hr h => ⟨_, pss_one (ps_ost (pv 0) (pv 1)), ?_⟩)
  · obtain ⟨a, v, rfl, _⟩ := h
    rfl
  · obtain ⟨a, v, rfl, ha, q⟩ := h
    refine ⟨_, rfl, _, rfl, a, C, rfl, T, no, .inl ⟨ha, fun d hd nd => q d hd nd⟩⟩
abbrev i_UnknownName : Stmt := inClass (topS 17) 0
theorem sci_UnknownName : FnScope ["self", "value"] ["self", "value"] (defScope i_UnknownName) := ⟨rfl, rfl, rfl, by decide +kernel, rfl, by decide +kernel, by decide +kernel⟩
theorem init_UnknownName {f C : Addr} {fd : FuncData} (F : Fun K "__init__" "UnknownName.__init__" i_UnknownName f fd) (T : OexC K C) (no : PySem.W.findIn K (.ref C) "value" = some none) : FnOk P w K mg base CX0 1 f fd ["self", "value"] (sp_init C) := by
  refine F.ok sci_UnknownName (fun vs H Q E h => ?_) (fun cdv A outer s H vs Q E hr h => ⟨_, pss_one (ps_ost (pv 0) (pv 1)), ?_⟩)
  · obtain ⟨a, v, rfl, _⟩ := h
    rfl
  · obtain ⟨a, v, rfl, ha, q⟩ := h
    refine ⟨_, rfl, _, rfl, a, C, rfl, T, no, .inl ⟨ha, fun d hd nd => q d hd nd⟩⟩
abbrev i_BadAmount : Stmt := inClass (topS 18) 0
theorem sci_BadAmount : FnScope ["self", "value"] ["self", "value"] (defScope i_BadAmount) := ⟨rfl, rfl, rfl, by decide +kernel, rfl, by decide +kernel, by decide +kernel⟩
theorem init_BadAmount {f C : Addr} {fd : FuncData} (F : Fun K "__init__" "BadAmount.__init__" i_BadAmount f fd) (T : OexC K C) (no : PySem.W.findIn K (.ref C) "value" = some none) : FnOk P w K mg base CX0 1 f fd ["self", "value"] (sp_init C) := by
  refine F.ok sci_BadAmount (fun vs H Q E h => ?_) (fun cdv A outer s H vs Q E hr h => ⟨_, pss_one (ps_ost (pv 0) (pv 1)), ?_⟩)
  · obtain ⟨a, v, rfl, _⟩ := h
    rfl
  · obtain ⟨a, v, rfl, ha, q⟩ := h
    refine ⟨_, rfl, _, rfl, a, C, rfl, T, no, .inl ⟨ha, fun d hd nd => q d hd nd⟩⟩
abbrev i_BadBudget : Stmt := inClass (topS 19) 0
theorem sci_BadBudget : FnScope ["self", "value"] ["self", "value"] (defScope i_BadBudget) := ⟨rfl, rfl, rfl, by decide +kernel, rfl, by decide +kernel, by decide +kernel⟩
theorem init_BadBudget {f C : Addr} {fd : FuncData} (F : Fun K "__init__" "BadBudget.__init__" i_BadBudget f fd) (T : OexC K C) (no : PySem.W.findIn K (.ref C) "value" = some none) : FnOk P w K mg base CX0 1 f fd ["self", "value"] (sp_init C) := by
  refine F.ok sci_BadBudget (fun vs H Q E h => ?_) (fun cdv A outer s H vs Q E hr h => ⟨_, pss_one (ps_ost (pv 0) (pv 1)), ?_⟩)
  · obtain ⟨a, v, rfl, _⟩ := h
    rfl
  · obtain ⟨a, v, rfl, ha, q⟩ := h
    refine ⟨_, rfl, _, rfl, a, C, rfl, T, no, .inl ⟨ha, fun d hd nd => q d hd nd⟩⟩
abbrev i_Refused : Stmt := inClass (topS 20) 0
theorem sci_Refused : FnScope ["self", "value"] ["self", "value"] (defScope i_Refused) := ⟨rfl, rfl, rfl, by decide +kernel, rfl, by decide +kernel, by decide +kernel⟩
theorem init_Refused {f C : Addr} {fd : FuncData} (F : Fun K "__init__" "Refused.__init__" i_Refused f fd) (T : OexC K C) (no : PySem.W.findIn K (.ref C) "value" = some none) : FnOk P w K mg base CX0 1 f fd ["self", "value"] (sp_init C) := by
  refine F.ok sci_Refused (fun vs H Q E h => ?_) (fun cdv A outer s H vs Q E hr h => ⟨_, pss_one (ps_ost (pv 0) (pv 1)), ?_⟩)
  · obtain ⟨a, v, rfl, _⟩ := h
    rfl
  · obtain ⟨a, v, rfl, ha, q⟩ := h
    refine ⟨_, rfl, _, rfl, a, C, rfl, T, no, .inl ⟨ha, fun d hd nd => q d hd nd⟩⟩
abbrev i_BadText : Stmt := inClass (topS 21) 0
theorem sci_BadText : FnScope ["self", "value"] ["self", "value"] (defScope i_BadText) := ⟨rfl, rfl, rfl, by decide +kernel, rfl, by decide +kernel, by decide +kernel⟩
theorem init_BadText {f C : Addr} {fd : FuncData} (F : Fun K "__init__" "BadText.__init__" i_BadText f fd) (T : OexC K C) (no : PySem.W.findIn K (.ref C) "value" = some none) : FnOk P w K mg base CX0 1 f fd ["self", "value"] (sp_init C) := by
  refine F.ok sci_BadText (fun vs H Q E h => ?_) (fun cdv A outer s H vs Q E hr h => ⟨_, pss_one (ps_ost (pv 0) (pv 1)), ?_⟩)
  · obtain ⟨a, v, rfl, _⟩ := h
    rfl
  · obtain ⟨a, v, rfl, ha, q⟩ := h
    refine ⟨_, rfl, _, rfl, a, C, rfl, T, no, .inl ⟨ha, fun d hd nd => q d hd nd⟩⟩
theorem inith_BadText {f C : Addr} {fd : FuncData} (F : Fun K "__init__" "BadText.__init__" i_BadText f fd) (T : OexC K C) (no : PySem.W.findIn K (.ref C) "value" = some none) : L2H.FnH P w K mg base CX0 1 f fd ["self", "value"] (sp_init C) := by
  refine fnH_of F sci_BadText (fun vs H Q E h => ?_) (fun cdv A outer s H vs Q E p hot hr h => ⟨_, pss_one (ps_ost (pv 0) (pv 1)), ?_⟩)
  · obtain ⟨a, v, rfl, _⟩ := h
    rfl
  · obtain ⟨a, v, rfl, ha, q⟩ := h
    refine ⟨_, rfl, _, rfl, a, C, rfl, T, no, .inl ⟨ha, fun d hd nd => q d hd nd⟩⟩
/-! ### thresholds -/
def R (g : Int) : Nat → Int
  | 0 => 0
  | 1 => g
  | k + 2 => R g (k + 1) + g + (R g (k + 1) - 1) / ((k : Int) + 1)
def rows (g : Int) (n : Nat) : List Int := (List.range n).map fun i => R g (i + 1)
theorem rows_len (g : Int) (n : Nat) : (rows g n).length = n := by simp [rows]
theorem rows_succ (g : Int) (n : Nat) : rows g (n + 1) = rows g n ++ [R g (n + 1)] := by
  simp [rows, List.range_succ]
theorem R_succ (g : Int) (i : Nat) (h : 0 < i) : R g (i + 1) = R g i + g + (R g i - 1) / (i : Int) := by
  cases i with
  | zero => omega
  | succ k => rfl
theorem R_one (g : Int) : R g 1 = g := rfl
theorem R_zero (g : Int) : R g 0 = 0 := rfl
theorem rows_get (g : Int) (n i : Nat) (h : i < n) : (rows g n).getD i 0 = R g (i + 1) := by
  unfold rows
  rw [List.getD_eq_getElem?_getD, List.getElem?_map, List.getElem?_range h]
  rfl
theorem R_pos {g : Int} (hg : 1 ≤ g) : ∀ n : Nat, 1 ≤ R g (n + 1)
  | 0 => hg
  | n + 1 => by
    have ih := R_pos hg n
    have h2 : 0 ≤ (R g (n + 1) - 1) / ((n : Int) + 1) := Int.ediv_nonneg (by omega) (by omega)
    show 1 ≤ R g (n + 1) + g + (R g (n + 1) - 1) / ((n : Int) + 1)
    omega
/-- the steps never fall -/
theorem R_steps {g : Int} (hg : 1 ≤ g) (k : Nat) : R g (k + 1) - R g k ≤ R g (k + 2) - R g (k + 1) := by
  cases k with
  | zero =>
    have e : R g 2 = g + g + (g - 1) / ((0 : Nat) + 1 : Int) := rfl
    have e2 : (g - 1) / (((0 : Nat) : Int) + 1) = g - 1 := by simp
    rw [R_zero, R_one, e, e2]
    omega
  | succ k =>
    have hp := R_pos hg k
    have e : R g (k + 2) = R g (k + 1) + g + (R g (k + 1) - 1) / ((k : Int) + 1) := rfl
    have e' : R g (k + 3) = R g (k + 2) + g + (R g (k + 2) - 1) / (((k + 1 : Nat) : Int) + 1) := rfl
    have hn : (0 : Int) < (k : Int) + 1 := by omega
    have h : (R g (k + 1) - 1) / ((k : Int) + 1) ≤ (R g (k + 2) - 1) / (((k + 1 : Nat) : Int) + 1) := by
      rw [Int.le_ediv_iff_mul_le (by omega), e]
      have h1 := Int.emod_add_mul_ediv (R g (k + 1) - 1) ((k : Int) + 1)
      have h3 := Int.emod_nonneg (R g (k + 1) - 1) (Int.ne_of_gt hn)
      generalize (R g (k + 1) - 1) / ((k : Int) + 1) = q at *
      rw [show ((k + 1 : Nat) : Int) + 1 = ((k : Int) + 1) + 1 by omega, Int.mul_comm, Int.add_mul, Int.one_mul]
      omega
    show R g (k + 2) - R g (k + 1) ≤ R g (k + 3) - R g (k + 2)
    omega
theorem R_mono {g : Int} (hg : 1 ≤ g) : ∀ (i j : Nat), i ≤ j → R g (i + 1) - R g i ≤ R g (j + 1) - R g j
  | i, j, h => by
    induction j with
    | zero =>
      have : i = 0 := by omega
      subst this
      exact Int.le_refl _
    | succ j ih =>
      by_cases e : i = j + 1
      · subst e
        exact Int.le_refl _
      · exact Int.le_trans (ih (by omega)) (R_steps hg j)
theorem sorted_eq {a b : List Int} (p : a.Perm b) (ha : a.Pairwise (· ≤ ·)) (hb : b.Pairwise (· ≤ ·)) : a = b :=
  p.eq_of_pairwise (fun _ _ _ _ h1 h2 => Int.le_antisymm h1 h2) ha hb
/-! ### isint and between, of anything -/
def sp_is_integer (K : PySem.W.Frag) : Sp := fun vs H Q _ => ∃ v : V, vs = [v] ∧ Kn K H v ∧ Q (.bl (isI v)) H
theorem ok_is_integer {f : Addr} {fd : FuncData} {k : Nat} (F : Fun K "is_integer" "is_integer" s_is_integer f fd) (m_isinstance : mg "isinstance" = none) (m_int : mg "int" = none) (m_bool : mg "bool" = none) :
    FnG P w K mg base CX0 (k + 1) f fd ["thing"] (sp_is_integer K) := by
  refine ok0 F sc_is_integer (fun vs H Q E h => ?_) (fun cdv A outer s H vs Q E gd hr h => ?_)
  · obtain ⟨i, rfl, _⟩ := h
    rfl
  · obtain ⟨v, rfl, ⟨c, b1, b2, ty, k1, k2, e⟩, q⟩ := h
    refine ⟨_, (pss_one (ps_ret (pe_and (pe_callB (call_isiB (K := K) rfl) (by rfl) m_isinstance (by decide +kernel) (pa_cons (pv 0) (pa_cons (pe_bltn (v := .ty "int") (by rfl) m_int rfl rfl) pa_nil))) (pe_one (pe_not (pe_callB (call_isiB (K := K) rfl) (by rfl) m_isinstance (by decide +kernel) (pa_cons (pv 0) (pa_cons (pe_bltn (v := .ty "bool") (by rfl) m_bool rfl rfl) pa_nil)))))))), ?_⟩
    refine ⟨_, rfl, _, _, _, _, rfl, ty, k1, _, rfl, ?_⟩
    cases b1 with
    | false =>
      refine iteF ?_
      rw [← e] at q
      exact q
    | true =>
      refine iteT ?_
      refine ⟨_, rfl, _, _, _, _, rfl, ty, k2, _, rfl, ?_⟩
      rw [← e] at q
      exact q
def sp_is_between (K : PySem.W.Frag) : Sp := fun vs H Q _ => ∃ (v : V) (a b : Int), vs = [v, .int a, .int b] ∧ Kn K H v ∧ Q (.bl (btw v a b)) H
theorem ok_is_between {f : Addr} {fd : FuncData} {k : Nat} (F : Fun K "is_between" "is_between" s_is_between f fd)
    (C_is_integer : Cl P w K mg base CX0 1 "is_integer" 1 (sp_is_integer K)) :
    FnG P w K mg base CX0 (k + 2) f fd ["thing", "least", "most"] (sp_is_between K) := by
  refine ok0 F sc_is_between (fun vs H Q E h => ?_) (fun cdv A outer s H vs Q E gd hr h => ?_)
  · obtain ⟨v, a, b, rfl, _⟩ := h
    rfl
  · obtain ⟨v, a, b, rfl, kn, q⟩ := h
    refine ⟨_, (pss_one (ps_ret (pe_and (pe_cl C_is_integer (hr.mono (by omega)) gd pass0 (by rfl) (pa_cons (pv 0) pa_nil)) (pe_one (pe_chain op_le op_le (pv 1) (pv 0) (pv 2)))))), ?_⟩
    refine ⟨_, rfl, v, rfl, kn, _, rfl, ?_⟩
    cases v with
    | int i =>
      refine iteT ?_
      refine ⟨_, rfl, _, rfl, _, _, rfl, rfl, _, rfl, ite2 (fun e => ?_) (fun e => ?_)⟩
      · have e' := of_decide_eq_true e
        refine ⟨_, rfl, _, _, rfl, rfl, ?_⟩
        show Q (.bl (decide (i ≤ b))) H
        have : decide (i ≤ b) = decide (a ≤ i ∧ i ≤ b) := decide_eq_decide.mpr ⟨fun h => ⟨e', h⟩, fun h => h.2⟩
        rw [this]
        exact q
      · have : decide (a ≤ i ∧ i ≤ b) = false := decide_eq_false (fun h => e (decide_eq_true h.1))
        have q : Q (.bl (decide (a ≤ i ∧ i ≤ b))) H := q
        rw [this] at q
        exact q
    | _ => exact q
def qLam (x : Str) : Str := (x ++ ".<locals>.") ++ "<lambda>"
def sp_thresholds (K : PySem.W.Frag) : Sp := fun vs H Q _ => ∃ (n : Nat) (g : Int), vs = [.int (n : Int), .int g] ∧ n ≤ 1000 ∧
  ∀ p H', H p = none → Kp [] H H' → H' p = some (.tup ((rows g n).map V.int)) → Q (.ref p) H'
theorem ok_thresholds {f : Addr} {fd : FuncData} {k : Nat} (F : Fun K "thresholds" "thresholds" s_thresholds f fd) (m_range : mg "range" = none) (m_tuple : mg "tuple" = none) :
    FnG P w K mg base CX0 (k + 1) f fd ["count", "budget"] (sp_thresholds K) := by
  refine ok0 F sc_thresholds (fun vs H Q E h => ?_) (fun cdv A outer s H vs Q E gd hr h => ?_)
  · obtain ⟨n, g, rfl, _⟩ := h
    rfl
  · obtain ⟨n, g, rfl, hn, q⟩ := h
    refine ⟨_, (pss_cons (ps_set (i := 2) sc_thresholds.nd rfl (.inl rfl) (pe_li pa_nil))
      (pss_cons (ps_set (i := 3) sc_thresholds.nd rfl (.inl rfl) pe_int)
      (pss_cons (ps_forW PassesOwn.never rfl (pi_range1 (by rfl) m_range (pa_cons (pv 0) pa_nil)) (pg_name (i := 4) sc_thresholds.nd rfl (.inl rfl))
      (pss_cons (ps_set (i := 5) sc_thresholds.nd rfl (.inl rfl) (pe_ifI (pt_cmpR op_gt (pv 4) pe_int (nomark _)) (pe_op op_fdiv (pe_op op_sub (pv 3) pe_int) (pv 4)) pe_int))
      (pss_cons (ps_aug (i := 3) sc_thresholds.nd rfl (.inl rfl) (pe_op op_add (pv 1) (pv 5)) ip_add)
      (pss_one (ps_expr (pe_bm PySem.F.plainAttrs_list PySem.F.slot_list_append PySem.F.type_list_append mt_appI (pv 2) (pa_cons (pv 3) pa_nil)))))))
      (pss_one (ps_ret (pe_callTy (call_tupLK (K := K) rfl) (by rfl) m_tuple (by decide +kernel) (pa_cons (pv 2) pa_nil))))))), ?_⟩
    refine ⟨[], rfl, Nat.zero_le _, fun p H1 np k1 h1 => ?_⟩
    refine ⟨_, rfl, _, rfl, by omega, by omega, ?_⟩
    refine ⟨_, _, _, walk_range, fun i σ H2 => ∃ (r : Int) (ns : List Int) (y4 y5 : Option V), σ = [some (.int (n : Int)), some (.int g), some (.ref p), some (.int r), y4, y5] ∧ Kp [] H H2 ∧ IL H2 p ns ∧ r = R g i ∧ ns = rows g i, ⟨_, _, _, _, rfl, k1, h1, rfl, rfl⟩, fun _ _ _ _ _ => trivial, ?_, ?_⟩
    · rintro i x σ H2 _ hi ⟨r, ns, y4, y5, rfl, k2, h2, er, en⟩ ⟨rfl, rfl⟩
      have hl : ns.length < sizeLine := by rw [en, rows_len]; exact small1000 (by omega)
      refine ⟨fun v => r + (g + v) = R g (i + 1), ⟨_, rfl, _, _, rfl, rfl, _, rfl, ite2 (fun e => ?_) (fun e => ?_)⟩, fun v hv => ?_⟩
      · have e' := of_decide_eq_true e
        refine ⟨_, rfl, _, _, rfl, rfl, _, rfl, _, _, rfl, rfl, ⟨by omega, by omega⟩, _, rfl, rfl, ?_⟩
        show r + (g + (r - 1) / (0 + (i : Int))) = _
        rw [R_succ g i (by omega), er, Int.zero_add]
        omega
      · have e' : ¬ (0 : Int) < 0 + (i : Int) := fun z => e (decide_eq_true z)
        refine ⟨_, rfl, rfl, ?_⟩
        have : i = 0 := by omega
        subst this
        rw [er, R_one, R_zero]
        omega
      refine ⟨_, rfl, _, rfl, _, rfl, _, _, rfl, rfl, _, _, rfl, rfl, ?_⟩
      refine ⟨_, rfl, .inl ⟨rfl, _, sqL h2⟩, _, rfl, _, _, _, rfl, rfl, h2, hl, fun H3 m3 h3 => ?_⟩
      exact ⟨_, _, _, _, rfl, k2.md (.inl np) m3, h3, hv, by rw [rows_succ, en, ← hv]⟩
    · rintro σ H2 ⟨r, ns, y4, y5, rfl, k2, h2, er, en⟩
      refine ⟨_, rfl, _, _, rfl, sqL h2, fun t H3 nt k3 h3 => ?_⟩
      exact q t H3 (k2.free0 nt) (k2.trans k3) (en ▸ h3)
/-! ### the first size whose smallest balances fall below their threshold, by the law -/
def gapFrom (g : Int) : Nat → Int → List Int → Option Nat
  | _, _, [] => none
  | i, t, b :: r => if t + b < R g (i + 1) then some (i + 1) else gapFrom g (i + 1) (t + b) r
def srt (ns : List Int) : List Int := ns.mergeSort (fun a b => decide (a ≤ b))
theorem srt_perm (ns : List Int) : (srt ns).Perm ns := List.mergeSort_perm _ _
theorem srt_sorted (ns : List Int) : (srt ns).Pairwise (· ≤ ·) := by
  have h := List.pairwise_mergeSort (le := fun a b : Int => decide (a ≤ b)) (fun a b c h1 h2 => decide_eq_true (Int.le_trans (of_decide_eq_true h1) (of_decide_eq_true h2)))
    (fun a b => by rcases Int.le_total a b with z | z <;> simp [z]) ns
  exact h.imp fun {a b} z => of_decide_eq_true z
theorem srt_eq {ns ms : List Int} (p : ms.Perm ns) (s : ms.Pairwise (· ≤ ·)) : ms = srt ns := sorted_eq (p.trans (srt_perm ns).symm) s (srt_sorted ns)
theorem srt_len (ns : List Int) : (srt ns).length = ns.length := (srt_perm ns).length_eq
/-- the least k with S(k) < R(k), if there is one -/
def gapOf (g : Int) (ns : List Int) : Option Nat := gapFrom g 0 0 (srt ns)
theorem gap_step {g : Int} {ms : List Int} {i : Nat} {t : Int} (h : i < ms.length) :
    gapFrom g i t (ms.drop i) = if t + ms.getD i 0 < R g (i + 1) then some (i + 1) else gapFrom g (i + 1) (t + ms.getD i 0) (ms.drop (i + 1)) := by
  rw [List.drop_eq_getElem_cons h, List.getD_eq_getElem?_getD, List.getElem?_eq_getElem h]
  rfl
/-! ### sums of the k smallest -/
def SS (ns : List Int) (k : Nat) : Int := ((srt ns).take k).sum
theorem srt_congr {a b : List Int} (p : a.Perm b) : srt a = srt b := (srt_eq ((srt_perm a).trans p) (srt_sorted a))
theorem SS_congr {a b : List Int} (p : a.Perm b) (k : Nat) : SS a k = SS b k := by
  unfold SS
  rw [srt_congr p]
theorem gap_congr {g : Int} {a b : List Int} (p : a.Perm b) : gapOf g a = gapOf g b := by
  unfold gapOf
  rw [srt_congr p]
theorem take_sum_succ (ms : List Int) (k : Nat) (h : k < ms.length) : (ms.take (k + 1)).sum = (ms.take k).sum + ms.getD k 0 := by
  rw [List.take_add_one, List.getElem?_eq_getElem h, List.sum_append, List.getD_eq_getElem?_getD, List.getElem?_eq_getElem h]
  simp
theorem perm_sum {a b : List Int} (p : a.Perm b) : a.sum = b.sum := by
  induction p with
  | nil => rfl
  | cons x _ ih => rw [List.sum_cons, List.sum_cons, ih]
  | swap x y l =>
    simp only [List.sum_cons]
    omega
  | trans _ _ h1 h2 => exact h1.trans h2
/-- the k first of a sorted list sum to no more than any k of it -/
theorem sorted_min : ∀ (ms l l' : List Int), ms.Pairwise (· ≤ ·) → (l ++ l').Perm ms → (ms.take l.length).sum ≤ l.sum
  | [], l, l', _, p => by
    have h := p.length_eq
    have e : l = [] := by
      cases l with
      | nil => rfl
      | cons x r => simp at h
    subst e
    simp
  | x :: r, l, l', s, p => by
    have sr := (List.pairwise_cons.mp s).2
    have sx := (List.pairwise_cons.mp s).1
    by_cases hx : x ∈ l
    · have pl : l.Perm (x :: l.erase x) := List.perm_cons_erase hx
      have p2 : (x :: (l.erase x ++ l')).Perm (x :: r) := by
        have := (pl.append_right l').symm.trans p
        simpa using this
      have ih := sorted_min r (l.erase x) l' sr p2.cons_inv
      have hs : l.sum = x + (l.erase x).sum := by
        rw [perm_sum pl, List.sum_cons]
      have hl : l.length = (l.erase x).length + 1 := by
        rw [pl.length_eq]
        simp
      rw [hl, hs, List.take_succ_cons, List.sum_cons]
      omega
    · have hx2 : x ∈ l' := by
        have : x ∈ l ++ l' := p.mem_iff.mpr List.mem_cons_self
        rcases List.mem_append.mp this with z | z
        · exact absurd z hx
        · exact z
      have pl : l'.Perm (x :: l'.erase x) := List.perm_cons_erase hx2
      have p2 : (x :: (l ++ l'.erase x)).Perm (x :: r) := by
        have h1 : (l ++ l').Perm (l ++ x :: l'.erase x) := pl.append_left l
        have h2 : (l ++ x :: l'.erase x).Perm (x :: (l ++ l'.erase x)) := List.perm_middle
        exact (h1.trans h2).symm.trans p
      have p3 := p2.cons_inv
      have ih := sorted_min r l (l'.erase x) sr p3
      have hl := p3.length_eq
      rw [List.length_append] at hl
      cases e : l.length with
      | zero => 
        rw [e] at ih
        simpa using ih
      | succ k =>
        rw [e] at ih hl
        rw [List.take_succ_cons, List.sum_cons]
        rw [take_sum_succ r k (by omega)] at ih
        have hk : x ≤ r.getD k 0 := by
          rw [List.getD_eq_getElem?_getD, List.getElem?_eq_getElem (show k < r.length by omega)]
          exact sx _ (List.getElem_mem _)
        omega
theorem SS_min {ns l l' : List Int} (p : (l ++ l').Perm ns) : SS ns l.length ≤ l.sum :=
  sorted_min (srt ns) l l' (srt_sorted ns) (p.trans (srt_perm ns).symm)
theorem SS_is (ns : List Int) (k : Nat) (h : k ≤ ns.length) : ∃ l l' : List Int, (l ++ l').Perm ns ∧ l.length = k ∧ l.sum = SS ns k := by
  refine ⟨(srt ns).take k, (srt ns).drop k, ?_, ?_, rfl⟩
  · rw [List.take_append_drop]
    exact srt_perm ns
  · rw [List.length_take, srt_len]
    omega
/-- no gap: each sum of the k smallest reaches its threshold -/
theorem gapFrom_none {g : Int} : ∀ (ms : List Int) (i : Nat) (t : Int), gapFrom g i t ms = none ↔ ∀ k, k < ms.length → R g (i + k + 1) ≤ t + (ms.take (k + 1)).sum
  | [], i, t => by simp [gapFrom]
  | b :: r, i, t => by
    unfold gapFrom
    by_cases c : t + b < R g (i + 1)
    · rw [if_pos c]
      constructor
      · intro h
        cases h
      · intro h
        have := h 0 (by simp)
        simp at this
        omega
    · rw [if_neg c, gapFrom_none r (i + 1) (t + b)]
      constructor
      · intro h k hk
        cases k with
        | zero => simp; omega
        | succ k =>
          have := h k (by simpa using hk)
          rw [List.take_succ_cons, List.sum_cons, show i + (k + 1) + 1 = i + 1 + k + 1 by omega]
          omega
      · intro h k hk
        have := h (k + 1) (by simpa using hk)
        rw [List.take_succ_cons, List.sum_cons, show i + (k + 1) + 1 = i + 1 + k + 1 by omega] at this
        omega
theorem gap_none {g : Int} {ns : List Int} : gapOf g ns = none ↔ ∀ k, 1 ≤ k → k ≤ ns.length → R g k ≤ SS ns k := by
  unfold gapOf
  rw [gapFrom_none, srt_len]
  constructor
  · intro h k h1 h2
    have := h (k - 1) (by omega)
    rw [show 0 + (k - 1) + 1 = k by omega, show k - 1 + 1 = k by omega] at this
    unfold SS
    omega
  · intro h k hk
    have := h (k + 1) (by omega) (by omega)
    unfold SS at this
    rw [show 0 + k + 1 = k + 1 by omega]
    omega
/-- pointwise at most -/
inductive Pw : List Int → List Int → Prop
  | nil : Pw [] []
  | cons {x y : Int} {r t : List Int} : x ≤ y → Pw r t → Pw (x :: r) (y :: t)
theorem Pw.refl : ∀ l : List Int, Pw l l
  | [] => .nil
  | x :: r => .cons (Int.le_refl x) (Pw.refl r)
theorem Pw.length : ∀ {a b : List Int}, Pw a b → a.length = b.length
  | _, _, .nil => rfl
  | _, _, .cons _ h => by rw [List.length_cons, List.length_cons, h.length]
theorem Pw.split : ∀ {a : List Int} (l l' : List Int), Pw a (l ++ l') → ∃ m m', a = m ++ m' ∧ Pw m l ∧ Pw m' l'
  | a, [], l', h => ⟨[], a, rfl, .nil, h⟩
  | _, x :: l, l', .cons hx ht => by
    obtain ⟨m, m', e, h1, h2⟩ := Pw.split l l' ht
    exact ⟨_ :: m, m', by rw [e]; rfl, .cons hx h1, h2⟩
theorem Pw.sum : ∀ {a b : List Int}, Pw a b → a.sum ≤ b.sum
  | _, _, .nil => Int.le_refl _
  | _, _, .cons hx h => by
    rw [List.sum_cons, List.sum_cons]
    have := h.sum
    omega
/-! ### the sums of the k smallest, one by one -/
def psums : Int → List Int → List Int
  | _, [] => []
  | t, b :: r => (t + b) :: psums (t + b) r
theorem psums_len : ∀ (t : Int) (ms : List Int), (psums t ms).length = ms.length
  | _, [] => rfl
  | t, b :: r => by
    show (psums (t + b) r).length + 1 = r.length + 1
    rw [psums_len]
theorem psums_get : ∀ (t : Int) (ms : List Int) (i : Nat), i < ms.length → (psums t ms).getD i 0 = t + (ms.take (i + 1)).sum
  | _, [], _, h => absurd h (Nat.not_lt_zero _)
  | t, b :: r, 0, _ => by
    show t + b = t + (b + 0)
    omega
  | t, b :: r, i + 1, h => by
    show (psums (t + b) r).getD i 0 = t + (b + (r.take (i + 1)).sum)
    rw [psums_get (t + b) r i (by simpa using h)]
    omega
theorem psums_take : ∀ (t : Int) (ms : List Int) (i : Nat), i < ms.length → (psums t ms).take (i + 1) = (psums t ms).take i ++ [t + (ms.take (i + 1)).sum]
  | _, [], _, h => absurd h (Nat.not_lt_zero _)
  | t, b :: r, 0, _ => by
    show [t + b] = [t + (b + 0)]
    rw [Int.add_zero]
  | t, b :: r, i + 1, h => by
    show (t + b) :: (psums (t + b) r).take (i + 1) = (t + b) :: ((psums (t + b) r).take i ++ [t + (b + (r.take (i + 1)).sum)])
    rw [psums_take (t + b) r i (by simpa using h), Int.add_assoc]
def own (ns : List Int) : List Int := psums 0 (srt ns)
theorem own_get (ns : List Int) (k : Nat) (h1 : 1 ≤ k) (h2 : k ≤ ns.length) : (own ns).getD (k - 1) 0 = SS ns k := by
  unfold own SS
  rw [psums_get 0 (srt ns) (k - 1) (by rw [srt_len]; omega), show k - 1 + 1 = k by omega]
  omega
theorem gap_range {g : Int} {ns : List Int} {k : Nat} (h : gapOf g ns = some k) : 1 ≤ k ∧ k ≤ ns.length := by
  have : ∀ (ms : List Int) (i : Nat) (t : Int), gapFrom g i t ms = some k → i < k ∧ k ≤ i + ms.length := by
    intro ms
    induction ms with
    | nil =>
      intro i t h
      simp [gapFrom] at h
    | cons b r ih =>
      intro i t h
      unfold gapFrom at h
      by_cases c : t + b < R g (i + 1)
      · rw [if_pos c] at h
        cases h
        exact ⟨by omega, by rw [List.length_cons]; omega⟩
      · rw [if_neg c] at h
        have := ih (i + 1) (t + b) h
        rw [List.length_cons]
        omega
  have := this _ _ _ h
  rw [srt_len] at this
  omega
/-! ### what sums, gap and is_safe promise -/
def gapD (g : Int) (ns : List Int) : PyData := match gapOf g ns with
  | none => .none
  | some k => .tuple [.int (k : Int), .int (SS ns k), .int (R g k)]
def sp_sums (K : PySem.W.Frag) : Sp := fun vs H Q _ => ∃ (p : Addr) (ns : List Int), vs = [.ref p] ∧ (SqL K H p (ns.map V.int) ∨ SqT K H p (ns.map V.int)) ∧ ns.length ≤ 40 ∧
  ∀ q H', Kp [] H H' → SqT K H' q ((own ns).map V.int) → Q (.ref q) H'
def sp_gap (K : PySem.W.Frag) : Sp := fun vs H Q _ => ∃ (p : Addr) (ns : List Int) (g : Int), vs = [.ref p, .int g] ∧ SqT K H p (ns.map V.int) ∧ ns.length ≤ 40 ∧ ns.length ≤ 40 ∧ 1 ≤ g ∧
  ∀ r H', Kp [] H H' → Dp K H' r (gapD g ns) → Q r H'
theorem ok_sums {f : Addr} {fd : FuncData} {k : Nat} (F : Fun K "sums" "sums" s_sums f fd) (m_sorted : mg "sorted" = none) (m_tuple : mg "tuple" = none) :
    FnG P w K mg base CX0 (k + 1) f fd ["balances"] (sp_sums K) := by
  refine ok0 F sc_sums (fun vs H Q E h => ?_) (fun cdv A outer s H vs Q E gd hr h => ?_)
  · obtain ⟨p, ns, rfl, _⟩ := h
    rfl
  · obtain ⟨p, ns, rfl, hp, hn, q⟩ := h
    refine ⟨_, (pss_cons (ps_set (i := 1) sc_sums.nd rfl (.inl rfl) (pe_li pa_nil))
      (pss_cons (ps_set (i := 2) sc_sums.nd rfl (.inl rfl) pe_int)
      (pss_cons (ps_forW PassesOwn.never rfl (pi_list (pe_callB (cr_srtK (K := K) rfl) (by rfl) m_sorted (by decide +kernel) (pa_cons (pv 0) pa_nil))) (pg_name (i := 3) sc_sums.nd rfl (.inl rfl))
      (pss_cons (ps_aug (i := 2) sc_sums.nd rfl (.inl rfl) (pv 3) ip_add)
      (pss_one (ps_expr (pe_bm PySem.F.plainAttrs_list PySem.F.slot_list_append PySem.F.type_list_append mt_appI (pv 1) (pa_cons (pv 2) pa_nil))))))
      (pss_one (ps_ret (pe_callTy (call_tupLK (K := K) rfl) (by rfl) m_tuple (by decide +kernel) (pa_cons (pv 1) pa_nil))))))), ?_⟩
    refine ⟨[], rfl, Nat.zero_le _, fun f H1 nf k1 h1 => ?_⟩
    refine ⟨_, rfl, p, ns, rfl, hp.imp (fun z => k1.lst0 z) (fun z => k1.tup0 z), fun ms pm sm t H2 nt k2 h2 => ?_⟩
    have em := srt_eq pm sm
    have ml := pm.length_eq
    have h1 := k2.at0 h1
    have nft : f ≠ t := ne_of_none (show H1 f = _ from by assumption) nt
    refine ⟨t, rfl, ⟨_, sqL h2⟩, _, _, _, walk_li (ns := ms), fun i σ H3 => ∃ (fs : List Int) (tot : Int) (y3 : Option V), σ = [some (.ref p), some (.ref f), some (.int tot), y3] ∧ Kp [] H H3 ∧ IL H3 f fs ∧ IL H3 t ms ∧ fs = (psums 0 ms).take i ∧ tot = (ms.take i).sum,
      ⟨[], _, _, rfl, k1.trans k2, h1, h2, rfl, rfl⟩, fun i σ H3 _ ⟨_, _, _, _, _, _, a, _⟩ => sqL a, ?_, ?_⟩
    · rintro i x σ _ H3 hi ⟨fs, tot, y3, rfl, k3, hf, ht, ef, et⟩ ⟨rfl, rfl⟩
      have fl : fs.length = i := by
        rw [ef, List.length_take, psums_len]
        omega
      refine ⟨_, rfl, _, rfl, _, _, rfl, rfl, ?_⟩
      refine ⟨_, rfl, .inl ⟨rfl, _, sqL hf⟩, _, rfl, _, _, _, rfl, rfl, hf, small1000 (by omega), fun H4 m4 h4 => ?_⟩
      have e1 : tot + ms.getD i 0 = (ms.take (i + 1)).sum := by
        rw [take_sum_succ ms i hi, et]
      refine ⟨_, _, _, rfl, k3.md (.inl nf) m4, h4, (m4 t nft.symm).trans ht, ?_, e1⟩
      rw [psums_take 0 ms i hi, ef, Int.zero_add, ← e1]
    · rintro σ H3 ⟨fs, tot, y3, rfl, k3, hf, ht, ef, et⟩
      rw [List.take_of_length_le (by rw [psums_len]; exact Nat.le_refl _), em] at ef
      subst ef
      refine ⟨_, rfl, _, _, rfl, sqL hf, fun u H4 nu k4 h4 => ?_⟩
      exact q u H4 (k3.trans k4) (sqT h4)
theorem own_at (ns : List Int) (i : Nat) (h : i < ns.length) : (own ns).getD i 0 = ((srt ns).take (i + 1)).sum := by
  have := own_get ns (i + 1) (by omega) (by omega)
  rw [Nat.add_sub_cancel] at this
  exact this
theorem ok_gap {f : Addr} {fd : FuncData} {k : Nat} (F : Fun K "gap" "gap" s_gap f fd) (m_enumerate : mg "enumerate" = none) (m_len : mg "len" = none)
    (C_thresholds : Cl P w K mg base CX0 1 "thresholds" 2 (sp_thresholds K)) (C_sums : Cl P w K mg base CX0 1 "sums" 1 (sp_sums K)) :
    FnG P w K mg base CX0 (k + 2) f fd ["balances", "budget"] (sp_gap K) := by
  refine ok0 F sc_gap (fun vs H Q E h => ?_) (fun cdv A outer s H vs Q E gd hr h => ?_)
  · obtain ⟨p, ns, g, rfl, _⟩ := h
    rfl
  · obtain ⟨p, ns, g, rfl, hp, hn1, hn, hg, q⟩ := h
    refine ⟨_, (pss_cons (ps_set (i := 2) sc_gap.nd rfl (.inl rfl) (pe_cl C_thresholds (hr.mono (by omega)) gd pass0 (by rfl) (pa_cons (pe_callB (call_len_seqK (K := K) rfl) (by rfl) m_len (by decide +kernel) (pa_cons (pv 0) pa_nil)) (pa_cons (pv 1) pa_nil))))
      (pss_cons (ps_forW PassesOwn.never rfl (pi_et (by rfl) m_enumerate (pa_cons (pe_cl C_sums (hr.mono (by omega)) gd pass0 (by rfl) (pa_cons (pv 0) pa_nil)) pa_nil)) (pg_tup rfl (pgs_cons (pg_name (i := 3) sc_gap.nd rfl (.inl rfl)) (pgs_cons (pg_name (i := 4) sc_gap.nd rfl (.inl rfl)) pgs_nil)))
      (pss_one (ps_if (pt_cmpR op_lt (pv 4) (pe_ix (ix_tiK (K := K) rfl) (pv 2) (pv 3) (fun _ _ => rfl)) (nomark _))
      (pss_one (ps_ret (pe_ti (pa_cons (pe_op op_add (pv 3) pe_int) (pa_cons (pv 4) (pa_cons (pe_ix (ix_tiK (K := K) rfl) (pv 2) (pv 3) (fun _ _ => rfl)) pa_nil))))))
      pss_nil)))
      (pss_one (ps_ret pe_non)))), ?_⟩
    refine ⟨_, rfl, p, _, rfl, .inr hp, _, rfl, ns.length, g, ?_, by omega, fun r H1 nr k1 hr1 => ?_⟩
    · rw [List.length_map]
      rfl
    refine ⟨_, rfl, p, ns, rfl, .inr (k1.tup0 hp), hn, fun t H2 k2 h2 => ?_⟩
    have ol : (own ns).length = ns.length := by
      unfold own
      rw [psums_len, srt_len]
    refine ⟨t, _, rfl, h2, _, _, _, walk_et (ns := own ns), fun i σ H3 => ∃ y3 y4, σ = [some (.ref p), some (.int g), some (.ref r), y3, y4] ∧ Kp [] H H3 ∧ SqT K H3 r ((rows g ns.length).map V.int) ∧ SqT K H3 t ((own ns).map V.int) ∧ gapOf g ns = gapFrom g i ((srt ns).take i).sum ((srt ns).drop i),
      ⟨_, _, rfl, k1.trans k2, k2.tup0 (sqT hr1), h2, rfl⟩, fun i σ H3 _ ⟨_, _, _, _, _, z, _⟩ => z, ?_, ?_⟩
    · rintro i x σ H3 H4 hi ⟨y3, y4, rfl, k3, hr3, ht3, eg⟩ ⟨T, rfl, nT, kT, hT⟩
      have hi2 : i < ns.length := by omega
      have hi3 : i < (srt ns).length := by rw [srt_len]; exact hi2
      rw [gap_step hi3, ← take_sum_succ (srt ns) i hi3, ← own_at ns i hi2] at eg
      have hr4 := kT.tup0 hr3
      refine ⟨T, _, rfl, sqT hT, rfl, _, _, rfl, _, _, rfl, rfl, ?_⟩
      have er : (rows g ns.length).getD (i : Int).toNat 0 = R g (i + 1) := by
        rw [show (i : Int).toNat = i by omega, rows_get g ns.length i hi2]
      refine ⟨_, rfl, _, rfl, _, rfl, r, rows g ns.length, _, rfl, rfl, hr4, ⟨by omega, by rw [rows_len]; omega⟩, _, _, rfl, rfl, _, rfl, ite2 (fun e => ?_) (fun e => ?_)⟩
      · have e' := of_decide_eq_true e
        rw [er] at e'
        rw [if_pos e'] at eg
        refine ⟨_, rfl, _, _, rfl, rfl, _, rfl, _, rfl, _, rfl, r, rows g ns.length, _, rfl, rfl, hr4, ⟨by omega, by rw [rows_len]; omega⟩, [_, _, _], rfl, Nat.le_of_ble_eq_true rfl, fun u H5 nu k5 h5 => ?_⟩
        refine q _ H5 ((k3.trans kT).trans k5) ?_
        unfold gapD
        rw [eg]
        rw [er, own_at ns i hi2] at h5
        exact dp_ti (ns := [((i + 1 : Nat) : Int), SS ns (i + 1), R g (i + 1)]) (sqT h5)
      · have e' : ¬ (own ns).getD i 0 < R g (i + 1) := fun z => e (decide_eq_true (by rw [er]; exact z))
        rw [if_neg e', own_at ns i hi2] at eg
        exact ⟨_, _, rfl, k3.trans kT, hr4, kT.tup0 ht3, eg⟩
    · rintro σ H3 ⟨y3, y4, rfl, k3, hr3, ht3, eg⟩
      rw [List.drop_eq_nil_of_le (by rw [srt_len, ol]; exact Nat.le_refl _)] at eg
      refine q _ H3 k3 ?_
      unfold gapD
      rw [eg]
      exact .non
/-! ### the first weak set -/
def byBal (ns : List Int) (i : Int) : Int × Int := (ns.getD i.toNat 0, i)
/-- the k first senders in ascending order of (balance, index), ascending -/
def IsWeak (ns : List Int) (k : Nat) (W : List Int) : Prop := W.Pairwise (· < ·) ∧ ∃ ms : List Int, ms.Perm (upto ns.length) ∧ ms.Pairwise (KLe (byBal ns)) ∧ W.Perm (ms.take k)
def sp_poorest_first (K : PySem.W.Frag) (T : List (Addr × Str)) : Sp := fun vs H Q _ => ∃ (p q : Addr) (ns ix : List Int), vs = [.ref p, .ref q] ∧ SqT K H p (ns.map V.int) ∧ SqL K H q (ix.map V.int) ∧ ix.length ≤ 1000 ∧ (∀ i ∈ ix, 0 ≤ i ∧ i < (ns.length : Int)) ∧ Tabs T H ∧
  ∀ l H' (ms : List Int), Kt T H H' → Nt H l → H' l = some (.lst (ms.map V.int)) → ms.Perm ix → ms.Pairwise (KLe (byBal ns)) → Q (.ref l) H'
def sp_weak_set (K : PySem.W.Frag) (T : List (Addr × Str)) : Sp := fun vs H Q _ => ∃ (p : Addr) (ns : List Int) (g : Int), vs = [.ref p, .int g] ∧ SqT K H p (ns.map V.int) ∧ ns.length ≤ 40 ∧ ns.length ≤ 40 ∧ 1 ≤ g ∧ Tabs T H ∧
  (gapOf g ns = none → ∀ H', Kp [] H H' → Q .non H') ∧ ∀ k, gapOf g ns = some k → ∀ t H' (W : List Int), Kt T H H' → SqT K H' t (W.map V.int) → IsWeak ns k W → Q (.ref t) H'
theorem ok_poorest_first {f c pt : Addr} {fd : FuncData} {k : Nat} {T : List (Addr × Str)} (F : Fun K "poorest_first" "poorest_first" s_poorest_first f fd) (hcd : fd.code = .ref c) (TB : TabB base mg c pt) (hmT : (pt, qLam "poorest_first") ∈ T) (huT : ∀ r ∈ T, r.1 = pt → r.2 = qLam "poorest_first") (m_sorted : mg "sorted" = none) :
    FnG P w K mg base CX0 (k + 4) f fd ["balances", "senders"] (sp_poorest_first K T) := by
  refine okC F hcd sc_poorest_first (fun vs H Q E h => ?_) (fun A outer s H vs Q E gd hr h => ?_)
  · obtain ⟨p, q, ns, ix, rfl, _⟩ := h
    rfl
  · obtain ⟨p, q, ns, ix, rfl, hp, hq, hl, hb, hT, w⟩ := h
    refine ⟨_, (pss_one (ps_ret (pe_sortK (K := K) (T := T) (k := 0) (i := 2) rfl rfl TB rfl hmT huT (hr.mono (by omega)) (lam1_by (sc := defScope s_poorest_first) (by decide +kernel)) sc_poorest_first.nd rfl rfl (fun _ _ _ _ _ _ => rfl) (fun _ _ _ _ => (pe_ti (pa_cons (pe_ix (ix_tiK (K := K) rfl) (pv 0) (pv 2) (fun _ _ => rfl)) (pa_cons (pv 2) pa_nil)))) (by rfl) m_sorted (pa_cons (pv 1) pa_nil)))), ?_⟩
    refine ⟨_, rfl, q, ix, byBal ns, rfl, hq, hl, hT, fun H2 k2 => ⟨fun n hn H' k' => ?_, fun ms pm sm l H3 nl k3 h3 => ?_⟩⟩
    · have hn2 := hb n hn
      refine ⟨_, rfl, _, rfl, p, ns, n, rfl, rfl, k'.tup0 (k2.tup0 hp), hn2, _, rfl, [_, _], rfl, Nat.le_of_ble_eq_true rfl, fun U H4 nU k4 h4 => ?_⟩
      exact ⟨k4, U, rfl, h4⟩
    · exact w l H3 ms (k2.kp k3) (k2.nt0 nl) h3 pm sm
theorem upto_nodup (n : Nat) : (upto n).Pairwise (· < ·) := by
  unfold upto
  rw [List.pairwise_map]
  refine List.Pairwise.imp ?_ (List.pairwise_lt_range (n := n))
  intro a b h
  omega
theorem upto_mem {n : Nat} {i : Int} : i ∈ upto n ↔ 0 ≤ i ∧ i < (n : Int) := by
  unfold upto
  rw [List.mem_map]
  constructor
  · rintro ⟨a, ha, rfl⟩
    have := List.mem_range.mp ha
    omega
  · rintro ⟨h1, h2⟩
    exact ⟨i.toNat, List.mem_range.mpr (by omega), by omega⟩
theorem perm_lt {a b : List Int} (p : a.Perm b) (hb : b.Pairwise (· ≠ ·)) (ha : a.Pairwise (· ≤ ·)) : a.Pairwise (· < ·) := by
  have hn : a.Pairwise (· ≠ ·) := (p.pairwise_iff (fun h => Ne.symm h)).mpr hb
  exact (ha.and hn).imp fun {x y} h => by omega
theorem ok_weak_set {f : Addr} {fd : FuncData} {k : Nat} {T : List (Addr × Str)} (F : Fun K "weak_set" "weak_set" s_weak_set f fd) (m_list : mg "list" = none) (m_range : mg "range" = none) (m_len : mg "len" = none) (m_tuple : mg "tuple" = none) (m_sorted : mg "sorted" = none)
    (C_gap : Cl P w K mg base CX0 2 "gap" 2 (sp_gap K)) (C_poorest_first : Cl P w K mg base CX0 4 "poorest_first" 2 (sp_poorest_first K T)) :
    FnG P w K mg base CX0 (k + 5) f fd ["balances", "budget"] (sp_weak_set K T) := by
  refine ok0 F sc_weak_set (fun vs H Q E h => ?_) (fun cdv A outer s H vs Q E gd hr h => ?_)
  · obtain ⟨p, ns, g, rfl, _⟩ := h
    rfl
  · obtain ⟨p, ns, g, rfl, hp, hl1, hl, hg, hT, w0, w1⟩ := h
    refine ⟨_, (pss_cons (ps_set (i := 2) sc_weak_set.nd rfl (.inl rfl) (pe_cl C_gap (hr.mono (by omega)) gd pass0 (by rfl) (pa_cons (pv 0) (pa_cons (pv 1) pa_nil))))
      (pss_cons (ps_if (pt_cmpR op_isN (pv 2) pe_non (nomark _))
      (pss_one (ps_ret pe_non))
      pss_nil)
      (pss_cons (ps_set (i := 3) sc_weak_set.nd rfl (.inl rfl) (pe_cl C_poorest_first (hr.mono (by omega)) gd pass0 (by rfl) (pa_cons (pv 0) (pa_cons (pe_listUp rfl (by rfl) m_list (by rfl) m_range (pe_callB (call_len_seqK (K := K) rfl) (by rfl) m_len (by decide +kernel) (pa_cons (pv 0) pa_nil))) pa_nil))))
      (pss_one (ps_ret (pe_callTy (call_tupLK (K := K) rfl) (by rfl) m_tuple (by decide +kernel) (pa_cons (pe_callB (cr_srtLK (K := K) rfl) (by rfl) m_sorted (by decide +kernel) (pa_cons (pe_slice (sl_liToK (K := K) rfl) (pv 3) po_none (po_some (pe_ix (ix_tiK (K := K) rfl) (pv 2) pe_int (fun _ _ => rfl)))) pa_nil)) pa_nil))))))), ?_⟩
    refine ⟨_, rfl, _, rfl, p, ns, g, rfl, hp, hl1, hl, hg, fun r H1 k1 hd => ?_⟩
    have hp1 := k1.tup0 hp
    unfold gapD at hd
    cases eg : gapOf g ns with
    | none =>
      rw [eg] at hd
      cases hd
      refine ⟨_, rfl, rfl, _, rfl, ?_⟩
      refine (show if decide (V.non = V.non) = true then _ else _ from ifYes rfl ?_)
      exact w0 eg H1 k1
    | some kk =>
      have hk := gap_range eg
      rw [eg] at hd
      obtain ⟨t, rfl, ht⟩ : ∃ t, r = .ref t ∧ SqT K H1 t (([(kk : Int), SS ns kk, R g kk] : List Int).map V.int) := by
        cases hd with
        | tup sq al =>
          cases al with
          | cons x1 al =>
            cases x1
            cases al with
            | cons x2 al =>
              cases x2
              cases al with
              | cons x3 al =>
                cases x3
                cases al
                exact ⟨_, rfl, sq⟩
      refine ⟨_, rfl, rfl, _, rfl, ?_⟩
      refine (show if decide (V.ref t = V.non) = true then _ else _ from ifNo (fun z => nomatch z) ?_)
      refine ⟨_, rfl, _, rfl, p, _, rfl, .inr hp1, ns.length, ?_, by omega, fun u H2 nu k2 h2 => ?_⟩
      · rw [List.length_map]
      have kk2 := k1.trans k2
      refine ⟨p, u, ns, upto ns.length, rfl, kk2.tup0 hp, sqL h2, by rw [upto_len]; omega, fun i hi => upto_mem.mp hi, hT.ext fun b o e => kk2.at0 e, fun l H3 ms k3 nl h3 pm sm => ?_⟩
      have ht3 := k3.tup0 (k2.tup0 ht)
      refine ⟨_, rfl, _, rfl, t, [(kk : Int), SS ns kk, R g kk], _, rfl, rfl, ht3, ⟨by decide, show (0 : Int) < ((3 : Nat) : Int) by decide⟩, _, rfl, l, ms, _, rfl, rfl, rfl, sqL h3, show (0 : Int) ≤ (kk : Int) by omega, fun s4 H4 n4 k4 h4 => ?_⟩
      have h4 : H4 s4 = some (.lst ((ms.take ((kk : Int)).toNat).map V.int)) := h4
      rw [show ((kk : Int)).toNat = kk by omega] at h4
      refine ⟨s4, ms.take kk, rfl, sqL h4, fun W pW sW s5 H5 n5 k5 h5 => ?_⟩
      refine ⟨s5, _, rfl, sqL h5, fun s6 H6 n6 k6 h6 => ?_⟩
      have kt : Kt T H H6 := ((kk2.kt (T := T)).trans k3).kp ((k4.trans k5).trans k6)
      refine w1 kk eg s6 H6 W kt (sqT h6) ⟨perm_lt pW ?_ sW, ms, pm, sm, pW⟩
      have hnd : ms.Pairwise (· ≠ ·) := (pm.pairwise_iff (fun h => Ne.symm h)).mpr ((upto_nodup ns.length).imp fun {a b} h => by omega)
      exact hnd.sublist (List.take_sublist _ _)
/-! ### balances after a demand and a grant, by the law -/
/-! ### best_grant, good_grants -/
/-! ### what a grant to a smallest balance does -/
theorem perm_split {l l' m : List Int} {x : Int} (p : (l ++ l').Perm (x :: m)) : (∃ l0, l.Perm (x :: l0) ∧ (l0 ++ l').Perm m) ∨ (∃ l0, l'.Perm (x :: l0) ∧ (l ++ l0).Perm m) := by
  have hx : x ∈ l ++ l' := p.mem_iff.mpr List.mem_cons_self
  rcases List.mem_append.mp hx with h | h
  · refine .inl ⟨l.erase x, List.perm_cons_erase h, ?_⟩
    have h1 : (l ++ l').Perm (x :: (l.erase x ++ l')) := (List.perm_cons_erase h).append_right l'
    exact (h1.symm.trans p).cons_inv
  · refine .inr ⟨l'.erase x, List.perm_cons_erase h, ?_⟩
    have h1 : (l ++ l').Perm (l ++ x :: l'.erase x) := (List.perm_cons_erase h).append_left l
    exact ((h1.trans List.perm_middle).symm.trans p).cons_inv
theorem set_perm : ∀ (ns : List Int) (i : Nat) (v : Int), i < ns.length → (ns.set i v).Perm (v :: ns.eraseIdx i)
  | [], _, _, h => absurd h (Nat.not_lt_zero _)
  | x :: r, 0, _, _ => .refl _
  | x :: r, i + 1, v, h => by
    show (x :: r.set i v).Perm (v :: x :: r.eraseIdx i)
    exact ((set_perm r i v (by simpa using h)).cons x).trans (.swap _ _ _)
theorem sum_nn : ∀ (l : List Int), (∀ x ∈ l, 0 ≤ x) → 0 ≤ l.sum
  | [], _ => Int.le_refl _
  | x :: r, h => by
    have := sum_nn r (fun y hy => h y (List.mem_cons_of_mem _ hy))
    have hx := h x List.mem_cons_self
    rw [List.sum_cons]
    omega
/-! ### safe balances, raised one credit or two at a time -/
theorem R_up {g : Int} (hg : 1 ≤ g) : ∀ (i j : Nat), i ≤ j → R g i ≤ R g j
  | i, j, h => by
    induction j with
    | zero =>
      have : i = 0 := by omega
      subst this
      exact Int.le_refl _
    | succ j ih =>
      by_cases e : i = j + 1
      · subst e
        exact Int.le_refl _
      · have h1 := ih (by omega)
        have h2 := R_mono hg 0 j (by omega)
        rw [R_one, R_zero] at h2
        omega
/-! ### the least balance beside others -/
theorem safe_cons {g x : Int} {ns : List Int} : gapOf g (x :: ns) = none ↔ gapOf g ns = none ∧ ∀ k, k ≤ ns.length → R g (k + 1) ≤ SS ns k + x := by
  constructor
  · intro h
    have h := gap_none.mp h
    refine ⟨gap_none.mpr fun k h1 h2 => ?_, fun k hk => ?_⟩
    · obtain ⟨l, l', p, e, s⟩ := SS_is ns k h2
      have q : (l ++ (x :: l')).Perm (x :: ns) := List.perm_middle.trans (p.cons x)
      have := SS_min q
      have := h k h1 (by rw [List.length_cons]; omega)
      rw [e] at *
      omega
    · obtain ⟨l, l', p, e, s⟩ := SS_is ns k hk
      have q : ((x :: l) ++ l').Perm (x :: ns) := p.cons x
      have h3 := SS_min q
      have h4 := h (k + 1) (by omega) (by rw [List.length_cons]; omega)
      rw [List.length_cons, e, List.sum_cons, s] at h3
      omega
  · rintro ⟨h, hk⟩
    have h := gap_none.mp h
    refine gap_none.mpr fun k h1 h2 => ?_
    obtain ⟨l, l', p, e, s⟩ := SS_is (x :: ns) k h2
    rw [← s]
    rcases perm_split p with ⟨l0, p1, p2⟩ | ⟨l0, p1, p2⟩
    · have e1 := p1.length_eq
      rw [List.length_cons] at e1
      have h3 := SS_min p2
      have h4 := hk l0.length (by rw [← p2.length_eq, List.length_append]; omega)
      rw [perm_sum p1, List.sum_cons]
      rw [show l0.length + 1 = k by omega] at h4
      omega
    · have h3 := SS_min p2
      have h4 := h k h1 (by rw [← p2.length_eq, List.length_append]; omega)
      rw [e] at h3
      omega
def IsLB (g : Int) (ns : List Int) (m : Int) : Prop := (∀ k, k ≤ ns.length → R g (k + 1) ≤ SS ns k + m) ∧ ∃ k, k ≤ ns.length ∧ R g (k + 1) = SS ns k + m
theorem IsLB.safe {g m x : Int} {ns : List Int} (h : IsLB g ns m) (e : gapOf g ns = none) : gapOf g (x :: ns) = none ↔ m ≤ x := by
  rw [safe_cons]
  constructor
  · rintro ⟨_, h2⟩
    obtain ⟨k, hk, ek⟩ := h.2
    have := h2 k hk
    omega
  · intro hx
    refine ⟨e, fun k hk => ?_⟩
    have := h.1 k hk
    omega
theorem SS_zero (ns : List Int) : SS ns 0 = 0 := rfl
theorem IsLB.ge {g m : Int} {ns : List Int} (h : IsLB g ns m) : g ≤ m := by
  have := h.1 0 (Nat.zero_le _)
  rw [SS_zero, R_one] at this
  omega
theorem IsLB.congr {g m : Int} {ns ms : List Int} (h : IsLB g ns m) (p : ns.Perm ms) : IsLB g ms m := by
  refine ⟨fun k hk => ?_, ?_⟩
  · rw [← SS_congr p]
    exact h.1 k (by rw [p.length_eq]; exact hk)
  · obtain ⟨k, hk, ek⟩ := h.2
    exact ⟨k, by rw [← p.length_eq]; exact hk, by rw [← SS_congr p]; exact ek⟩
theorem SS_nn {ns : List Int} (h : ∀ x ∈ ns, 0 ≤ x) (k : Nat) : 0 ≤ SS ns k :=
  sum_nn _ fun x hx => h x ((srt_perm ns).mem_iff.mp (List.mem_of_mem_take hx))
theorem IsLB.le {g m : Int} {ns : List Int} (h : IsLB g ns m) (hg : 1 ≤ g) (hn : ∀ x ∈ ns, 0 ≤ x) : m ≤ R g (ns.length + 1) := by
  obtain ⟨k, hk, ek⟩ := h.2
  have := SS_nn hn k
  have := R_up hg (k + 1) (ns.length + 1) (by omega)
  omega
theorem SS_all (ns : List Int) : SS ns ns.length = ns.sum := by
  unfold SS
  rw [List.take_of_length_le (by rw [srt_len]; exact Nat.le_refl _)]
  exact perm_sum (srt_perm ns)
/-- what a set without one sender leaves: the least balance is above what the others lack -/
theorem IsLB.all {g m : Int} {ns : List Int} (h : IsLB g ns m) : R g (ns.length + 1) ≤ ns.sum + m := by
  have := h.1 ns.length (Nat.le_refl _)
  rw [SS_all] at this
  exact this
theorem IsLB.set {g m v : Int} {ns : List Int} {i : Nat} (hi : i < ns.length) (h : IsLB g (ns.eraseIdx i) m) (e : gapOf g (ns.eraseIdx i) = none) : gapOf g (ns.set i v) = none ↔ m ≤ v := by
  rw [gap_congr (set_perm ns i v hi)]
  exact h.safe e
/-! ### told -/
/-- a class and its __init__, told -/
def Told (P : Program) (w : World) (K : PySem.W.Frag) (mg : Str → Option Value) (base : Heap) (x : Str) (C : Addr) : Prop := ∃ (fI : Addr) (fd : FuncData), ValC K mg x C fI fd ∧ FnOk P w K mg base CX0 1 fI fd ["self", "value"] (sp_init C)
/-! ### parts of anything -/
/-! ### amounts, balances and demands, of anything -/
def sp_is_amount (K : PySem.W.Frag) : Sp := fun vs H Q _ => ∃ v : V, vs = [v] ∧ Kn K H v ∧ Q (.bl (btw v 0 1000000000000)) H
theorem ok_is_amount {f : Addr} {fd : FuncData} {k : Nat} (F : Fun K "is_amount" "is_amount" s_is_amount f fd) {tk : Tok} (mg_MOST_CREDITS : mg "MOST_CREDITS" = some (.int 1000000000000 tk))
    (C_is_between : Cl P w K mg base CX0 2 "is_between" 3 (sp_is_between K)) :
    FnG P w K mg base CX0 (k + 3) f fd ["thing"] (sp_is_amount K) := by
  refine ok0 F sc_is_amount (fun vs H Q E h => ?_) (fun cdv A outer s H vs Q E gd hr h => ?_)
  · obtain ⟨v, rfl, _⟩ := h
    rfl
  · obtain ⟨v, rfl, kn, q⟩ := h
    exact ⟨_, (pss_one (ps_ret (pe_cl C_is_between (hr.mono (by omega)) gd pass0 (by rfl) (pa_cons (pv 0) (pa_cons pe_int (pa_cons (pe_glob (v := .int 1000000000000) rfl mg_MOST_CREDITS ⟨_, rfl⟩) pa_nil)))))), ⟨_, rfl, v, 0, 1000000000000, rfl, kn, q⟩⟩
/-! ### links, pure -/
def lexL : List Nat → List Nat → Bool
  | [], _ => true
  | _ :: _, [] => false
  | a :: r, b :: t => decide (a < b) || (decide (a = b) && lexL r t)
theorem lexL_lt : ∀ a b : List Nat, lexL a b = !ltCps b a
  | [], [] => rfl
  | [], _ :: _ => rfl
  | _ :: _, [] => rfl
  | a :: r, b :: t => by
    unfold lexL ltCps
    rw [lexL_lt r t]
    rcases Nat.lt_trichotomy a b with h | h | h
    · simp [h, show ¬ b < a by omega, show ¬ b = a by omega, show ¬ (a = b) by omega]
    · subst h
      simp
    · simp [h, show ¬ a < b by omega, show ¬ a = b by omega]
theorem lexL_refl : ∀ a : List Nat, lexL a a = true
  | [] => rfl
  | a :: r => by simp [lexL, lexL_refl r]
theorem lexL_trans : ∀ a b c : List Nat, lexL a b = true → lexL b c = true → lexL a c = true
  | [], _, _, _, _ => rfl
  | _ :: _, [], _, h, _ => by cases h
  | _ :: _, _ :: _, [], _, h => by cases h
  | a :: r, b :: t, c :: u, h1, h2 => by
    simp only [lexL, Bool.or_eq_true, Bool.and_eq_true, decide_eq_true_eq] at h1 h2 ⊢
    rcases h1 with h1 | ⟨h1, h1'⟩ <;> rcases h2 with h2 | ⟨h2, h2'⟩
    · left; omega
    · left; omega
    · left; omega
    · right; exact ⟨by omega, lexL_trans r t u h1' h2'⟩
theorem lexL_total : ∀ a b : List Nat, (lexL a b || lexL b a) = true
  | [], _ => rfl
  | _ :: _, [] => rfl
  | a :: r, b :: t => by
    have := lexL_total r t
    simp only [lexL, Bool.or_eq_true, Bool.and_eq_true, decide_eq_true_eq] at this ⊢
    rcases Nat.lt_trichotomy a b with h | h | h
    · left; left; exact h
    · rcases this with z | z
      · left; right; exact ⟨h, z⟩
      · right; right; exact ⟨h.symm, z⟩
    · right; left; exact h
theorem lexL_anti : ∀ a b : List Nat, lexL a b = true → lexL b a = true → a = b
  | [], [], _, _ => rfl
  | [], _ :: _, _, h => by cases h
  | _ :: _, [], h, _ => by cases h
  | a :: r, b :: t, h1, h2 => by
    simp only [lexL, Bool.or_eq_true, Bool.and_eq_true, decide_eq_true_eq] at h1 h2
    rcases h1 with h1 | ⟨h1, h1'⟩
    · rcases h2 with h2 | ⟨h2, _⟩ <;> omega
    · rcases h2 with h2 | ⟨h2, h2'⟩
      · omega
      · rw [h1, lexL_anti r t h1' h2']
def leS (a b : Str) : Bool := lexL a.cps.toList b.cps.toList
theorem leS_trans (a b c : Str) (h1 : leS a b = true) (h2 : leS b c = true) : leS a c = true := lexL_trans _ _ _ h1 h2
theorem leS_total (a b : Str) : (leS a b || leS b a) = true := lexL_total _ _
theorem leS_anti (a b : Str) (h1 : leS a b = true) (h2 : leS b a = true) : a = b := by
  have := lexL_anti _ _ h1 h2
  cases a with
  | mk x => cases b with
    | mk y => rw [show x = y from Array.toList_inj.mp this]
theorem leS_refl (a : Str) : leS a a = true := lexL_refl _
theorem ltCps_leS (a b : Str) : ltCps a.cps.toList b.cps.toList = !leS b a := by
  unfold leS
  rw [lexL_lt, Bool.not_not]
def srtN (l : List Str) : List Str := l.mergeSort leS
theorem srtN_perm (l : List Str) : (srtN l).Perm l := List.mergeSort_perm _ _
theorem srtN_sorted (l : List Str) : (srtN l).Pairwise (fun a b => leS a b = true) := List.pairwise_mergeSort leS_trans leS_total l
theorem srtN_eq {l m : List Str} (p : m.Perm l) (s : m.Pairwise (fun a b => leS a b = true)) : m = srtN l :=
  List.Perm.eq_of_pairwise (fun a b _ _ h1 h2 => leS_anti a b h1 h2) s (srtN_sorted l) (p.trans (srtN_perm l).symm)
theorem risingS_pw : ∀ (l : List Str) (p : Str), risingS p l = true → (p :: l).Pairwise (fun a b => leS a b = true)
  | [], _, _ => List.pairwise_singleton _ _
  | x :: r, p, h => by
    unfold risingS at h
    rw [Bool.and_eq_true] at h
    have hx : leS p x = true := by
      have := h.1
      rw [ltCps_leS, Bool.not_not] at this
      exact this
    have hr := risingS_pw r x h.2
    refine List.pairwise_cons.mpr ⟨fun y hy => ?_, hr⟩
    rcases List.mem_cons.mp hy with e | hy
    · rw [e]; exact hx
    · exact leS_trans _ _ _ hx ((List.pairwise_cons.mp hr).1 y hy)
theorem sortedS_pw {l : List Str} (h : sortedS l = true) : l.Pairwise (fun a b => leS a b = true) := by
  cases l with
  | nil => exact .nil
  | cons x r => exact risingS_pw r x h
theorem srtN_of {l m : List Str} (p : m.Perm l) (s : sortedS m = true) : m = srtN l := srtN_eq p (sortedS_pw s)
theorem srtN_len (l : List Str) : (srtN l).length = l.length := (srtN_perm l).length_eq
/-! ### tables -/
abbrev Tab := List (Str × Int)
def tk (t : Tab) : List (L2.Key × V) := t.map fun p => (Sum.inr p.1, V.int p.2)
def keysT (t : Tab) : List Str := t.map (·.1)
def valsT (t : Tab) : List Int := t.map (·.2)
def tget (t : Tab) (n : Str) : Option Int := (t.find? fun p => decide (p.1 = n)).map (·.2)
def tval (t : Tab) (n : Str) : Int := (tget t n).getD 0
def tput (t : Tab) (n : Str) (b : Int) : Tab := if (t.any fun p => decide (p.1 = n)) = true then t.map (fun p => if p.1 = n then (p.1, b) else p) else t ++ [(n, b)]
theorem tk_len (t : Tab) : (tk t).length = t.length := List.length_map _
theorem inr_dec (a b : Str) : decide ((Sum.inr a : L2.Key) = Sum.inr b) = decide (a = b) := decide_eq_decide.mpr ⟨fun h => Sum.inr.inj h, fun h => by rw [h]⟩
theorem tk_val : ∀ (t : Tab) (n : Str), valV (tk t) (Sum.inr n) = (tget t n).map V.int
  | [], _ => rfl
  | (a, b) :: r, n => by
    by_cases e : a = n
    · rw [show tk ((a, b) :: r) = (Sum.inr a, V.int b) :: tk r from rfl, valV_pos (show (Sum.inr a : L2.Key) = Sum.inr n by rw [e])]
      simp [tget, e]
    · rw [show tk ((a, b) :: r) = (Sum.inr a, V.int b) :: tk r from rfl, valV_neg (fun z => e (Sum.inr.inj z)), tk_val r n]
      simp [tget, e]
theorem tk_any (t : Tab) (n : Str) : ((tk t).any fun kv => decide (kv.1 = Sum.inr n)) = t.any fun p => decide (p.1 = n) := by
  unfold tk
  rw [List.any_map]
  exact congrArg (fun f => t.any f) (funext fun p => inr_dec p.1 n)
theorem tk_put (t : Tab) (n : Str) (b : Int) : putK (tk t) (Sum.inr n) (V.int b) = tk (tput t n b) := by
  unfold putK tput
  rw [tk_any]
  split
  · unfold tk
    rw [List.map_map, List.map_map]
    refine List.map_congr_left fun p _ => ?_
    show (if (Sum.inr p.1 : L2.Key) = Sum.inr n then _ else _) = _
    by_cases e : p.1 = n
    · rw [if_pos (by rw [e])]
      simp [e]
    · rw [if_neg (fun z => e (Sum.inr.inj z))]
      simp [e]
  · unfold tk
    rw [List.map_append]
    rfl
theorem tget_key {t : Tab} {n : Str} : (tget t n).isSome = true ↔ n ∈ keysT t := by
  unfold tget keysT
  rw [Option.isSome_map, List.find?_isSome, List.mem_map]
  constructor
  · rintro ⟨p, hp, e⟩
    exact ⟨p, hp, of_decide_eq_true e⟩
  · rintro ⟨p, hp, e⟩
    exact ⟨p, hp, decide_eq_true e⟩
theorem tget_of {t : Tab} (nd : (keysT t).Nodup) : ∀ {n : Str} {b : Int}, (n, b) ∈ t → tget t n = some b := by
  induction t with
  | nil => intro n b h; cases h
  | cons p r ih =>
    intro n b h
    have nd' := List.nodup_cons.mp nd
    unfold tget
    rcases List.mem_cons.mp h with e | h
    · rw [← e]
      simp
    · have hne : ¬ p.1 = n := fun e => nd'.1 (List.mem_map.mpr ⟨(n, b), h, e.symm⟩)
      rw [List.find?_cons, decide_eq_false hne]
      exact ih nd'.2 h
theorem tget_none {t : Tab} {n : Str} : tget t n = none ↔ n ∉ keysT t := by
  rw [← tget_key]
  cases tget t n <;> simp
theorem any_key {t : Tab} {n : Str} : (t.any fun p => decide (p.1 = n)) = decide (n ∈ keysT t) := by
  rw [Bool.eq_iff_iff, List.any_eq_true, decide_eq_true_eq]
  unfold keysT
  rw [List.mem_map]
  exact ⟨fun ⟨p, hp, e⟩ => ⟨p, hp, of_decide_eq_true e⟩, fun ⟨p, hp, e⟩ => ⟨p, hp, decide_eq_true e⟩⟩
theorem tput_new {t : Tab} {n : Str} (b : Int) (h : n ∉ keysT t) : tput t n b = t ++ [(n, b)] := by
  unfold tput
  rw [any_key, decide_eq_false h]
  rfl
theorem tput_old {t : Tab} {n : Str} (b : Int) (h : n ∈ keysT t) : tput t n b = t.map (fun p => if p.1 = n then (p.1, b) else p) := by
  unfold tput
  rw [any_key, decide_eq_true h]
  rfl
theorem tput_keys {t : Tab} {n : Str} (b : Int) (h : n ∈ keysT t) : keysT (tput t n b) = keysT t := by
  rw [tput_old b h]
  unfold keysT
  rw [List.map_map]
  refine List.map_congr_left fun p _ => ?_
  show (if p.1 = n then (p.1, b) else p).1 = p.1
  split <;> rfl
theorem tput_len {t : Tab} {n : Str} (b : Int) (h : n ∈ keysT t) : (tput t n b).length = t.length := by
  rw [tput_old b h, List.length_map]
theorem tput_nd {t : Tab} {n : Str} (b : Int) (nd : (keysT t).Nodup) : (keysT (tput t n b)).Nodup := by
  by_cases h : n ∈ keysT t
  · rw [tput_keys b h]; exact nd
  · rw [tput_new b h]
    unfold keysT
    rw [List.map_append]
    exact nd_snoc nd h
/-- the values by ascending names -/
def nsT (t : Tab) : List Str := srtN (keysT t)
def vsT (t : Tab) : List Int := (nsT t).map (tval t)
theorem vals_get {t : Tab} (nd : (keysT t).Nodup) : valsT t = (keysT t).map (tval t) := by
  unfold valsT keysT
  rw [List.map_map]
  refine List.map_congr_left fun p hp => ?_
  show p.2 = tval t p.1
  unfold tval
  rw [tget_of nd (show (p.1, p.2) ∈ t from hp)]
  rfl
theorem vsT_perm {t : Tab} (nd : (keysT t).Nodup) : (vsT t).Perm (valsT t) := by
  rw [vals_get nd]
  exact (srtN_perm _).map _
/-- the names with their balances, in ascending order of (balance, name) -/
def pLe (p q : Int × Str) : Bool := decide (p.1 < q.1) || (decide (p.1 = q.1) && leS p.2 q.2)
theorem pLe_trans (a b c : Int × Str) (h1 : pLe a b = true) (h2 : pLe b c = true) : pLe a c = true := by
  simp only [pLe, Bool.or_eq_true, Bool.and_eq_true, decide_eq_true_eq] at h1 h2 ⊢
  rcases h1 with h1 | ⟨h1, h1'⟩ <;> rcases h2 with h2 | ⟨h2, h2'⟩
  · left; omega
  · left; omega
  · left; omega
  · right; exact ⟨by omega, leS_trans _ _ _ h1' h2'⟩
theorem pLe_total (a b : Int × Str) : (pLe a b || pLe b a) = true := by
  have := leS_total a.2 b.2
  simp only [pLe, Bool.or_eq_true, Bool.and_eq_true, decide_eq_true_eq] at this ⊢
  rcases Int.lt_trichotomy a.1 b.1 with h | h | h
  · left; left; exact h
  · rcases this with z | z
    · left; right; exact ⟨h, z⟩
    · right; right; exact ⟨h.symm, z⟩
  · right; left; exact h
theorem pLe_anti (a b : Int × Str) (h1 : pLe a b = true) (h2 : pLe b a = true) : a = b := by
  simp only [pLe, Bool.or_eq_true, Bool.and_eq_true, decide_eq_true_eq] at h1 h2
  rcases h1 with h1 | ⟨h1, h1'⟩
  · rcases h2 with h2 | ⟨h2, _⟩ <;> omega
  · rcases h2 with h2 | ⟨h2, h2'⟩
    · omega
    · exact Prod.ext h1 (leS_anti _ _ h1' h2')
def ordP (t : Tab) : List (Int × Str) := (t.map fun p => (p.2, p.1)).mergeSort pLe
theorem ordP_perm (t : Tab) : (ordP t).Perm (t.map fun p => (p.2, p.1)) := List.mergeSort_perm _ _
theorem ordP_sorted (t : Tab) : (ordP t).Pairwise (fun a b => pLe a b = true) := List.pairwise_mergeSort pLe_trans pLe_total _
theorem ordP_eq {t : Tab} {m : List (Int × Str)} (p : m.Perm (t.map fun p => (p.2, p.1))) (s : m.Pairwise (fun a b => pLe a b = true)) : m = ordP t :=
  List.Perm.eq_of_pairwise (fun a b _ _ h1 h2 => pLe_anti a b h1 h2) s (ordP_sorted t) (p.trans (ordP_perm t).symm)
/-- the first weak set of named balances -/
def weakN (g : Int) (t : Tab) : Option (List Str) := (gapOf g (valsT t)).map fun k => srtN (((ordP t).take k).map (·.2))
/-! ### named balances and their indexes -/
def nmAt (t : Tab) (i : Int) : Str := (nsT t).getD i.toNat default
theorem nsT_len (t : Tab) : (nsT t).length = t.length := by
  unfold nsT keysT
  rw [srtN_len, List.length_map]
theorem vsT_len (t : Tab) : (vsT t).length = t.length := by
  unfold vsT
  rw [List.length_map, nsT_len]
theorem vsT_at {t : Tab} {i : Nat} (h : i < t.length) : (vsT t).getD i 0 = tval t ((nsT t).getD i default) := by
  have h1 : i < (nsT t).length := by rw [nsT_len]; exact h
  unfold vsT
  rw [List.getD_eq_getElem?_getD, List.getD_eq_getElem?_getD, List.getElem?_map, List.getElem?_eq_getElem h1]
  rfl
theorem pairs_perm {t : Tab} (nd : (keysT t).Nodup) : ((nsT t).map fun n => (tval t n, n)).Perm (t.map fun p => (p.2, p.1)) := by
  have h : (t.map fun p => (p.2, p.1)) = (keysT t).map fun n => (tval t n, n) := by
    unfold keysT
    rw [List.map_map]
    refine List.map_congr_left fun p hp => ?_
    show (p.2, p.1) = (tval t p.1, p.1)
    unfold tval
    rw [tget_of nd (show (p.1, p.2) ∈ t from hp)]
    rfl
  rw [h]
  exact (srtN_perm _).map _
theorem ns_ge {t : Tab} {i j : Nat} (hij : i ≤ j) (hj : j < t.length) : leS ((nsT t).getD i default) ((nsT t).getD j default) = true := by
  have hl := nsT_len t
  have hi : i < (nsT t).length := by omega
  have hj' : j < (nsT t).length := by omega
  rw [List.getD_eq_getElem?_getD, List.getD_eq_getElem?_getD, List.getElem?_eq_getElem hi, List.getElem?_eq_getElem hj']
  show leS (nsT t)[i] (nsT t)[j] = true
  rcases Nat.lt_or_eq_of_le hij with h | h
  · exact List.pairwise_iff_getElem.mp (srtN_sorted (keysT t)) i j hi hj' h
  · subst h
    exact leS_refl _
theorem ns_in {t : Tab} {i : Nat} (h : i < t.length) : (nsT t).getD i default ∈ keysT t := by
  have hi : i < (nsT t).length := by rw [nsT_len]; exact h
  rw [List.getD_eq_getElem?_getD, List.getElem?_eq_getElem hi]
  exact (srtN_perm _).mem_iff.mp (List.getElem_mem hi)
theorem idx_pairs {t : Tab} {ms : List Int} (nd : (keysT t).Nodup) (pm : ms.Perm (upto t.length)) (sm : ms.Pairwise (KLe (byBal (vsT t)))) :
    (ms.map fun i => ((vsT t).getD i.toNat 0, nmAt t i)) = ordP t := by
  have hin : ∀ i ∈ ms, 0 ≤ i ∧ i < (t.length : Int) := fun i hi => upto_mem.mp (pm.mem_iff.mp hi)
  refine ordP_eq ?_ ?_
  · refine (pm.map _).trans (List.Perm.trans (List.Perm.of_eq ?_) (pairs_perm nd))
    unfold upto
    rw [List.map_map]
    refine List.ext_getElem? fun k => ?_
    rw [List.getElem?_map, List.getElem?_map]
    rcases Nat.lt_or_ge k t.length with h | h
    · have h1 : k < (nsT t).length := by rw [nsT_len]; exact h
      rw [List.getElem?_range h, List.getElem?_eq_getElem h1]
      show some ((vsT t).getD ((k : Int)).toNat 0, nmAt t (k : Int)) = some (tval t (nsT t)[k], (nsT t)[k])
      unfold nmAt
      rw [show ((k : Int)).toNat = k by omega, vsT_at h, List.getD_eq_getElem?_getD, List.getElem?_eq_getElem h1]
      rfl
    · rw [List.getElem?_eq_none (by rw [List.length_range]; exact h), List.getElem?_eq_none (by rw [nsT_len]; exact h)]
      rfl
  · rw [List.pairwise_map]
    refine (List.Pairwise.and_mem.mp sm).imp fun {a b} z => ?_
    obtain ⟨ha, hb, z⟩ := z
    have ha := hin a ha
    have hb := hin b hb
    simp only [pLe, Bool.or_eq_true, Bool.and_eq_true, decide_eq_true_eq]
    have z' : (vsT t).getD a.toNat 0 < (vsT t).getD b.toNat 0 ∨ (vsT t).getD a.toNat 0 = (vsT t).getD b.toNat 0 ∧ a ≤ b := by
      unfold KLe byBal at z
      simpa using z
    rcases z' with z | ⟨z, w⟩
    · left; exact z
    · right
      exact ⟨z, ns_ge (by omega) (by omega)⟩
theorem weak_nm {t : Tab} {k : Nat} {W : List Int} (nd : (keysT t).Nodup) (h : IsWeak (vsT t) k W) : W.map (nmAt t) = srtN (((ordP t).take k).map (·.2)) := by
  obtain ⟨sW, ms, pm, sm, pW⟩ := h
  rw [vsT_len] at pm
  have hin : ∀ i ∈ W, 0 ≤ i ∧ i < (t.length : Int) := fun i hi => upto_mem.mp (pm.mem_iff.mp (List.mem_of_mem_take (pW.mem_iff.mp hi)))
  refine srtN_eq ?_ ?_
  · rw [← idx_pairs nd pm sm, ← List.map_take, List.map_map]
    exact pW.map _
  · rw [List.pairwise_map]
    refine (List.Pairwise.and_mem.mp sW).imp fun {a b} z => ?_
    obtain ⟨ha, hb, z⟩ := z
    have ha := hin a ha
    have hb := hin b hb
    exact ns_ge (by omega) (by omega)
/-! ### what the calls of a link do -/
structure LkS where
  b : Int
  t : Tab
  past : List (Int × Tab)
inductive Ex where
  | name | taken | unknown | amount | budget | spends | over | refused | full | undo
inductive Out where
  | ok (r : PyData) (s : LkS)
  | bad (x : Ex) (v : PyData)
def lettersS : Str := "abcdefghijklmnopqrstuvwxyz"
def isNm (s : Str) : Bool := decide (1 ≤ s.length ∧ s.length ≤ 8) && s.cps.toList.all fun c => decide (c ∈ lettersS.cps.toList)
def nameD : PyData → Option Str
  | .str s => if isNm s = true then some s else none
  | _ => none
def intIn (lo hi : Int) : PyData → Option Int
  | .int a => if lo ≤ a ∧ a ≤ hi then some a else none
  | _ => none
def amtD (d : PyData) : Option Int := intIn 0 1000000000000 d
def budD (d : PyData) : Option Int := intIn 1 1000000 d
def knownD (t : Tab) (d : PyData) : Option Str := (nameD d).bind fun n => if n ∈ keysT t then some n else none
def keepF (s : LkS) (b : Int) (t : Tab) (r : PyData) : Out := .ok r ⟨b, t, s.past ++ [(s.b, s.t)]⟩
def changeF (s : LkS) (b : Int) (t : Tab) (r : PyData) : Out :=
  match weakN b t with
  | some W => .bad .refused (.tuple (W.map .str))
  | none => keepF s b t r
def enterF (s : LkS) (dn db : PyData) : Out :=
  match nameD dn with
  | none => .bad .name dn
  | some n => if n ∈ keysT s.t then .bad .taken dn else
    match amtD db with
    | none => .bad .amount db
    | some a => if 40 ≤ s.t.length then .bad .full .none else changeF s s.b (tput s.t n a) .none
/-! ### good links -/
structure GoodT (b : Int) (t : Tab) : Prop where
  b1 : 1 ≤ b
  b2 : b ≤ 1000000
  len : t.length ≤ 40
  nd : (keysT t).Nodup
  nm : ∀ n ∈ keysT t, isNm n = true
  safe : gapOf b (valsT t) = none
structure Good (s : LkS) : Prop where
  now : GoodT s.b s.t
  old : ∀ p ∈ s.past, GoodT p.1 p.2
theorem weakN_none {b : Int} {t : Tab} : weakN b t = none ↔ gapOf b (valsT t) = none := by
  unfold weakN
  rw [Option.map_eq_none_iff]
theorem GoodT.of {b b' : Int} {t t' : Tab} (h : GoodT b t) (b1 : 1 ≤ b') (b2 : b' ≤ 1000000) (len : t'.length ≤ 40) (nd : (keysT t').Nodup) (nm : ∀ n ∈ keysT t', n ∈ keysT t ∨ isNm n = true) (w : weakN b' t' = none) : GoodT b' t' :=
  ⟨b1, b2, len, nd, fun n hn => (nm n hn).elim (h.nm n) id, weakN_none.mp w⟩
theorem knownD_in {t : Tab} {d : PyData} {n : Str} (h : knownD t d = some n) : n ∈ keysT t ∧ d = .str n := by
  unfold knownD at h
  cases e : nameD d with
  | none => rw [e] at h; cases h
  | some m =>
    rw [e] at h
    replace h : (if m ∈ keysT t then some m else none) = some n := h
    by_cases hm : m ∈ keysT t
    · rw [if_pos hm] at h
      cases h
      refine ⟨hm, ?_⟩
      cases d with
      | str s =>
        replace e : (if isNm s = true then some s else none) = some n := e
        by_cases hs : isNm s = true
        · rw [if_pos hs] at e
          cases e
          rfl
        · rw [if_neg hs] at e
          cases e
      | _ => cases e
    · rw [if_neg hm] at h
      cases h
/-! #### a sender leaves, a balance grows -/
/-! #### ticks -/
theorem gap_nil (b : Int) : gapOf b [] = none := by
  unfold gapOf srt
  rw [List.mergeSort_nil]
  rfl
/-! ### links in the heap -/
theorem tk_keys (t : Tab) : (tk t).map (·.1) = (keysT t).map Sum.inr := by
  unfold tk keysT
  rw [List.map_map, List.map_map]
  rfl
/-- what the fields of a link hold -/
def lkF (b : Int) (d q : Addr) : List (Str × V) := [("budget", .int b), ("balances", .ref d), ("past", .ref q)]
theorem ne_bb : ¬ (("budget" : Str) = "balances") := by decide +kernel
theorem ne_bp : ¬ (("budget" : Str) = "past") := by decide +kernel
theorem ne_ap : ¬ (("balances" : Str) = "past") := by decide +kernel
theorem lkF_b (b : Int) (d q : Addr) : (lkF b d q).lookup ("budget" : Str) = some (.int b) := by
  unfold lkF
  rw [List.lookup_cons, beq_self_eq_true]
theorem lkF_d (b : Int) (d q : Addr) : (lkF b d q).lookup ("balances" : Str) = some (.ref d) := by
  unfold lkF
  rw [List.lookup_cons, beq_eq_false_iff_ne.mpr (fun z => ne_bb z.symm), List.lookup_cons, beq_self_eq_true]
theorem lkF_q (b : Int) (d q : Addr) : (lkF b d q).lookup ("past" : Str) = some (.ref q) := by
  unfold lkF
  rw [List.lookup_cons, beq_eq_false_iff_ne.mpr (fun z => ne_bp z.symm), List.lookup_cons, beq_eq_false_iff_ne.mpr (fun z => ne_ap z.symm), List.lookup_cons, beq_self_eq_true]
theorem lkF_no (b : Int) (d q : Addr) {m : Str} (h1 : ¬ m = "budget") (h2 : ¬ m = "balances") (h3 : ¬ m = "past") : (lkF b d q).lookup m = none := by
  unfold lkF
  rw [List.lookup_cons, beq_eq_false_iff_ne.mpr h1, List.lookup_cons, beq_eq_false_iff_ne.mpr h2, List.lookup_cons, beq_eq_false_iff_ne.mpr h3]
  rfl
theorem lkF_putB (b b' : Int) (d q : Addr) : putF "budget" (.int b') (lkF b d q) = lkF b' d q := by
  unfold lkF
  show (if ("budget" : Str) = "budget" then _ else _) = _
  rw [if_pos rfl]
theorem lkF_putD (b : Int) (d d' q : Addr) : putF "balances" (.ref d') (lkF b d q) = lkF b d' q := by
  unfold lkF
  show (if ("budget" : Str) = "balances" then _ else _ :: (if ("balances" : Str) = "balances" then _ else _)) = _
  rw [if_neg ne_bb, if_pos rfl]
theorem lkF_new (b : Int) (d q : Addr) : putF "past" (.ref q) (putF "balances" (.ref d) (putF "budget" (.int b) [])) = lkF b d q := by
  unfold lkF
  show putF "past" (.ref q) (if ("budget" : Str) = "balances" then _ else _ :: putF "balances" (.ref d) []) = _
  rw [if_neg ne_bb]
  show (if ("budget" : Str) = "past" then _ else _ :: (if ("balances" : Str) = "past" then _ else _ :: putF "past" (.ref q) [])) = _
  rw [if_neg ne_bp, if_neg ne_ap]
  rfl
/-- what is kept of a change -/
inductive PastL (H : Hp) : List V → List (Int × Tab) → Prop
  | nil : PastL H [] []
  | cons {u d : Addr} {b : Int} {t : Tab} {vs : List V} {ps : List (Int × Tab)} : H u = some (.tup [.int b, .ref d]) → H d = some (.dK (tk t)) → PastL H vs ps → PastL H (.ref u :: vs) ((b, t) :: ps)
theorem PastL.keep {H H' : Hp} (kt : ∀ p xs, H p = some (.tup xs) → H' p = some (.tup xs)) (kd : ∀ p t, H p = some (.dK (tk t)) → H' p = some (.dK (tk t))) : ∀ {vs : List V} {ps : List (Int × Tab)}, PastL H vs ps → PastL H' vs ps
  | _, _, .nil => .nil
  | _, _, .cons a b c => .cons (kt _ _ a) (kd _ _ b) (c.keep kt kd)
theorem PastL.len {H : Hp} : ∀ {vs : List V} {ps : List (Int × Tab)}, PastL H vs ps → vs.length = ps.length
  | _, _, .nil => rfl
  | _, _, .cons _ _ c => by rw [List.length_cons, List.length_cons, c.len]
theorem PastL.snoc {H : Hp} {u d : Addr} {b : Int} {t : Tab} (hu : H u = some (.tup [.int b, .ref d])) (hd : H d = some (.dK (tk t))) : ∀ {vs : List V} {ps : List (Int × Tab)}, PastL H vs ps → PastL H (vs ++ [.ref u]) (ps ++ [(b, t)])
  | _, _, .nil => .cons hu hd .nil
  | _, _, .cons x y c => .cons x y (c.snoc hu hd)
/-- a link stands at p, its list of changes at q -/
structure LkAt (C : Addr) (H : Hp) (p q : Addr) (s : LkS) : Prop where
  ob : ∃ dx d, H p = some (.ins C dx (lkF s.b d q)) ∧ H d = some (.dK (tk s.t))
  pa : ∃ vs, H q = some (.lst vs) ∧ PastL H vs s.past
theorem LkAt.keep {C : Addr} {H H' : Hp} {p q : Addr} {s : LkS} (h : LkAt C H p q s) (hp : ∀ o, H p = some o → (∀ ps, o ≠ .tbl ps) → H' p = some o) (hq : ∀ o, H q = some o → (∀ ps, o ≠ .tbl ps) → H' q = some o)
    (kt : ∀ p xs, H p = some (.tup xs) → H' p = some (.tup xs)) (kd : ∀ p t, H p = some (.dK (tk t)) → H' p = some (.dK (tk t))) : LkAt C H' p q s := by
  obtain ⟨⟨dx, d, h1, h2⟩, vs, h3, h4⟩ := h
  exact ⟨⟨dx, d, hp _ h1 (fun _ z => nomatch z), kd _ _ h2⟩, vs, hq _ h3 (fun _ z => nomatch z), h4.keep kt kd⟩
theorem LkAt.kt {T : List (Addr × Str)} {C : Addr} {H H' : Hp} {p q : Addr} {s : LkS} (h : LkAt C H p q s) (k : Kt T H H') : LkAt C H' p q s :=
  h.keep (fun o e n => k.ext _ _ e n) (fun o e n => k.ext _ _ e n) (fun p xs e => k.atT e) (fun p t e => k.ext _ _ e fun _ z => nomatch z)
theorem LkAt.kp {C : Addr} {H H' : Hp} {p q : Addr} {s : LkS} (h : LkAt C H p q s) (k : Kp [] H H') : LkAt C H' p q s := h.kt (T := []) k.kt
/-- the addresses of S hold no tuples, no tables -/
def NoTab (S : Addr → Prop) (H : Hp) : Prop := ∀ p, S p → (∀ xs, H p ≠ some (.tup xs)) ∧ ∀ t, H p ≠ some (.dK (tk t))
theorem LkAt.ks {T : List (Addr × Str)} {S : Addr → Prop} {C : Addr} {H H' : Hp} {p q : Addr} {s : LkS} (h : LkAt C H p q s) (k : Ks T S H H') (np : ¬ S p) (nq : ¬ S q) (n : NoTab S H) : LkAt C H' p q s :=
  h.keep (fun o e z => k.keep _ _ np e z) (fun o e z => k.keep _ _ nq e z) (fun p xs e => k.atT (fun w => (n p w).1 xs e) e) (fun p t e => k.atD (fun w => (n p w).2 t e) e)
/-- the two addresses that a link's changes write to -/
def Two (p q : Addr) : Addr → Prop := fun a => a = p ∨ a = q
theorem LkAt.two {C : Addr} {H : Hp} {p q : Addr} {s : LkS} (h : LkAt C H p q s) : ∀ a, Two p q a → (∀ xs o, H a ≠ some (.tup xs) ∧ H a ≠ some (.frz o (.tup xs)) ∧ H a ≠ some (.dT [])) ∧ ∀ kvs, H a ≠ some (.dK kvs) := by
  obtain ⟨⟨dx, d, h1, h2⟩, vs, h3, h4⟩ := h
  rintro a (rfl | rfl)
  · rw [h1]
    exact ⟨fun xs o => ⟨(fun z => nomatch z), (fun z => nomatch z), (fun z => nomatch z)⟩, fun kvs z => nomatch z⟩
  · rw [h3]
    exact ⟨fun xs o => ⟨(fun z => nomatch z), (fun z => nomatch z), (fun z => nomatch z)⟩, fun kvs z => nomatch z⟩
theorem LkAt.stay {T : List (Addr × Str)} {K : PySem.W.Frag} {N : Addr → Prop} {C : Addr} {H H' : Hp} {p q : Addr} {s : LkS} (h : LkAt C H p q s) (nq : N q) (k : Ks T (Two p q) H H') : Stay K N H H' :=
  k.stay (fun a z xs o => (h.two a z).1 xs o) fun a xs z e => by
    rcases z with rfl | rfl
    · obtain ⟨⟨dx, d, h1, h2⟩, _⟩ := h
      rw [h1] at e
      cases e
    · exact nq
theorem LkAt.ne {C : Addr} {H : Hp} {p q : Addr} {s : LkS} (h : LkAt C H p q s) : p ≠ q := by
  obtain ⟨⟨dx, d, h1, h2⟩, vs, h3, h4⟩ := h
  intro z
  rw [z, h3] at h1
  cases h1
/-! ### the addresses of the exceptions' classes -/
structure LkX where
  name : Addr
  taken : Addr
  unknown : Addr
  amount : Addr
  budget : Addr
  spends : Addr
  over : Addr
  refused : Addr
  full : Addr
  undo : Addr
def LkX.at_ (x : LkX) : Ex → Addr
  | .name => x.name | .taken => x.taken | .unknown => x.unknown | .amount => x.amount | .budget => x.budget | .spends => x.spends | .over => x.over | .refused => x.refused | .full => x.full | .undo => x.undo
/-- what is known of the class Link -/
structure LinkC (K : PySem.W.Frag) (C : Addr) : Prop where
  cls : Cls K C
  nb : NoAttr K C "budget"
  nd : NoAttr K C "balances"
  nq : NoAttr K C "past"
/-- how a call ends: with a result and a new state, or with an exception and its value -/
def OutP (K : PySem.W.Frag) (C : Addr) (T : List (Addr × Str)) (X : LkX) (N : Addr → Prop) (H : Hp) (p q : Addr) (o : Out) (Q : VK) (E : XK) : Prop :=
  match o with
  | .ok r s => ∀ v H', Ks T (Two p q) H H' → LkAt C H' p q s → Db K N H' v r → Q v H'
  | .bad .full _ => ∀ H', Kt T H H' → E (.ref X.full) none H'
  | .bad .undo _ => ∀ H', Kt T H H' → E (.ref X.undo) none H'
  | .bad x v => ∀ u d H', Kt T H H' → Db K N H' u v → H' d = none → E (.ref (X.at_ x)) (some d) (upd H' d (.xd [("value", u)]))
/-- a call of a link with n arguments, data -/
def sp_op (K : PySem.W.Frag) (C : Addr) (T : List (Addr × Str)) (X : LkX) (n : Nat) (f : LkS → List PyData → Out) : Sp := fun vs H Q E => ∃ (p q : Addr) (s : LkS) (N : Addr → Prop) (us : List V) (ds : List PyData),
  vs = .ref p :: us ∧ us.length = n ∧ LkAt C H p q s ∧ Good s ∧ s.past.length ≤ 10000 ∧ Tabs T H ∧ DbAll K N H us ds ∧ szA ds ≤ 1000000 ∧ N q ∧ OutP K C T X N H p q (f s ds) Q E
def op2 (f : LkS → PyData → PyData → Out) (s : LkS) : List PyData → Out
  | [a, b] => f s a b
  | _ => .bad .name .none
/-! ### the defs of links -/
theorem nameD_str (s : Str) : (nameD (.str s)).isSome = isNm s := by
  show (if isNm s = true then some s else none).isSome = isNm s
  cases isNm s <;> rfl
theorem isNm_len {s : Str} (h : isNm s = true) : s.length ≤ 8 := by
  unfold isNm at h
  rw [Bool.and_eq_true] at h
  exact (of_decide_eq_true h.1).2
def sp_is_budget (K : PySem.W.Frag) : Sp := fun vs H Q _ => ∃ v : V, vs = [v] ∧ Kn K H v ∧ Q (.bl (btw v 1 1000000)) H
theorem ok_is_budget {f : Addr} {fd : FuncData} {k : Nat} (F : Fun K "is_budget" "is_budget" s_is_budget f fd) {tk : Tok} (mg_MOST_BUDGET : mg "MOST_BUDGET" = some (.int 1000000 tk))
    (C_is_between : Cl P w K mg base CX0 2 "is_between" 3 (sp_is_between K)) :
    FnG P w K mg base CX0 (k + 3) f fd ["thing"] (sp_is_budget K) := by
  refine ok0 F sc_is_budget (fun vs H Q E h => ?_) (fun cdv A outer s H vs Q E gd hr h => ?_)
  · obtain ⟨v, rfl, _⟩ := h
    rfl
  · obtain ⟨v, rfl, kn, q⟩ := h
    exact ⟨_, (pss_one (ps_ret (pe_cl C_is_between (hr.mono (by omega)) gd pass0 (by rfl) (pa_cons (pv 0) (pa_cons pe_int (pa_cons (pe_glob (v := .int 1000000) rfl mg_MOST_BUDGET ⟨_, rfl⟩) pa_nil)))))), ⟨_, rfl, v, 1, 1000000, rfl, kn, q⟩⟩
def sp_is_name (K : PySem.W.Frag) : Sp := fun vs H Q _ => ∃ (v : V) (d : PyData) (N : Addr → Prop), vs = [v] ∧ Db K N H v d ∧ szD d ≤ 1000000 ∧ ∀ H', Kp [] H H' → Q (.bl (nameD d).isSome) H'
theorem ok_is_name {f : Addr} {fd : FuncData} {k : Nat} (F : Fun K "is_name" "is_name" s_is_name f fd) (m_isinstance : mg "isinstance" = none) (m_str : mg "str" = none) (m_len : mg "len" = none) (m_all : mg "all" = none)
    {tk tk2 : Tok} (mg_MOST_LETTERS : mg "MOST_LETTERS" = some (.int 8 tk)) (mg_LETTERS : mg "LETTERS" = some (.str "abcdefghijklmnopqrstuvwxyz" tk2)) :
    FnG P w K mg base CX0 (k + 1) f fd ["thing"] (sp_is_name K) := by
  refine ok0 F sc_is_name (fun vs H Q E h => ?_) (fun cdv A outer s H vs Q E gd hr h => ?_)
  · obtain ⟨v, d, N, rfl, _⟩ := h
    rfl
  · obtain ⟨v, d, N, rfl, hD, hz, q⟩ := h
    refine ⟨_, (pss_cons (ps_if (PW.pt (pw_or (pt_not (pt_val (pe_callB (call_isiB (K := K) rfl) (by rfl) m_isinstance (by decide +kernel) (pa_cons (pv 0) (pa_cons (pe_bltn (v := .ty "str") (by rfl) m_str rfl rfl) pa_nil))))) (pw_or1 (pt_not (pt_chain op_le op_le pe_int (pe_callB call_len (by rfl) m_len (by decide +kernel) (pa_cons (pv 0) pa_nil)) (pe_glob (v := .int 8) rfl mg_MOST_LETTERS ⟨_, rfl⟩))))))
      (pss_one (ps_ret pe_bl))
      pss_nil)
      (pss_one (ps_ret (pe_callB (cr_allK (K := K) rfl rfl) (by rfl) m_all (by decide +kernel) (pa_cons (pe_lcW (own := [("letter", 1)]) (g := (gName 1)) rfl sc_is_name.nd (pi_str (pv 0)) (blkOk_by (own := [("letter", 1)]) (N := ["thing", "letter"]) (sc := defScope s_is_name) (by decide +kernel)) (fun _ _ _ _ _ => (pg_name (i := 1) sc_is_name.nd rfl (.inl rfl))) (fun _ _ _ _ _ => pts_nil) (fun _ _ _ _ _ => (pe_cmpR op_in_sign (pv 1) (pe_glob (v := .str "abcdefghijklmnopqrstuvwxyz") rfl mg_LETTERS ⟨_, rfl⟩) rfl))) pa_nil))))), ?_⟩
    refine ⟨_, rfl, _, _, _, _, rfl, hD.ty, kitS d, _, rfl, ?_⟩
    cases ht : isSD d with
    | false =>
      have e : (nameD d).isSome = false := by cases d <;> first | rfl | cases ht
      rw [e] at q
      exact (show if (!false) = true then _ else _ from iteT (q H Kp.refl))
    | true =>
      refine (show if (!true) = true then _ else _ from iteF ?_)
      obtain ⟨x, rfl, rfl⟩ : ∃ x : Str, v = .str x ∧ d = .str x := by
        cases hD with
        | str x => exact ⟨x, rfl, rfl⟩
        | _ => cases ht
      rw [nameD_str] at q
      simp only [szD] at hz
      have xl : x.length ≤ sizeLine := by rw [sizeLine_eq]; omega
      refine ⟨_, rfl, _, x.length, rfl, ⟨xl, rfl⟩, ?_⟩
      refine ⟨_, _, rfl, rfl, _, rfl, ?_⟩
      have eq0 : ∀ b1 b2 : Bool, decide (1 ≤ x.length ∧ x.length ≤ 8) = b1 → (x.cps.toList.all fun c => decide (c ∈ lettersS.cps.toList)) = b2 → isNm x = (b1 && b2) := fun b1 b2 h1 h2 => by unfold isNm; rw [h1, h2]
      by_cases c1 : (1 : Int) ≤ (x.length : Int)
      · refine ifYes c1 ?_
        refine ⟨_, _, rfl, rfl, _, rfl, ?_⟩
        by_cases c2 : (x.length : Int) ≤ 8
        · rw [decide_eq_true c2]
          refine (show if (!true) = true then _ else _ from iteF ?_)
          have e1 : decide (1 ≤ x.length ∧ x.length ≤ 8) = true := decide_eq_true ⟨by omega, by omega⟩
          have xs8 : x.cps.size ≤ 8 := by have : x.length = x.cps.size := rfl; omega
          refine ⟨_, rfl, x, rfl, _, _, _, walk_str (z := x), small1000 (by omega), fun D H1 nD k1 hD1 => ?_⟩
          refine ⟨fun i acc H2 => acc = ((x.cps.toList.take i).map fun c => decide (c ∈ lettersS.cps.toList)).map V.bl ∧ Kp [] H H2, ⟨rfl, k1⟩, fun _ _ _ _ _ => trivial, ?_, ?_⟩
          · rintro i acc y _ H2 hi ⟨ea, k2⟩ hD2 ⟨rfl, c, hc, rfl⟩
            refine ⟨rfl, yesT ?_⟩
            refine ⟨_, rfl, c, lettersS, rfl, rfl, hD2, fun H3 m3 h3 => ?_⟩
            refine ⟨?_, k2.md (.inl nD) m3⟩
            have hc' : x.cps.toList[i]? = some c := by rw [Array.getElem?_toList]; exact hc
            rw [List.take_add_one, hc', ea]
            simp
          rintro acc H2 _ hD2 ⟨ea, k2⟩
          rw [List.take_of_length_le (by simp)] at ea
          subst ea
          refine ⟨D, _, rfl, sqL hD2, ?_⟩
          have e2 : ((x.cps.toList.map fun c => decide (c ∈ lettersS.cps.toList)).all id) = (x.cps.toList.all fun c => decide (c ∈ lettersS.cps.toList)) := by rw [List.all_map]; rfl
          rw [e2]
          have := q H2 k2
          rw [eq0 true _ e1 rfl, Bool.true_and] at this
          exact this
        · rw [decide_eq_false c2]
          have e1 : decide (1 ≤ x.length ∧ x.length ≤ 8) = false := decide_eq_false (fun z => c2 (by omega))
          rw [eq0 false _ e1 rfl, Bool.false_and] at q
          exact (show if (!false) = true then _ else _ from iteT (q H Kp.refl))
      · refine ifNo c1 ?_
        have e1 : decide (1 ≤ x.length ∧ x.length ≤ 8) = false := decide_eq_false (fun z => c1 (by omega))
        rw [eq0 false _ e1 rfl, Bool.false_and] at q
        exact ⟨_, rfl, (show if (!false) = true then _ else _ from iteT (q H Kp.refl))⟩
theorem amtD_btw {N : Addr → Prop} {H : Hp} {v : V} {d : PyData} (h : Db K N H v d) : btw v 0 1000000000000 = (amtD d).isSome := by
  cases h <;> try rfl
  rename_i i
  show decide (0 ≤ i ∧ i ≤ 1000000000000) = (if 0 ≤ i ∧ i ≤ 1000000000000 then some i else none).isSome
  by_cases e : 0 ≤ i ∧ i ≤ 1000000000000
  · rw [if_pos e, decide_eq_true e]; rfl
  · rw [if_neg e, decide_eq_false e]; rfl
theorem budD_btw {N : Addr → Prop} {H : Hp} {v : V} {d : PyData} (h : Db K N H v d) : btw v 1 1000000 = (budD d).isSome := by
  cases h <;> try rfl
  rename_i i
  show decide (1 ≤ i ∧ i ≤ 1000000) = (if 1 ≤ i ∧ i ≤ 1000000 then some i else none).isSome
  by_cases e : 1 ≤ i ∧ i ≤ 1000000
  · rw [if_pos e, decide_eq_true e]; rfl
  · rw [if_neg e, decide_eq_false e]; rfl
def sp_require_amount (K : PySem.W.Frag) (X : LkX) : Sp := fun vs H Q E => ∃ (v : V) (d : PyData) (N : Addr → Prop), vs = [v] ∧ Db K N H v d ∧
  ((amtD d).isSome = true → Q .non H) ∧ (amtD d = none → ∀ e, H e = none → E (.ref X.amount) (some e) (upd H e (.xd [("value", v)])))
theorem ok_require_amount {f : Addr} {fd : FuncData} {k : Nat} {X : LkX} (F : Fun K "require_amount" "require_amount" s_require_amount f fd) (t_BadAmount : Told P w K mg base "BadAmount" X.amount)
    (C_is_amount : Cl P w K mg base CX0 3 "is_amount" 1 (sp_is_amount K)) :
    FnG P w K mg base (L2.CX P w) (k + 4) f fd ["amount"] (sp_require_amount K X) := by
  obtain ⟨_, _, V_BadAmount, F_BadAmount⟩ := t_BadAmount
  refine okX F sc_require_amount (fun vs H Q E h => ?_) (fun cdv A outer s H vs Q E gd hr h => ?_)
  · obtain ⟨v, d, N, rfl, _⟩ := h
    rfl
  · obtain ⟨v, d, N, rfl, hD, q1, q2⟩ := h
    have hr2 := hr.mono (show 1 + 1 ≤ k + 3 by omega)
    refine ⟨_, (pss_one (ps_if (pt_not (pt_val (pe_cl C_is_amount (hr.mono (by omega)) gd pass0 (by rfl) (pa_cons (pv 0) pa_nil))))
      (pss_one (ps_raise rfl (takes_of rfl rfl rfl rfl) (pmk_value V_BadAmount F_BadAmount hr2 (by rfl) (pv 0))))
      pss_nil)), ?_⟩
    refine ⟨_, rfl, v, rfl, hD.kn, ?_⟩
    rw [amtD_btw hD]
    refine ⟨_, rfl, ?_⟩
    cases e : amtD d with
    | none => exact (show if (!false) = true then _ else _ from iteT ⟨_, rfl, q2 e⟩)
    | some a => exact (show if (!true) = true then _ else _ from iteF (q1 (by rw [e]; rfl)))
def sp_require_budget (K : PySem.W.Frag) (X : LkX) : Sp := fun vs H Q E => ∃ (v : V) (d : PyData) (N : Addr → Prop), vs = [v] ∧ Db K N H v d ∧
  ((budD d).isSome = true → Q .non H) ∧ (budD d = none → ∀ e, H e = none → E (.ref X.budget) (some e) (upd H e (.xd [("value", v)])))
theorem ok_require_budget {f : Addr} {fd : FuncData} {k : Nat} {X : LkX} (F : Fun K "require_budget" "require_budget" s_require_budget f fd) (t_BadBudget : Told P w K mg base "BadBudget" X.budget)
    (C_is_budget : Cl P w K mg base CX0 3 "is_budget" 1 (sp_is_budget K)) :
    FnG P w K mg base (L2.CX P w) (k + 4) f fd ["budget"] (sp_require_budget K X) := by
  obtain ⟨_, _, V_BadBudget, F_BadBudget⟩ := t_BadBudget
  refine okX F sc_require_budget (fun vs H Q E h => ?_) (fun cdv A outer s H vs Q E gd hr h => ?_)
  · obtain ⟨v, d, N, rfl, _⟩ := h
    rfl
  · obtain ⟨v, d, N, rfl, hD, q1, q2⟩ := h
    have hr2 := hr.mono (show 1 + 1 ≤ k + 3 by omega)
    refine ⟨_, (pss_one (ps_if (pt_not (pt_val (pe_cl C_is_budget (hr.mono (by omega)) gd pass0 (by rfl) (pa_cons (pv 0) pa_nil))))
      (pss_one (ps_raise rfl (takes_of rfl rfl rfl rfl) (pmk_value V_BadBudget F_BadBudget hr2 (by rfl) (pv 0))))
      pss_nil)), ?_⟩
    refine ⟨_, rfl, v, rfl, hD.kn, ?_⟩
    rw [budD_btw hD]
    refine ⟨_, rfl, ?_⟩
    cases e : budD d with
    | none => exact (show if (!false) = true then _ else _ from iteT ⟨_, rfl, q2 e⟩)
    | some a => exact (show if (!true) = true then _ else _ from iteF (q1 (by rw [e]; rfl)))
theorem strs_get {ls : List Str} {i : Nat} {v : V} (h : (ls.map V.str)[i]? = some v) : i < ls.length ∧ v = .str (ls.getD i default) := by
  rw [List.getElem?_map] at h
  cases e : ls[i]? with
  | none => rw [e] at h; cases h
  | some x =>
    rw [e] at h
    cases h
    exact ⟨(List.getElem?_eq_some_iff.mp e).1, by rw [List.getD_eq_getElem?_getD, e]; rfl⟩
theorem vsT_snoc {t : Tab} {i : Nat} (h : i < t.length) : (vsT t).take (i + 1) = (vsT t).take i ++ [tval t ((nsT t).getD i default)] := by
  have h1 : i < (vsT t).length := by rw [vsT_len]; exact h
  rw [List.take_add_one, List.getElem?_eq_getElem h1, ← vsT_at h, List.getD_eq_getElem?_getD, List.getElem?_eq_getElem h1]
  rfl
theorem tval_some {t : Tab} {n : Str} (h : n ∈ keysT t) : tget t n = some (tval t n) := by
  cases e : tget t n with
  | none => exact absurd h (tget_none.mp e)
  | some b => unfold tval; rw [e]; rfl
theorem tk_get {H : Hp} {d : Addr} {t : Tab} {n : Str} (hd : H d = some (.dK (tk t))) (h : n ∈ keysT t) : DGet H d (.str n) (some (.int (tval t n))) := by
  have := DGet.k (k := Sum.inr n) hd
  rw [tk_val, tval_some h] at this
  exact this
def sp_weak_names (K : PySem.W.Frag) (T : List (Addr × Str)) : Sp := fun vs H Q _ => ∃ (g : Int) (d : Addr) (t : Tab), vs = [.int g, .ref d] ∧ H d = some (.dK (tk t)) ∧ (keysT t).Nodup ∧ t.length ≤ 40 ∧ 1 ≤ g ∧ Tabs T H ∧
  (weakN g t = none → ∀ H', Kt T H H' → Q .non H') ∧ ∀ W, weakN g t = some W → ∀ u H', Kt T H H' → SqT K H' u (W.map V.str) → Q (.ref u) H'
theorem ok_weak_names {f : Addr} {fd : FuncData} {k : Nat} {T : List (Addr × Str)} (F : Fun K "weak_names" "weak_names" s_weak_names f fd) (m_sorted : mg "sorted" = none) (m_tuple : mg "tuple" = none)
    (C_weak_set : Cl P w K mg base CX0 5 "weak_set" 2 (sp_weak_set K T)) :
    FnG P w K mg base CX0 (k + 6) f fd ["budget", "balances"] (sp_weak_names K T) := by
  refine ok0 F sc_weak_names (fun vs H Q E h => ?_) (fun cdv A outer s H vs Q E gd hr h => ?_)
  · obtain ⟨g, d, t, rfl, _⟩ := h
    rfl
  · obtain ⟨g, d, t, rfl, hd, nd, hl, hg, hT, q0, q1⟩ := h
    refine ⟨_, (pss_cons (ps_set (i := 2) sc_weak_names.nd rfl (.inr rfl) (pe_callB (cr_srtDS rfl) (by rfl) m_sorted (by decide +kernel) (pa_cons (pv 1) pa_nil)))
      (pss_cons (ps_set (i := 3) sc_weak_names.nd rfl (.inl rfl) (pe_cl C_weak_set (hr.mono (by omega)) gd pass0 (by rfl) (pa_cons (pe_callTy (call_tupF (K := K) rfl) (by rfl) m_tuple (by decide +kernel) (pa_cons (pe_lcW (own := [("name", 4)]) (g := (gName 4)) rfl sc_weak_names.nd (pi_list (pv 2)) (blkOk_by (own := [("name", 4)]) (N := ["budget", "balances", "names", "senders", "name", "at"]) (sc := defScope s_weak_names) (by decide +kernel)) (fun _ _ _ _ _ => (pg_name (i := 4) sc_weak_names.nd rfl (.inl rfl))) (fun _ _ _ _ _ => pts_nil) (fun _ _ _ _ _ => (pe_dget (hu1 hr) (pv 1) (pv 4) (fun _ _ => rfl)))) pa_nil)) (pa_cons (pv 0) pa_nil))))
      (pss_one (ps_ret (pe_ifP (pt_cmpR op_isN (pv 3) pe_non (nomark _)) pe_non (pe_callTy (call_tupF (K := K) rfl) (by rfl) m_tuple (by decide +kernel) (pa_cons (pe_lcW (own := [("at", 5)]) (g := (gName 5)) rfl sc_weak_names.nd (pi_tup (pv 3)) (blkOk_by (own := [("at", 5)]) (N := ["budget", "balances", "names", "senders", "name", "at"]) (sc := defScope s_weak_names) (by decide +kernel)) (fun _ _ _ _ _ => (pg_name (i := 5) sc_weak_names.nd rfl (.inl rfl))) (fun _ _ _ _ _ => pts_nil) (fun _ _ _ _ _ => (pe_ix (ix_la (K := K) rfl) (pv 2) (pv 5) (fun _ _ => rfl)))) pa_nil))))))), ?_⟩
    have kl : (keysT t).length = t.length := List.length_map _
    refine ⟨_, rfl, d, tk t, keysT t, rfl, .inl hd, tk_keys t, by omega, fun ys pm so l H1 nl k1 h1 => ?_⟩
    obtain rfl := srtN_of pm so
    change H1 l = some (.lst ((nsT t).map V.str)) at h1
    have nl2 := nsT_len t
    refine ⟨_, rfl, l, rfl, ⟨_, sqL h1⟩, _, _, _, walk_list (xs := (nsT t).map V.str), small1000 (by rw [List.length_map]; omega), fun D H2 nD k2 hD => ?_⟩
    have nlD : l ≠ D := ne_of_none h1 nD
    have hd1 := k1.at0 hd
    refine ⟨fun i acc H3 => acc = ((vsT t).take i).map V.int ∧ Kp [] H H3 ∧ H3 l = some (.lst ((nsT t).map V.str)) ∧ H3 d = some (.dK (tk t)), ⟨rfl, k1.trans k2, k2.at0 h1, k2.at0 hd1⟩, fun _ _ _ _ ⟨_, _, z, _⟩ => sqL z, ?_, ?_⟩
    · rintro i acc x H3 _ hi ⟨ea, k3, hl3, hd3⟩ hD3 ⟨rfl, hx⟩
      obtain ⟨hi2, rfl⟩ := strs_get hx
      have hi3 : i < t.length := by omega
      refine ⟨rfl, yesT ?_⟩
      refine ⟨_, rfl, _, rfl, d, _, rfl, tk_get hd3 (ns_in hi3), hD3, fun H4 m4 h4 => ?_⟩
      refine ⟨?_, k3.md (.inl (k1.free0 nD)) m4, (m4 l nlD).trans hl3, m4.kp.at1 (ne_of hd3 hD3 fun z => nomatch z) hd3⟩
      rw [vsT_snoc hi3, List.map_append, ea]
      rfl
    rintro acc H3 _ hD3 ⟨ea, k3, hl3, hd3⟩
    rw [List.length_map, nl2, List.take_of_length_le (by rw [vsT_len]; exact Nat.le_refl _)] at ea
    subst ea
    refine ⟨D, _, rfl, sqL hD3, fun u H4 o nu k4 du hu => ?_⟩
    have k34 := k3.trans k4
    have hT4 : Tabs T H4 := hT.ext fun b o e => k34.at0 e
    have eg : gapOf g (vsT t) = gapOf g (valsT t) := gap_congr (vsT_perm nd)
    have vl := vsT_len t
    refine ⟨_, rfl, u, vsT t, g, rfl, sqF hu, by omega, by omega, hg, hT4, fun e5 H5 k5 => ?_, fun kk e5 t5 H5 W k5 h5 iw => ?_⟩
    · refine ⟨Q, ⟨_, rfl, rfl, _, rfl, ?_⟩, fun _ _ z => z⟩
      refine (show if decide (V.non = V.non) = true then _ else _ from ifYes rfl ?_)
      exact q0 (weakN_none.mpr (by rw [← eg]; exact e5)) H5 (k34.trans k5).kt
    · refine ⟨Q, ⟨_, rfl, rfl, _, rfl, ?_⟩, fun _ _ z => z⟩
      refine (show if decide (V.ref t5 = V.non) = true then _ else _ from ifNo (fun z => nomatch z) ?_)
      have kt5 : Kt T H H5 := k34.kt.trans k5
      have ew : weakN g t = some (W.map (nmAt t)) := by
        unfold weakN
        rw [← eg, e5, weak_nm nd iw]
        rfl
      have hin : ∀ i ∈ W, 0 ≤ i ∧ i < (t.length : Int) := fun i hi => by
        obtain ⟨_, ms, pm2, _, pW⟩ := iw
        rw [vsT_len] at pm2
        exact upto_mem.mp (pm2.mem_iff.mp (List.mem_of_mem_take (pW.mem_iff.mp hi)))
      have Wl : W.length ≤ t.length := by
        obtain ⟨_, ms, pm2, _, pW⟩ := iw
        have := pm2.length_eq
        rw [upto_len, vsT_len] at this
        have := pW.length_eq
        rw [List.length_take] at this
        omega
      have hl5 : H5 l = some (.lst ((nsT t).map V.str)) := k5.atL (k4.at0 hl3)
      refine ⟨_, rfl, t5, rfl, ⟨_, h5⟩, _, _, _, walk_ti (ns := W), small1000 (by omega), fun D2 H6 nD2 k6 hD2 => ?_⟩
      have nlD2 : l ≠ D2 := ne_of_none hl5 nD2
      refine ⟨fun i acc H7 => acc = ((W.take i).map (nmAt t)).map V.str ∧ Kt T H H7 ∧ SqT K H7 t5 (W.map V.int) ∧ H7 l = some (.lst ((nsT t).map V.str)), ⟨rfl, kt5.kp k6, k6.tup0 h5, k6.at0 hl5⟩, fun _ _ _ _ ⟨_, _, z, _⟩ => z, ?_, ?_⟩
      · rintro i acc x H7 _ hi ⟨ea, k7, ht7, hl7⟩ hD7 ⟨rfl, rfl⟩
        have hwi : W.getD i 0 ∈ W := by
          rw [List.getD_eq_getElem?_getD, List.getElem?_eq_getElem hi]
          exact List.getElem_mem hi
        obtain ⟨g1, g2⟩ := hin _ hwi
        refine ⟨rfl, yesT ?_⟩
        have hix : ((nsT t).map V.str)[(W.getD i 0).toNat]? = some (.str (nmAt t (W.getD i 0))) := by
          have : (W.getD i 0).toNat < (nsT t).length := by omega
          rw [List.getElem?_map, List.getElem?_eq_getElem this]
          unfold nmAt
          rw [List.getD_eq_getElem?_getD (l := nsT t), List.getElem?_eq_getElem this]
          rfl
        refine ⟨_, rfl, _, rfl, l, _, (W.getD i 0).toNat, _, rfl, by rw [show (((W.getD i 0).toNat : Nat) : Int) = W.getD i 0 by omega], sqL hl7, hix, hD7, fun H8 m8 h8 => ?_⟩
        refine ⟨?_, k7.own (kt5.nt0 nD2) hD7 m8.kp, m8.kp.tup1 hD7 ht7, (m8 l nlD2).trans hl7⟩
        rw [List.take_add_one, List.getElem?_eq_getElem hi, ea, List.getD_eq_getElem?_getD, List.getElem?_eq_getElem hi, List.map_append, List.map_append]
        rfl
      rintro acc H7 _ hD7 ⟨ea, k7, ht7, hl7⟩
      rw [List.take_of_length_le (Nat.le_refl _)] at ea
      subst ea
      refine ⟨D2, _, rfl, sqL hD7, fun u8 H8 o8 n8 k8 d8 h8 => ?_⟩
      exact q1 _ ew u8 H8 (k7.kp k8) (sqF h8)
/-! ### the defs of links, two -/
theorem two_of {N : Addr → Prop} {H : Hp} {ys : List V} {ds : List PyData} (h2 : ys.length = 2) (hA : DbAll K N H ys ds) : ∃ x y dx dy, ys = [x, y] ∧ ds = [dx, dy] ∧ Db K N H x dx ∧ Db K N H y dy := by
  cases hA with
  | nil => cases h2
  | cons hx hA =>
    cases hA with
    | nil => cases h2
    | cons hy hA =>
      cases hA with
      | nil => exact ⟨_, _, _, _, rfl, rfl, hx, hy⟩
      | cons _ _ => simp at h2
/-! ### the defs of links, three -/
inductive SpL (K : PySem.W.Frag) (H : Hp) : List V → List (Str × Int) → Prop
  | nil : SpL K H [] []
  | cons {a : Addr} {n : Str} {x : Int} {vs : List V} {l : List (Str × Int)} : SqT K H a [.str n, .int x] → isNm n = true → 0 ≤ x → SpL K H vs l → SpL K H (.ref a :: vs) ((n, x) :: l)
theorem SpL.kt {T : List (Addr × Str)} {H H' : Hp} (k : Kt T H H') : ∀ {vs : List V} {l : List (Str × Int)}, SpL K H vs l → SpL K H' vs l
  | _, _, .nil => .nil
  | _, _, .cons a b c d => .cons (k.tup0 a) b c (d.kt k)
theorem SpL.kp {H H' : Hp} (k : Kp [] H H') {vs : List V} {l : List (Str × Int)} (h : SpL K H vs l) : SpL K H' vs l := h.kt (T := []) k.kt
theorem SpL.len {H : Hp} : ∀ {vs : List V} {l : List (Str × Int)}, SpL K H vs l → vs.length = l.length
  | _, _, .nil => rfl
  | _, _, .cons _ _ _ d => by rw [List.length_cons, List.length_cons, d.len]
theorem SpL.get {H : Hp} : ∀ {vs : List V} {l : List (Str × Int)} {i : Nat} {v : V}, SpL K H vs l → vs[i]? = some v → ∃ a n x, v = .ref a ∧ SqT K H a [.str n, .int x] ∧ l[i]? = some (n, x)
  | _, _, _, _, .nil, e => by cases e
  | _, _, 0, _, .cons a _ _ _, e => by cases e; exact ⟨_, _, _, rfl, a, rfl⟩
  | _, _, i + 1, _, .cons _ _ _ d, e => d.get (i := i) e
theorem SpL.nm {H : Hp} : ∀ {vs : List V} {l : List (Str × Int)}, SpL K H vs l → ∀ p ∈ l, isNm p.1 = true ∧ 0 ≤ p.2
  | _, _, .nil, _, h => by cases h
  | _, _, .cons _ b c d, p, h => by
    rcases List.mem_cons.mp h with rfl | h
    · exact ⟨b, c⟩
    · exact d.nm p h
/-! ### the defs of links, four -/
theorem no_attr {b : Int} {d q : Addr} {m : Str} (h1 : ¬ m = "budget" := by decide +kernel) (h2 : ¬ m = "balances" := by decide +kernel) (h3 : ¬ m = "past" := by decide +kernel) : (lkF b d q).lookup m = none := lkF_no b d q h1 h2 h3
def sp_Link_keep (C : Addr) (T : List (Addr × Str)) : Sp := fun vs H Q _ => ∃ (p q : Addr) (s : LkS) (g : Int) (d : Addr) (t : Tab), vs = [.ref p, .int g, .ref d] ∧ LkAt C H p q s ∧ H d = some (.dK (tk t)) ∧ s.past.length ≤ 10000 ∧
  ∀ H', Ks T (Two p q) H H' → LkAt C H' p q ⟨g, t, s.past ++ [(s.b, s.t)]⟩ → Q .non H'
theorem ok_Link_keep {f C : Addr} {fd : FuncData} {k : Nat} {T : List (Addr × Str)} (F : Fun K "keep" "Link.keep" s_Link_keep f fd) (LC : LinkC K C) :
    FnG P w K mg base CX0 (k + 1) f fd ["self", "budget", "balances"] (sp_Link_keep C T) := by
  refine ok0 F sc_Link_keep (fun vs H Q E h => ?_) (fun cdv A outer s H vs Q E gd hr h => ?_)
  · obtain ⟨p, q, s, g, d, t, rfl, _⟩ := h
    rfl
  · obtain ⟨p, q, s, g, d, t, rfl, L, hd, pl, w⟩ := h
    have npq := L.ne
    obtain ⟨⟨dx, d0, h1, h2⟩, ps, h3, h4⟩ := id L
    have psl := h4.len
    refine ⟨_, (pss_cons (ps_expr (pe_bm PySem.F.plainAttrs_list PySem.F.slot_list_append PySem.F.type_list_append mt_app (pe_fld (pv 0) rfl) (pa_cons (pe_ta (pa_cons (pe_fld (pv 0) rfl) (pa_cons (pe_fld (pv 0) rfl) pa_nil))) pa_nil)))
      (pss_cons (ps_fld (pv 0) (pv 1) rfl)
      (pss_one (ps_fld (pv 0) (pv 2) rfl)))), ?_⟩
    refine ⟨_, rfl, p, C, dx, _, _, rfl, h1, LC.cls, LC.nq, lkF_q _ _ _, .inl ⟨rfl, _, sqL h3⟩, ?_⟩
    refine ⟨_, rfl, p, C, dx, _, _, rfl, h1, LC.cls, LC.nb, lkF_b _ _ _, _, rfl, p, C, dx, _, _, rfl, h1, LC.cls, LC.nd, lkF_d _ _ _, Nat.le_of_ble_eq_true rfl, fun u H1 nu k1 hu => ?_⟩
    have h31 := k1.at0 h3
    refine ⟨q, ps, _, rfl, rfl, h31, by rw [sizeLine_eq]; omega, fun H2 m2 hq2 => ?_⟩
    have h12 := (m2 p npq).trans (k1.at0 h1)
    refine ⟨_, rfl, _, rfl, p, C, dx, _, rfl, h12, LC.cls, LC.nb, by show 3 < 1000; decide, ?_⟩
    refine ⟨_, rfl, _, rfl, p, C, dx, _, rfl, upd_same, LC.cls, LC.nd, by rw [lkF_putB]; show 3 < 1000; decide, ?_⟩
    rw [lkF_putB, lkF_putD]
    have kk : Ks T (Two p q) H H2 := (Ks.of k1.kt).md h31 m2.kp (.inl (.inr rfl))
    refine w _ ((kk.putI h12 (.inl (.inl rfl))).putI upd_same (.inl (.inl rfl))) ?_
    have tup : ∀ a xs, H1 a = some (.tup xs) → (upd (upd H2 p (.ins C dx (lkF g d0 q))) p (.ins C dx (lkF g d q))) a = some (.tup xs) := fun a xs e => by
      have n1 : a ≠ p := ne_of e (k1.at0 h1) fun z => nomatch z
      have n2 : a ≠ q := ne_of e h31 fun z => nomatch z
      rw [upd_ne n1, upd_ne n1, m2 a n2]
      exact e
    have dic : ∀ a kvs, H1 a = some (.dK kvs) → (upd (upd H2 p (.ins C dx (lkF g d0 q))) p (.ins C dx (lkF g d q))) a = some (.dK kvs) := fun a xs e => by
      have n1 : a ≠ p := ne_of e (k1.at0 h1) fun z => nomatch z
      have n2 : a ≠ q := ne_of e h31 fun z => nomatch z
      rw [upd_ne n1, upd_ne n1, m2 a n2]
      exact e
    refine ⟨⟨dx, d, upd_same, dic _ _ (k1.at0 hd)⟩, ps ++ [.ref u], ?_, ?_⟩
    · rw [upd_ne npq.symm, upd_ne npq.symm]
      exact hq2
    · exact ((h4.keep (fun p xs e => k1.at0 e) (fun p t e => k1.at0 e)).snoc hu (k1.at0 h2)).keep tup (fun a t => dic a _)
def sp_Link_change (K : PySem.W.Frag) (C : Addr) (T : List (Addr × Str)) (X : LkX) : Sp := fun vs H Q E => ∃ (p q : Addr) (s : LkS) (g : Int) (d : Addr) (t : Tab), vs = [.ref p, .int g, .ref d] ∧ LkAt C H p q s ∧ H d = some (.dK (tk t)) ∧ (keysT t).Nodup ∧ t.length ≤ 40 ∧ 1 ≤ g ∧ Tabs T H ∧ s.past.length ≤ 10000 ∧
  (∀ W, weakN g t = some W → ∀ u e H', Kt T H H' → SqT K H' u (W.map V.str) → H' e = none → E (.ref X.refused) (some e) (upd H' e (.xd [("value", .ref u)]))) ∧
  (weakN g t = none → ∀ H', Ks T (Two p q) H H' → LkAt C H' p q ⟨g, t, s.past ++ [(s.b, s.t)]⟩ → Q .non H')
theorem ok_Link_change {f C : Addr} {fd : FuncData} {k : Nat} {T : List (Addr × Str)} {X : LkX} (F : Fun K "change" "Link.change" s_Link_change f fd) (LC : LinkC K C) (t_Refused : Told P w K mg base "Refused" X.refused)
    (C_weak_names : Cl P w K mg base CX0 6 "weak_names" 2 (sp_weak_names K T)) (M_keep : ClM P w K mg base CX0 1 C "keep" (sp_Link_keep C T)) :
    FnG P w K mg base (L2.CX P w) (k + 7) f fd ["self", "budget", "balances"] (sp_Link_change K C T X) := by
  obtain ⟨_, _, V_Refused, F_Refused⟩ := t_Refused
  refine okX F sc_Link_change (fun vs H Q E h => ?_) (fun cdv A outer s H vs Q E gd hr h => ?_)
  · obtain ⟨p, q, s, g, d, t, rfl, _⟩ := h
    rfl
  · obtain ⟨p, q, s, g, d, t, rfl, L, hd, nd, hl, hg, hT, pl, w1, w2⟩ := h
    have hr2 := hr.mono (show 1 + 1 ≤ k + 6 by omega)
    refine ⟨_, (pss_cons (ps_set (i := 3) sc_Link_change.nd rfl (.inl rfl) (pe_cl C_weak_names (hr.mono (by omega)) gd pass0 (by rfl) (pa_cons (pv 1) (pa_cons (pv 2) pa_nil))))
      (pss_cons (ps_if (pt_cmpR op_notN (pv 3) pe_non (nomark _))
      (pss_one (ps_raise rfl (takes_of rfl rfl rfl rfl) (pmk_value V_Refused F_Refused hr2 (by rfl) (pv 3))))
      pss_nil)
      (pss_one (ps_expr (pe_clM (E := fun _ _ _ _ => False) LC.cls M_keep (hr.mono (by omega)) gd passG (pv 0) (pa_cons (pv 1) (pa_cons (pv 2) pa_nil))))))), ?_⟩
    refine ⟨_, rfl, _, rfl, g, d, t, rfl, hd, nd, hl, hg, hT, fun e H1 k1 => ?_, fun W e u H1 k1 hu => ?_⟩
    · refine ⟨_, rfl, rfl, _, rfl, ?_⟩
      refine (show if (!decide (V.non = V.non)) = true then _ else _ from iteNS rfl ?_)
      have L1 := L.kt k1
      obtain ⟨⟨dx, d0, h1, h2⟩, _⟩ := id L1
      refine ⟨_, rfl, p, dx, _, rfl, h1, no_attr, _, rfl, _, rfl, p, q, s, g, d, t, rfl, L1, k1.ext _ _ hd (fun _ z => nomatch z), pl, fun H2 k2 L2 => ?_⟩
      exact w2 e H2 ((Ks.of k1).trans k2) L2
    · refine ⟨_, rfl, rfl, _, rfl, ?_⟩
      refine (show if (!decide (V.ref u = V.non)) = true then _ else _ from ?_)
      rw [decide_eq_false (fun z => nomatch z)]
      refine (show if (!false) = true then _ else _ from iteT ?_)
      exact ⟨_, rfl, fun e2 he => w1 W e u e2 H1 k1 hu he⟩
def sp_Link_require_known (K : PySem.W.Frag) (C : Addr) (X : LkX) : Sp := fun vs H Q E => ∃ (p q : Addr) (s : LkS) (v : V) (d : PyData) (N : Addr → Prop), vs = [.ref p, v] ∧ LkAt C H p q s ∧ Db K N H v d ∧ szD d ≤ 1000000 ∧
  (∀ n, knownD s.t d = some n → ∀ H', Kp [] H H' → Q .non H') ∧ (knownD s.t d = none → ∀ e H', Kp [] H H' → H' e = none → E (.ref X.unknown) (some e) (upd H' e (.xd [("value", v)])))
theorem nameD_some {N : Addr → Prop} {H : Hp} {v : V} {d : PyData} (h : Db K N H v d) (e : (nameD d).isSome = true) : ∃ n, v = .str n ∧ d = .str n ∧ isNm n = true ∧ nameD d = some n := by
  cases h with
  | str n =>
    rw [nameD_str] at e
    exact ⟨n, rfl, rfl, e, if_pos e⟩
  | _ => cases e
theorem ok_Link_require_known {f C : Addr} {fd : FuncData} {k : Nat} {X : LkX} (F : Fun K "require_known" "Link.require_known" s_Link_require_known f fd) (LC : LinkC K C) (t_UnknownName : Told P w K mg base "UnknownName" X.unknown)
    (C_is_name : Cl P w K mg base CX0 1 "is_name" 1 (sp_is_name K)) :
    FnG P w K mg base (L2.CX P w) (k + 3) f fd ["self", "name"] (sp_Link_require_known K C X) := by
  obtain ⟨_, _, V_UnknownName, F_UnknownName⟩ := t_UnknownName
  refine okX F sc_Link_require_known (fun vs H Q E h => ?_) (fun cdv A outer s H vs Q E gd hr h => ?_)
  · obtain ⟨p, q, s, v, d, N, rfl, _⟩ := h
    rfl
  · obtain ⟨p, q, s, v, d, N, rfl, L, hD, hz, w1, w2⟩ := h
    have hr2 := hr.mono (show 1 + 1 ≤ k + 2 by omega)
    refine ⟨_, (pss_one (ps_if (PW.pt (pw_or (pt_not (pt_val (pe_cl C_is_name (hr.mono (by omega)) gd pass0 (by rfl) (pa_cons (pv 1) pa_nil)))) (pw_or1 (pt_cmp (pc_dnotin (hu1 hr) (pv 1) (pe_fld (pv 0) rfl))))))
      (pss_one (ps_raise rfl (takes_of rfl rfl rfl rfl) (pmk_value V_UnknownName F_UnknownName hr2 (by rfl) (pv 1))))
      pss_nil)), ?_⟩
    refine ⟨_, rfl, v, d, N, rfl, hD, hz, fun H1 k1 => ?_⟩
    refine ⟨_, rfl, ?_⟩
    cases e : (nameD d).isSome with
    | false =>
      have ek : knownD s.t d = none := by
        unfold knownD
        rw [Option.isSome_eq_false_iff.mp e |> Option.isNone_iff_eq_none.mp]
        rfl
      refine (show if (!false) = true then _ else _ from iteT ?_)
      exact ⟨_, rfl, fun e2 he => w2 ek e2 H1 k1 he⟩
    | true =>
      refine (show if (!true) = true then _ else _ from iteF ?_)
      obtain ⟨n, rfl, rfl, hn, en⟩ := nameD_some hD e
      obtain ⟨⟨dx, d0, h1, h2⟩, _⟩ := id (L.kp k1)
      refine ⟨_, rfl, _, rfl, p, C, dx, _, _, rfl, h1, LC.cls, LC.nd, lkF_d _ _ _, d0, _, rfl, DGet.k (k := Sum.inr n) h2, _, rfl, ?_⟩
      rw [tk_val]
      by_cases hk : n ∈ keysT s.t
      · have ek : knownD s.t (.str n) = some n := by
          unfold knownD
          rw [en]
          exact if_pos hk
        rw [tval_some hk]
        exact (show if (!true) = true then _ else _ from iteF (w1 n ek H1 k1))
      · have ek : knownD s.t (.str n) = none := by
          unfold knownD
          rw [en]
          exact if_neg hk
        rw [tget_none.mpr hk]
        refine (show if (!false) = true then _ else _ from iteT ?_)
        exact ⟨_, rfl, fun e2 he => w2 ek e2 H1 k1 he⟩
def sp_Link___init__ (K : PySem.W.Frag) (C : Addr) (X : LkX) : Sp := fun vs H Q E => ∃ (p dx : Addr) (v : V) (d : PyData) (N : Addr → Prop), vs = [.ref p, v] ∧ H p = some (.ins C dx []) ∧ Db K N H v d ∧
  (budD d = none → ∀ e, H e = none → E (.ref X.budget) (some e) (upd H e (.xd [("value", v)]))) ∧
  ∀ g, budD d = some g → ∀ q H', H q = none → (∀ b o, H b = some o → b ≠ p → H' b = some o) → LkAt C H' p q ⟨g, [], []⟩ → Q .non H'
theorem budD_some {N : Addr → Prop} {H : Hp} {v : V} {d : PyData} {g : Int} (h : Db K N H v d) (e : budD d = some g) : v = .int g ∧ d = .int g ∧ 1 ≤ g ∧ g ≤ 1000000 := by
  cases h with
  | int i =>
    replace e : (if 1 ≤ i ∧ i ≤ 1000000 then some i else none) = some g := e
    by_cases c : 1 ≤ i ∧ i ≤ 1000000
    · rw [if_pos c] at e
      cases e
      exact ⟨rfl, rfl, c⟩
    · rw [if_neg c] at e
      cases e
  | _ => cases e
theorem amtD_some {N : Addr → Prop} {H : Hp} {v : V} {d : PyData} {g : Int} (h : Db K N H v d) (e : amtD d = some g) : v = .int g ∧ d = .int g ∧ 0 ≤ g ∧ g ≤ 1000000000000 := by
  cases h with
  | int i =>
    replace e : (if 0 ≤ i ∧ i ≤ 1000000000000 then some i else none) = some g := e
    by_cases c : 0 ≤ i ∧ i ≤ 1000000000000
    · rw [if_pos c] at e
      cases e
      exact ⟨rfl, rfl, c⟩
    · rw [if_neg c] at e
      cases e
  | _ => cases e
theorem ok_Link___init__ {f C : Addr} {fd : FuncData} {k : Nat} {X : LkX} (F : Fun K "__init__" "Link.__init__" s_Link___init__ f fd) (LC : LinkC K C)
    (C_require_budget : Cl P w K mg base (L2.CX P w) 4 "require_budget" 1 (sp_require_budget K X)) :
    FnG P w K mg base (L2.CX P w) (k + 5) f fd ["self", "budget"] (sp_Link___init__ K C X) := by
  refine okX F sc_Link___init__ (fun vs H Q E h => ?_) (fun cdv A outer s H vs Q E gd hr h => ?_)
  · obtain ⟨p, dx, v, d, N, rfl, _⟩ := h
    rfl
  · obtain ⟨p, dx, v, d, N, rfl, hp, hD, w1, w2⟩ := h
    refine ⟨_, (pss_cons (ps_expr (pe_clS (E := fun _ => E) C_require_budget (hr.mono (by omega)) gd (fun σ => passAt (W := fun cls d _ H => E cls d H) (takes_of rfl rfl rfl rfl) σ) (by rfl) (pa_cons (pv 1) pa_nil)))
      (pss_cons (ps_fld (pv 0) (pv 1) rfl)
      (pss_cons (ps_fld (pv 0) pe_dnewK rfl)
      (pss_one (ps_fld (pv 0) (pe_li pa_nil) rfl))))), ?_⟩
    refine ⟨_, rfl, v, d, N, rfl, hD, fun e => ?_, w1⟩
    obtain ⟨g, eg⟩ := Option.isSome_iff_exists.mp e
    obtain ⟨rfl, rfl, _⟩ := budD_some hD eg
    refine ⟨_, rfl, _, rfl, p, C, dx, _, rfl, hp, LC.cls, LC.nb, by show 0 < 1000; decide, fun d0 hd0 => ?_⟩
    have npd : p ≠ d0 := ne_of_none (o := .ins C dx (putF "budget" (.int g) [])) upd_same hd0
    have hd0' : H d0 = none := (upd_ne npd.symm).symm.trans hd0
    refine ⟨_, rfl, p, C, dx, _, rfl, (upd_ne npd).trans upd_same, LC.cls, LC.nd, by show 1 < 1000; decide, [], rfl, Nat.zero_le _, fun q H3 nq k3 hq => ?_⟩
    have npq : q ≠ p := fun z => by
      rw [z, upd_same] at nq
      cases nq
    have nq1 : upd (upd H p (.ins C dx (putF "budget" (.int g) []))) d0 (.dK []) q = none := (upd_ne npq).symm.trans nq
    have nqd : q ≠ d0 := fun z => by
      rw [z, upd_same] at nq1
      cases nq1
    have hq0 : H q = none := (upd_ne npq).symm.trans ((upd_ne nqd).symm.trans nq1)
    have hp3 := k3.at0 (show _ = some (.ins C dx (putF "balances" (.ref d0) (putF "budget" (.int g) []))) from upd_same)
    refine ⟨_, rfl, p, C, dx, _, rfl, hp3, LC.cls, LC.nq, by show 2 < 1000; decide, ?_⟩
    rw [lkF_new]
    refine w2 g eg q _ hq0 (fun b o e n => ?_) ?_
    · rw [upd_ne n]
      refine k3.at0 ?_
      rw [upd_ne n, upd_ne (ne_of_none e hd0'), upd_ne n]
      exact e
    · refine ⟨⟨dx, d0, upd_same, ?_⟩, [], ?_, .nil⟩
      · rw [upd_ne npd.symm]
        refine k3.at0 ?_
        rw [upd_ne npd.symm, upd_same]
        rfl
      · rw [upd_ne npq]
        exact hq
/-! ### the defs of links, five -/
theorem OutP.ok {N : Addr → Prop} {C : Addr} {T : List (Addr × Str)} {X : LkX} {H : Hp} {p q : Addr} {r : PyData} {s : LkS} {Q : VK} {E : XK} (h : OutP K C T X N H p q (.ok r s) Q E) :
    ∀ v H', Ks T (Two p q) H H' → LkAt C H' p q s → Db K N H' v r → Q v H' := h
theorem sp_op_len {C : Addr} {T : List (Addr × Str)} {X : LkX} {n : Nat} {f : LkS → List PyData → Out} {vs : List V} {H : Hp} {Q : VK} {E : XK} (h : sp_op K C T X n f vs H Q E) : vs.length = n + 1 := by
  obtain ⟨p, q, s, N, us, ds, rfl, hn, _⟩ := h
  rw [List.length_cons, hn]
theorem db_strs {N : Addr → Prop} {H : Hp} {u : Addr} {W : List Str} (h : SqT K H u (W.map V.str)) : Db K N H (.ref u) (.tuple (W.map .str)) := by
  refine .tup h ?_
  clear h
  induction W with
  | nil => exact .nil
  | cons a r ih => exact .cons (.str a) ih
theorem tput_len_le (t : Tab) (n : Str) (b : Int) : (tput t n b).length ≤ t.length + 1 := by
  by_cases h : n ∈ keysT t
  · rw [tput_len b h]; omega
  · rw [tput_new b h, List.length_append]; exact Nat.le_refl _
theorem ok_Link_enter {f C : Addr} {fd : FuncData} {k : Nat} {T : List (Addr × Str)} {X : LkX} (F : Fun K "enter" "Link.enter" s_Link_enter f fd) (LC : LinkC K C) (m_len : mg "len" = none) {tk0 : Tok} (mg_MOST_SENDERS : mg "MOST_SENDERS" = some (.int 40 tk0))
    (t_BadName : Told P w K mg base "BadName" X.name) (t_TakenName : Told P w K mg base "TakenName" X.taken) (x_FullLink : ExA K mg "FullLink" X.full)
    (C_is_name : Cl P w K mg base CX0 1 "is_name" 1 (sp_is_name K)) (C_require_amount : Cl P w K mg base (L2.CX P w) 4 "require_amount" 1 (sp_require_amount K X)) (M_change : ClM P w K mg base (L2.CX P w) 7 C "change" (sp_Link_change K C T X)) :
    FnG P w K mg base (L2.CX P w) (k + 8) f fd ["self", "name", "balance"] (sp_op K C T X 2 (op2 enterF)) := by
  obtain ⟨_, _, V_BadName, F_BadName⟩ := t_BadName
  obtain ⟨_, _, V_TakenName, F_TakenName⟩ := t_TakenName
  refine okX F sc_Link_enter (fun vs H Q E h => sp_op_len h) (fun cdv A outer s0 H vs Q E gd hr h => ?_)
  obtain ⟨p, q, s, N, us, ds, rfl, hn, L, G, pl, hT, hA, hz, nq, out⟩ := h
  obtain ⟨x, y, dx, dy, rfl, rfl, hx, hy⟩ := two_of hn hA
  have hr2 := hr.mono (show 1 + 1 ≤ k + 7 by omega)
  simp only [szA] at hz
  replace out : OutP K C T X N H p q (enterF s dx dy) Q E := out
  refine ⟨_, (pss_cons (ps_if (pt_not (pt_val (pe_cl C_is_name (hr.mono (by omega)) gd pass0 (by rfl) (pa_cons (pv 1) pa_nil))))
      (pss_one (ps_raise rfl (takes_of rfl rfl rfl rfl) (pmk_value V_BadName F_BadName hr2 (by rfl) (pv 1))))
      pss_nil)
      (pss_cons (ps_if (pt_cmp (pc_din (hu1 hr) (pv 1) (pe_fld (pv 0) rfl)))
      (pss_one (ps_raise rfl (takes_of rfl rfl rfl rfl) (pmk_value V_TakenName F_TakenName hr2 (by rfl) (pv 1))))
      pss_nil)
      (pss_cons (ps_expr (pe_clS (E := fun _ => E) C_require_amount (hr.mono (by omega)) gd (fun σ => passAt (W := fun cls d _ H => E cls d H) (takes_of rfl rfl rfl rfl) σ) (by rfl) (pa_cons (pv 2) pa_nil)))
      (pss_cons (ps_if (pt_cmpR op_ge (pe_callB call_lenD (by rfl) m_len (by decide +kernel) (pa_cons (pe_fld (pv 0) rfl) pa_nil)) (pe_glob (v := .int 40) rfl mg_MOST_SENDERS ⟨_, rfl⟩) (nomark _))
      (pss_one (ps_raise rfl (takes_of rfl rfl rfl rfl) (pmk_own0 PySem.F.excBase_ValueError x_FullLink.x x_FullLink.g x_FullLink.k (raises_own x_FullLink.b x_FullLink.t) (by rfl))))
      pss_nil)
      (pss_one (ps_expr (pe_clM (E := fun _ => E) LC.cls M_change (hr.mono (by omega)) gd (fun σ => passAt (W := fun cls d _ H => E cls d H) (takes_of rfl rfl rfl rfl) σ) (pv 0) (pa_cons (pe_fld (pv 0) rfl) (pa_cons (pe_dstar (pe_fld (pv 0) rfl) (pv 1) (pv 2)) pa_nil))))))))), ?_⟩
  refine ⟨_, rfl, x, dx, N, rfl, hx, by omega, fun H1 k1 => ?_⟩
  refine ⟨_, rfl, ?_⟩
  cases e1 : (nameD dx).isSome with
  | false =>
    refine (show if (!false) = true then _ else _ from iteT ?_)
    unfold enterF at out
    rw [Option.isNone_iff_eq_none.mp (Option.isSome_eq_false_iff.mp e1)] at out
    exact ⟨_, rfl, fun e he => out x e H1 k1.kt (hx.stay k1.stay) he⟩
  | true =>
    refine (show if (!true) = true then _ else _ from iteF ?_)
    obtain ⟨n, rfl, rfl, nn, en⟩ := nameD_some hx e1
    unfold enterF at out
    rw [en] at out
    have L1 := L.kp k1
    obtain ⟨⟨dv, d0, h1, h2⟩, _⟩ := id L1
    refine ⟨_, rfl, _, rfl, p, C, dv, _, _, rfl, h1, LC.cls, LC.nd, lkF_d _ _ _, d0, _, rfl, DGet.k (k := Sum.inr n) h2, _, rfl, ?_⟩
    rw [tk_val]
    by_cases hk : n ∈ keysT s.t
    · rw [tval_some hk]
      refine (show if true = true then _ else _ from iteT ?_)
      replace out : OutP K C T X N H p q (if n ∈ keysT s.t then .bad .taken (.str n) else _) Q E := out
      rw [if_pos hk] at out
      exact ⟨_, rfl, fun e he => out (.str n) e H1 k1.kt (.str n) he⟩
    · rw [tget_none.mpr hk]
      refine (show if false = true then _ else _ from iteF ?_)
      replace out : OutP K C T X N H p q (if n ∈ keysT s.t then .bad .taken (.str n) else (match amtD dy with | none => .bad .amount dy | some a => if 40 ≤ s.t.length then .bad .full .none else changeF s s.b (tput s.t n a) .none)) Q E := out
      rw [if_neg hk] at out
      have hy1 := hy.stay (k1.stay (N := N))
      refine ⟨_, rfl, y, dy, N, rfl, hy1, fun ea => ?_, fun ea e he => ?_⟩
      · obtain ⟨a, ea⟩ := Option.isSome_iff_exists.mp ea
        obtain ⟨rfl, rfl, _⟩ := amtD_some hy1 ea
        rw [ea] at out
        refine ⟨_, rfl, p, C, dv, _, _, rfl, h1, LC.cls, LC.nd, lkF_d _ _ _, d0, _, rfl, h2, _, _, rfl, rfl, _, rfl, ?_⟩
        rw [tk_len]
        replace out : OutP K C T X N H p q (if 40 ≤ s.t.length then .bad .full .none else changeF s s.b (tput s.t n a) .none) Q E := out
        by_cases h40 : 40 ≤ s.t.length
        · rw [if_pos h40] at out
          refine (show if decide ((s.t.length : Int) ≥ 40) = true then _ else _ from ifYes (by omega) ?_)
          exact out H1 k1.kt
        · rw [if_neg h40] at out
          refine (show if decide ((s.t.length : Int) ≥ 40) = true then _ else _ from ifNo (by omega) ?_)
          refine ⟨_, rfl, p, dv, _, rfl, h1, no_attr, ?_⟩
          refine ⟨_, rfl, p, C, dv, _, _, rfl, h1, LC.cls, LC.nb, lkF_b _ _ _, fun u nu => ?_⟩
          have npu : p ≠ u := ne_of_none h1 nu
          have ndu : d0 ≠ u := ne_of_none h2 nu
          have h1u := (upd_ne (o := .dK []) npu).trans h1
          have h2u := (upd_ne (o := .dK []) ndu).trans h2
          refine ⟨_, rfl, p, C, dv, _, _, rfl, h1u, LC.cls, LC.nd, lkF_d _ _ _, d0, tk s.t, rfl, ndu, .inl h2u, upd_same, by rw [tk_len, sizeLine_eq]; omega, fun u2 nu2 => ?_⟩
          have nu2u : u2 ≠ u := fun z => by
            rw [z, upd_same] at nu2
            cases nu2
          have nu2' : H1 u2 = none := (upd_ne nu2u).symm.trans nu2
          refine ⟨_, rfl, _, rfl, Sum.inr n, rfl, (upd_ne nu2u.symm).trans upd_same, upd_same, nu2u, ?_⟩
          rw [tk_put]
          generalize hH2 : upd (upd (upd (upd (upd H1 u (.dK [])) u (.dK (tk s.t))) u2 (.dK [])) u2 (.dK [(Sum.inr n, .int a)])) u (.dK (tk (tput s.t n a))) = H2
          have k2 : Kp [] H1 H2 := fun b o _ e => by
            rw [← hH2]
            have b1 := ne_of_none e nu
            have b2 := ne_of_none e nu2'
            rw [upd_ne b1, upd_ne b2, upd_ne b2, upd_ne b1, upd_ne b1]
            exact e
          have hu2 : H2 u = some (.dK (tk (tput s.t n a))) := by rw [← hH2]; exact upd_same
          refine ⟨p, q, s, s.b, u, tput s.t n a, rfl, L1.kp k2, hu2, tput_nd a G.now.nd, by have := tput_len_le s.t n a; omega, G.now.b1, (k1.trans k2).kt.tab hT, pl, fun W ew z e H3 k3 hz3 he => ?_, fun ew H3 k3 L3 => ?_⟩
          · unfold changeF at out
            rw [ew] at out
            exact out (.ref z) e H3 ((k1.trans k2).kt.trans k3) (db_strs hz3) he
          · unfold changeF at out
            rw [ew] at out
            exact out.ok .non H3 ((Ks.of (k1.trans k2).kt).trans k3) L3 .non
      · rw [ea] at out
        exact out y e H1 k1.kt hy1 he
/-! ### the defs of links, six -/
def sp_Link_names (K : PySem.W.Frag) (C : Addr) : Sp := fun vs H Q _ => ∃ (p q : Addr) (s : LkS), vs = [.ref p] ∧ LkAt C H p q s ∧ s.t.length ≤ 40 ∧ ∀ u H', Kp [] H H' → SqT K H' u ((nsT s.t).map V.str) → Q (.ref u) H'
theorem ok_Link_names {f C : Addr} {fd : FuncData} {k : Nat} (F : Fun K "names" "Link.names" s_Link_names f fd) (LC : LinkC K C) (m_tuple : mg "tuple" = none) (m_sorted : mg "sorted" = none) :
    FnG P w K mg base CX0 (k + 1) f fd ["self"] (sp_Link_names K C) := by
  refine ok0 F sc_Link_names (fun vs H Q E h => ?_) (fun cdv A outer s H vs Q E gd hr h => ?_)
  · obtain ⟨p, q, s, rfl, _⟩ := h
    rfl
  · obtain ⟨p, q, s, rfl, L, hl, w⟩ := h
    obtain ⟨⟨dx, d0, h1, h2⟩, _⟩ := id L
    refine ⟨_, (pss_one (ps_ret (pe_callTy (call_tupF (K := K) rfl) (by rfl) m_tuple (by decide +kernel) (pa_cons (pe_callB (cr_srtDS rfl) (by rfl) m_sorted (by decide +kernel) (pa_cons (pe_fld (pv 0) rfl) pa_nil)) pa_nil)))), ?_⟩
    have kl : (keysT s.t).length = s.t.length := List.length_map _
    refine ⟨_, rfl, p, C, dx, _, _, rfl, h1, LC.cls, LC.nd, lkF_d _ _ _, d0, tk s.t, keysT s.t, rfl, .inl h2, tk_keys s.t, by omega, fun ys pm so l H1 nl k1 h1 => ?_⟩
    obtain rfl := srtN_of pm so
    exact ⟨l, _, rfl, sqL h1, fun u H2 o nu k2 du hu => w u H2 (k1.trans k2) (sqF hu)⟩
def sp_Link_balance_of (K : PySem.W.Frag) (C : Addr) (X : LkX) : Sp := fun vs H Q E => ∃ (p q : Addr) (s : LkS) (v : V) (d : PyData) (N : Addr → Prop), vs = [.ref p, v] ∧ LkAt C H p q s ∧ Db K N H v d ∧ szD d ≤ 1000000 ∧
  (∀ n, knownD s.t d = some n → ∀ H', Kp [] H H' → Q (.int (tval s.t n)) H') ∧ (knownD s.t d = none → ∀ e H', Kp [] H H' → H' e = none → E (.ref X.unknown) (some e) (upd H' e (.xd [("value", v)])))
theorem known_str {N : Addr → Prop} {H : Hp} {v : V} {d : PyData} {t : Tab} {n : Str} (h : Db K N H v d) (e : knownD t d = some n) : v = .str n ∧ n ∈ keysT t := by
  obtain ⟨hn, rfl⟩ := knownD_in e
  cases h
  exact ⟨rfl, hn⟩
theorem ok_Link_balance_of {f C : Addr} {fd : FuncData} {k : Nat} {X : LkX} (F : Fun K "balance_of" "Link.balance_of" s_Link_balance_of f fd) (LC : LinkC K C) (M_require_known : ClM P w K mg base (L2.CX P w) 3 C "require_known" (sp_Link_require_known K C X)) :
    FnG P w K mg base (L2.CX P w) (k + 4) f fd ["self", "name"] (sp_Link_balance_of K C X) := by
  refine okX F sc_Link_balance_of (fun vs H Q E h => ?_) (fun cdv A outer s H vs Q E gd hr h => ?_)
  · obtain ⟨p, q, s, v, d, N, rfl, _⟩ := h
    rfl
  · obtain ⟨p, q, s, v, d, N, rfl, L, hD, hz, w1, w2⟩ := h
    obtain ⟨⟨dx, d0, h1, h2⟩, _⟩ := id L
    refine ⟨_, (pss_cons (ps_expr (pe_clM (E := fun _ => E) LC.cls M_require_known (hr.mono (by omega)) gd (fun σ => passAt (W := fun cls d _ H => E cls d H) (takes_of rfl rfl rfl rfl) σ) (pv 0) (pa_cons (pv 1) pa_nil)))
      (pss_one (ps_ret (pe_dget (hu1 hr) (pe_fld (pv 0) rfl) (pv 1) (fun _ _ => rfl))))), ?_⟩
    refine ⟨_, rfl, p, dx, _, rfl, h1, no_attr, _, rfl, p, q, s, v, d, N, rfl, L, hD, hz, fun n en H1 k1 => ?_, w2⟩
    obtain ⟨rfl, hn⟩ := known_str hD en
    exact ⟨_, rfl, p, C, dx, _, _, rfl, k1.at0 h1, LC.cls, LC.nd, lkF_d _ _ _, _, rfl, d0, _, rfl, tk_get (k1.at0 h2) hn, w1 n en H1 k1⟩
def sp_Link_current_budget (C : Addr) : Sp := fun vs H Q _ => ∃ (p q : Addr) (s : LkS), vs = [.ref p] ∧ LkAt C H p q s ∧ Q (.int s.b) H
theorem ok_Link_current_budget {f C : Addr} {fd : FuncData} {k : Nat} (F : Fun K "current_budget" "Link.current_budget" s_Link_current_budget f fd) (LC : LinkC K C) :
    FnG P w K mg base CX0 (k + 1) f fd ["self"] (sp_Link_current_budget C) := by
  refine ok0 F sc_Link_current_budget (fun vs H Q E h => ?_) (fun cdv A outer s H vs Q E gd hr h => ?_)
  · obtain ⟨p, q, s, rfl, _⟩ := h
    rfl
  · obtain ⟨p, q, s, rfl, L, w⟩ := h
    obtain ⟨⟨dx, d0, h1, h2⟩, _⟩ := id L
    exact ⟨_, (pss_one (ps_ret (pe_fld (pv 0) rfl))), ⟨_, rfl, p, C, dx, _, _, rfl, h1, LC.cls, LC.nb, lkF_b _ _ _, w⟩⟩
def sp_Link_changes (C : Addr) : Sp := fun vs H Q _ => ∃ (p q : Addr) (s : LkS), vs = [.ref p] ∧ LkAt C H p q s ∧ Q (.int (s.past.length : Int)) H
theorem ok_Link_changes {f C : Addr} {fd : FuncData} {k : Nat} (F : Fun K "changes" "Link.changes" s_Link_changes f fd) (LC : LinkC K C) (m_len : mg "len" = none) :
    FnG P w K mg base CX0 (k + 1) f fd ["self"] (sp_Link_changes C) := by
  refine ok0 F sc_Link_changes (fun vs H Q E h => ?_) (fun cdv A outer s H vs Q E gd hr h => ?_)
  · obtain ⟨p, q, s, rfl, _⟩ := h
    rfl
  · obtain ⟨p, q, s, rfl, L, w⟩ := h
    obtain ⟨⟨dx, d0, h1, h2⟩, ps, h3, h4⟩ := id L
    refine ⟨_, (pss_one (ps_ret (pe_callB (call_len_seqK (K := K) rfl) (by rfl) m_len (by decide +kernel) (pa_cons (pe_fld (pv 0) rfl) pa_nil)))), ?_⟩
    refine ⟨_, rfl, p, C, dx, _, _, rfl, h1, LC.cls, LC.nq, lkF_q _ _ _, q, _, rfl, .inl (sqL h3), ?_⟩
    rw [h4.len]
    exact w
/-! ### the defs of links, seven -/
/-! ### the defs of links, eight -/
/-! ### the defs of links, nine -/
/-! ### a new link -/
theorem good_new {g : Int} (h1 : 1 ≤ g) (h2 : g ≤ 1000000) (ps : List (Int × Tab)) (hp : ps = []) : Good ⟨g, [], ps⟩ := by
  subst hp
  exact ⟨⟨h1, h2, Nat.zero_le _, .nil, fun _ h => (nomatch h), gap_nil g⟩, fun _ z => nomatch z⟩
theorem link_new {K : PySem.W.Frag} {C : Addr} {X : LkX} {H : Hp} {p dx : Addr} {g : Int} {Q : VK} {E : XK} (n1 : H p = none) (n2 : H dx = none) (ne : dx ≠ p) (g1 : 1 ≤ g) (g2 : g ≤ 1000000)
    (qq : ∀ q H', Kp [] H H' → H q = none → LkAt C H' p q ⟨g, [], []⟩ → Q .non H') : sp_Link___init__ K C X [.ref p, .int g] (upd (upd H dx (.own p)) p (.ins C dx [])) Q E := by
  refine ⟨p, dx, _, _, (fun _ => False), rfl, upd_same, .int g, fun z => ?_, fun g' eg q H1 nq ext L1 => ?_⟩
  · rw [show budD (.int g) = some g from if_pos ⟨g1, g2⟩] at z
    cases z
  obtain rfl : g = g' := by
    rw [show budD (.int g) = some g from if_pos ⟨g1, g2⟩] at eg
    exact Option.some.inj eg
  have nqp : q ≠ p := fun z => by rw [z, upd_same] at nq; cases nq
  have nqd : q ≠ dx := fun z => by rw [z, upd_ne ne, upd_same] at nq; cases nq
  have nq0 : H q = none := by rw [upd_ne nqp, upd_ne nqd] at nq; exact nq
  have k1 : Kp [] H H1 := fun b o _ e => ext b o (by
    have : b ≠ p := fun z => by rw [z, n1] at e; cases e
    have : b ≠ dx := fun z => by rw [z, n2] at e; cases e
    rw [upd_ne ‹b ≠ p›, upd_ne ‹b ≠ dx›]
    exact e) fun z => by rw [z, n1] at e; cases e
  exact qq q H1 k1 nq0 L1
/-! ### a clone -/
def sp_Link_clone (C : Addr) : Sp := fun vs H Q _ => ∃ (p q : Addr) (s : LkS), vs = [.ref p] ∧ LkAt C H p q s ∧ Good s ∧ ∀ p2 q2 H', Kp [] H H' → H p2 = none → H q2 = none → p2 ≠ q2 → LkAt C H' p2 q2 ⟨s.b, s.t, []⟩ → Q (.ref p2) H'
theorem ok_Link_clone {f C : Addr} {fd : FuncData} {k : Nat} {X : LkX} (F : Fun K "clone" "Link.clone" s_Link_clone f fd) (LC : LinkC K C) (m_dict : mg "dict" = none)
    (N_Link : ClN P w K mg base (L2.CX P w) 5 "Link" C (sp_Link___init__ K C X)) :
    FnG P w K mg base CX0 (k + 7) f fd ["self"] (sp_Link_clone C) := by
  refine ok0 F sc_Link_clone (fun vs H Q E h => ?_) (fun cdv A outer s H vs Q E gd hr h => ?_)
  · obtain ⟨p, q, s, rfl, _⟩ := h
    rfl
  · obtain ⟨p, q, s0, rfl, L, G, out⟩ := h
    refine ⟨_, (pss_cons (ps_set (i := 1) sc_Link_clone.nd rfl (.inl rfl) (pe_clN (E := fun _ _ _ _ => False) N_Link (hr.mono (by omega)) gd passFS (by rfl) (pa_cons (pe_fld (pv 0) rfl) pa_nil)))
      (pss_cons (ps_fld (pv 1) (pe_callTy (cr_dictD (K := K) rfl) (by rfl) m_dict (by decide +kernel) (pa_cons (pe_fld (pv 0) rfl) pa_nil)) rfl)
      (pss_one (ps_ret (pv 1))))), ?_⟩
    obtain ⟨⟨dx, d, h1, h2⟩, vs0, h3, h4⟩ := id L
    refine ⟨_, rfl, p, C, dx, _, _, rfl, h1, LC.cls, LC.nb, lkF_b _ _ _, ?_⟩
    refine fun p2 dx2 n1 n2 ne => link_new n1 n2 ne G.now.b1 G.now.b2 fun q2 H1 k1 nq2 L1 => ⟨rfl, ?_⟩
    obtain ⟨⟨dx3, d3, h5, h6⟩, vs1, h7, h8⟩ := id L1
    refine ⟨_, rfl, p, C, dx, _, _, rfl, k1.at0 h1, LC.cls, LC.nd, lkF_d _ _ _, d, tk s0.t, rfl, .inl (k1.at0 h2), fun d4 H2 nd4 k2 hd4 => ?_⟩
    have h52 := k2.at0 h5
    have h72 := k2.at0 h7
    refine ⟨_, rfl, p2, C, dx3, _, rfl, h52, LC.cls, LC.nd, by show 3 < 1000; decide, ?_⟩
    rw [lkF_putD]
    refine ⟨_, rfl, ?_⟩
    have q2p2 : p2 ≠ q2 := L1.ne
    have nd4p : d4 ≠ p2 := fun z => by rw [z, h52] at hd4; cases hd4
    have k : Kp [] H (upd H2 p2 (.ins C dx3 (lkF s0.b d4 q2))) := fun b o z e => by
      rw [upd_ne (ne_of_none e n1)]
      exact (k1.trans k2) b o z e
    refine out p2 q2 _ k n1 nq2 q2p2 ⟨⟨dx3, d4, upd_same, (upd_ne nd4p).trans hd4⟩, vs1, (upd_ne q2p2.symm).trans h72, ?_⟩
    cases h8
    exact .nil
/-! ### texts, pure -/
open TL
/-- str(n) of a number -/
def tnum (n : Int) : Str := Str.ofString (toString n)
def digitsS : Str := "0123456789"
def isDig (w : Str) : Bool := w.cps.toList.all fun c => decide (c ∈ digitsS.cps.toList)
def numF (w : Str) (lo hi : Int) : Option Int :=
  if (decide (1 ≤ w.length ∧ w.length ≤ 13) && isDig w) = true then
    if w.cps.toList.head? = some 48 ∧ w ≠ "0" then none
    else if lo ≤ (NumText.digitsVal w.cps.toList : Int) ∧ (NumText.digitsVal w.cps.toList : Int) ≤ hi then some (NumText.digitsVal w.cps.toList : Int) else none
  else none
theorem digS_mem (c : Nat) : c ∈ digitsS.cps.toList ↔ 48 ≤ c ∧ c ≤ 57 := by
  have e : digitsS.cps.toList = [48, 49, 50, 51, 52, 53, 54, 55, 56, 57] := by decide +kernel
  rw [e]
  simp only [List.mem_cons, List.not_mem_nil, or_false]
  omega
theorem isDig_all {w : Str} (h : isDig w = true) : NumText.AllDigits w.cps.toList := by
  intro c hc
  have := List.all_eq_true.mp h c hc
  exact (digS_mem c).mp (of_decide_eq_true this)
theorem all_isDig {w : Str} (h : NumText.AllDigits w.cps.toList) : isDig w = true :=
  List.all_eq_true.mpr fun c hc => decide_eq_true ((digS_mem c).mpr (h c hc))
theorem val_snoc (r : List Nat) (c : Nat) : NumText.digitsVal (r ++ [c]) = NumText.digitsVal r * 10 + (c - 48) := by
  unfold NumText.digitsVal
  rw [List.foldl_append]
  rfl
theorem canon : ∀ (n : Nat) (l : List Nat), l.length = n → NumText.AllDigits l → l ≠ [] → (l.head? = some 48 → l = [48]) → numL (NumText.digitsVal l) = l := by
  intro n
  induction n with
  | zero => intro l hl _ hn _; exact absurd (List.length_eq_zero_iff.mp hl) hn
  | succ n ih =>
    intro l hl hd hn hh
    obtain ⟨r, c, rfl⟩ : ∃ r c, l = r ++ [c] := ⟨l.dropLast, l.getLast hn, (List.dropLast_concat_getLast hn).symm⟩
    have hc := hd c (List.mem_append_right _ (List.mem_singleton.mpr rfl))
    rw [val_snoc]
    by_cases hr : r = []
    · subst hr
      show numL (0 * 10 + (c - 48)) = [c]
      rw [numL_lt (by omega)]
      congr 1
      omega
    · have hr2 : r.head? ≠ some 48 := by
        intro e
        have e2 := hh (by rw [List.head?_append, e]; rfl)
        have := congrArg List.length e2
        rw [List.length_append] at this
        have h1 : r.length ≠ 0 := fun z => hr (List.length_eq_zero_iff.mp z)
        have h2 : [c].length = 1 := rfl
        have h3 : [48].length = 1 := rfl
        omega
      have e1 := ih r (by rw [List.length_append] at hl; have : [c].length = 1 := rfl; omega) (fun x hx => hd x (List.mem_append_left _ hx)) hr fun e => absurd e hr2
      have h0 : NumText.digitsVal r ≠ 0 := by
        intro e
        rw [e] at e1
        rw [numL_lt (by decide)] at e1
        rw [← e1] at hr2
        exact hr2 rfl
      rw [numL_step (by omega), show (NumText.digitsVal r * 10 + (c - 48)) / 10 = NumText.digitsVal r by omega, e1]
      congr 2
      omega
theorem tnum_tl (n : Nat) : (tnum (n : Int)).cps.toList = numL n := tl_num n
theorem zeroS : ("0" : Str).cps.toList = [48] := by decide +kernel
theorem str_ext {x y : Str} (h : x.cps.toList = y.cps.toList) : x = y := ext_tl h
theorem numF_some {w : Str} {lo hi n : Int} (h : numF w lo hi = some n) : w = tnum n ∧ lo ≤ n ∧ n ≤ hi ∧ 0 ≤ n := by
  unfold numF at h
  split at h
  · rename_i hc
    rw [Bool.and_eq_true] at hc
    have hl := of_decide_eq_true hc.1
    split at h
    · cases h
    · rename_i hz
      split at h
      · rename_i hb
        cases h
        refine ⟨str_ext ?_, hb.1, hb.2, by omega⟩
        rw [tnum_tl]
        refine (canon _ _ rfl (isDig_all hc.2) (fun e => ?_) fun e => ?_).symm
        · have : w.cps.toList.length = w.length := rfl
          rw [e] at this
          have h0 : ([] : List Nat).length = 0 := rfl
          omega
        · by_cases c : w = "0"
          · rw [c]; exact zeroS
          · exact absurd ⟨e, c⟩ hz
      · cases h
  · cases h
theorem numL_head {n : Nat} (h : (numL n).head? = some 48) : n = 0 := by
  induction n using Nat.strongRecOn with
  | _ n ih =>
    by_cases c : n < 10
    · rw [numL_lt c] at h
      have : 48 + n = 48 := Option.some.inj h
      omega
    · rw [numL_step (by omega)] at h
      have e : (numL (n / 10)).head? = some 48 := by
        rw [List.head?_append] at h
        cases e : (numL (n / 10)).head? with
        | none => exact absurd (List.head?_eq_none_iff.mp e) (numL_ne _)
        | some x => rw [e] at h; exact h
      have := ih (n / 10) (by omega) e
      omega
theorem tnum_zero : tnum 0 = "0" := by decide +kernel
theorem numF_of {lo hi n : Int} (h0 : 0 ≤ n) (h1 : lo ≤ n) (h2 : n ≤ hi) (h3 : n < 10000000000000) : numF (tnum n) lo hi = some n := by
  obtain ⟨m, rfl⟩ : ∃ m : Nat, n = (m : Int) := ⟨n.toNat, by omega⟩
  have et := tnum_tl m
  have ev : NumText.digitsVal (tnum (m : Int)).cps.toList = m := by rw [et]; exact numL_val m
  unfold numF
  have hd : isDig (tnum (m : Int)) = true := all_isDig (by rw [et]; exact numL_digits m)
  have hlen : (tnum (m : Int)).length = (numL m).length := by rw [← et]; rfl
  have l1 : (numL m).length ≤ 13 := numL_len (k := 13) (by decide) (by omega)
  have l0 : (numL m).length ≠ 0 := fun z => numL_ne m (List.length_eq_zero_iff.mp z)
  rw [hd, decide_eq_true (show 1 ≤ (tnum (m : Int)).length ∧ (tnum (m : Int)).length ≤ 13 by omega), Bool.and_self, if_pos rfl, if_neg, ev, if_pos ⟨h1, h2⟩]
  rintro ⟨hh, hz⟩
  rw [et] at hh
  have := numL_head hh
  subst this
  exact hz tnum_zero
theorem tnum_len {n : Int} (h0 : 0 ≤ n) (h1 : n < 10000000000000) : (tnum n).length ≤ 13 ∧ 1 ≤ (tnum n).length := by
  obtain ⟨m, rfl⟩ : ∃ m : Nat, n = (m : Int) := ⟨n.toNat, by omega⟩
  have hlen : (tnum (m : Int)).length = (numL m).length := by rw [← tnum_tl]; rfl
  have l0 : (numL m).length ≠ 0 := fun z => numL_ne m (List.length_eq_zero_iff.mp z)
  have l1 : (numL m).length ≤ 13 := numL_len (k := 13) (by decide) (by omega)
  omega
/-! ### balances as a text -/
def blankS : Str := " "
def lineS : Str := "\n"
theorem blank_tl : blankS.cps.toList = [32] := by decide +kernel
theorem line_tl : lineS.cps.toList = [10] := by decide +kernel
/-- what words write: one to forty amounts -/
def numsF (ws : List Str) : Option (List Int) := if 1 ≤ ws.length ∧ ws.length ≤ 40 then ws.mapM fun w => numF w 0 1000000000000 else none
theorem spl_ne (S : List Nat) : ∀ (l : List Nat) (k : Nat) (acc : List Nat), spl S k acc l ≠ []
  | [], k, acc => by rw [spl_nil]; exact fun z => nomatch z
  | c :: r, 0, acc => by
    cases h : pre S (c :: r) with
    | true => rw [spl_hit h]; exact fun z => nomatch z
    | false => rw [spl_miss h]; exact spl_ne S r 0 _
  | c :: r, k + 1, acc => by
    rw [spl_pass]
    show spl S 0 acc (r.drop k) ≠ []
    have : (r.drop k).length < (c :: r).length := by rw [List.length_drop, List.length_cons]; omega
    exact spl_ne S (r.drop k) 0 acc
termination_by l => l.length
theorem split_tl (y : Str) (hy : y.cps.toList ≠ []) (hk : y.cps.all (· < 256) = true) (x : Str) : (Txt.split x y).map TL.tl = spl (TL.tl y) 0 [] (TL.tl x) := split_spl x y hy (kind_ok hk)
theorem blank_ne (x : Str) : Txt.split x " " ≠ [] := fun e => by
  have := split_tl blankS (by rw [blank_tl]; exact fun z => nomatch z) (by decide +kernel) x
  have e2 : Txt.split x blankS = [] := e
  rw [e2] at this
  exact spl_ne _ _ _ _ this.symm
theorem line_ne (x : Str) : Txt.split x "\n" ≠ [] := fun e => by
  have := split_tl lineS (by rw [line_tl]; exact fun z => nomatch z) (by decide +kernel) x
  have e2 : Txt.split x lineS = [] := e
  rw [e2] at this
  exact spl_ne _ _ _ _ this.symm
/-! ### the sizes of what is split -/
theorem spl_sum (S : List Nat) : ∀ (l : List Nat) (k : Nat) (acc : List Nat), ((spl S k acc l).map List.length).sum ≤ acc.length + l.length ∧ (spl S k acc l).length ≤ l.length + 1
  | [], k, acc => by rw [spl_nil]; simp
  | c :: r, 0, acc => by
    cases h : pre S (c :: r) with
    | true =>
      rw [spl_hit h]
      have := spl_sum S r (S.length - 1) []
      simp only [List.map_cons, List.sum_cons, List.length_cons, List.length_nil] at this ⊢
      omega
    | false =>
      rw [spl_miss h]
      have := spl_sum S r 0 (acc ++ [c])
      simp only [List.length_append, List.length_cons, List.length_nil] at this ⊢
      omega
  | c :: r, k + 1, acc => by
    rw [spl_pass]
    show ((spl S 0 acc (r.drop k)).map List.length).sum ≤ _ ∧ (spl S 0 acc (r.drop k)).length ≤ _
    have h : (r.drop k).length ≤ r.length := by rw [List.length_drop]; omega
    have := spl_sum S (r.drop k) 0 acc
    simp only [List.length_cons] at this ⊢
    omega
termination_by l => l.length
decreasing_by
  all_goals simp_wf
  all_goals try omega
theorem len_split {x : Str} {ws : List Str} (h : ws.map TL.tl = spl S 0 [] (TL.tl x)) : ws.length ≤ x.length + 1 ∧ ∀ y ∈ ws, y.length ≤ x.length := by
  have e := spl_sum S (TL.tl x) 0 []
  rw [← h] at e
  rw [List.length_map, List.map_map] at e
  have lx : x.length = (TL.tl x).length := len_tl x
  refine ⟨by omega, fun y hy => ?_⟩
  have h1 : y.length ≤ (ws.map (List.length ∘ TL.tl)).sum := by
    have : ∀ l : List Str, y ∈ l → y.length ≤ (l.map (List.length ∘ TL.tl)).sum := by
      intro l
      induction l with
      | nil => intro h; cases h
      | cons z r ih =>
        intro h
        rw [List.map_cons, List.sum_cons]
        rcases List.mem_cons.mp h with q | q
        · rw [q, len_tl]
          show _ ≤ (TL.tl z).length + _
          omega
        · have := ih q
          omega
    exact this ws hy
  have h2 : ([] : List Nat).length = 0 := rfl
  omega
theorem blank_len (x : Str) : (Txt.split x " ").length ≤ x.length + 1 ∧ ∀ y ∈ Txt.split x " ", y.length ≤ x.length :=
  len_split (S := TL.tl blankS) (split_tl blankS (by rw [blank_tl]; exact fun z => nomatch z) (by decide +kernel) x)
theorem line_len (x : Str) : (Txt.split x "\n").length ≤ x.length + 1 ∧ ∀ y ∈ Txt.split x "\n", y.length ≤ x.length :=
  len_split (S := TL.tl lineS) (split_tl lineS (by rw [line_tl]; exact fun z => nomatch z) (by decide +kernel) x)
/-! ### links, called by themselves (for texts) -/
theorem tnil_z {σ : List (Option V)} {H : Hp} {Q : List V → Hp → Prop} (h : Q [] H) : tNil σ H Q := h
theorem known_z {t : Tab} {n : Str} (nm : isNm n = true) (h : n ∈ keysT t) : knownD t (.str n) = some n := by
  unfold knownD
  rw [show nameD (.str n) = some n from if_pos nm]
  show (if n ∈ keysT t then some n else none) = some n
  rw [if_pos h]
theorem bal_z {K : PySem.W.Frag} {C : Addr} {X : LkX} {H : Hp} {p q : Addr} {s : LkS} {x : Str} {Q : VK} {E : XK} (hn : isNm x = true) (hk : x ∈ keysT s.t) (L : LkAt C H p q s) (qq : ∀ H', Kp [] H H' → Q (.int (tval s.t x)) H') : sp_Link_balance_of K C X [.ref p, .str x] H Q E := by
  have e := known_z hn hk
  have hz : szD (.str x) ≤ 1000000 := by
    have := isNm_len hn
    simp only [szD]
    omega
  refine ⟨p, q, s, .str x, .str x, (fun _ => False), rfl, L, .str x, hz, fun n hn H' k => ?_, fun z => by rw [e] at z; cases z⟩
  rw [e] at hn
  rw [← Option.some.inj hn]
  exact qq H' k
theorem gap_fst {b : Int} {l m : List Int} (h : gapOf b (l ++ m) = none) : gapOf b l = none := by
  have go : ∀ l m : List Int, gapOf b (l ++ m) = none → gapOf b m = none := fun l => by
    induction l with
    | nil => exact fun _ h => h
    | cons x r ih => exact fun m h => ih m (safe_cons.mp h).1
  exact go m l (by rw [gap_congr List.perm_append_comm]; exact h)
theorem at_z {C : Addr} {H : Hp} {p q : Addr} {s : LkS} {m : Str} {R : Prop} (L : LkAt C H p q s) (hm : ¬ m = "budget" ∧ ¬ m = "balances" ∧ ¬ m = "past") (r : R) : ∃ (a dx : Addr) (fs : List (Str × V)), V.ref p = .ref a ∧ H a = some (.ins C dx fs) ∧ fs.lookup m = none ∧ R := by
  obtain ⟨⟨dx, d, h1, h2⟩, _⟩ := L
  exact ⟨p, dx, _, rfl, h1, lkF_no _ _ _ hm.1 hm.2.1 hm.2.2, r⟩
theorem z_enter : ¬ (("enter" : Str) = "budget") ∧ ¬ (("enter" : Str) = "balances") ∧ ¬ (("enter" : Str) = "past") := by decide +kernel
theorem z_changes : ¬ (("changes" : Str) = "budget") ∧ ¬ (("changes" : Str) = "balances") ∧ ¬ (("changes" : Str) = "past") := by decide +kernel
theorem z_clone : ¬ (("clone" : Str) = "budget") ∧ ¬ (("clone" : Str) = "balances") ∧ ¬ (("clone" : Str) = "past") := by decide +kernel
theorem z_names : ¬ (("names" : Str) = "budget") ∧ ¬ (("names" : Str) = "balances") ∧ ¬ (("names" : Str) = "past") := by decide +kernel
theorem z_balance_of : ¬ (("balance_of" : Str) = "budget") ∧ ¬ (("balance_of" : Str) = "balances") ∧ ¬ (("balance_of" : Str) = "past") := by decide +kernel
theorem z_current_budget : ¬ (("current_budget" : Str) = "budget") ∧ ¬ (("current_budget" : Str) = "balances") ∧ ¬ (("current_budget" : Str) = "past") := by decide +kernel
theorem ifNe {α : Type} [DecidableEq α] {x y : α} {A B : Prop} (h : x = y) (b : B) : if (!decide (x = y)) = true then A else B := by
  rw [decide_eq_true h]
  exact b
theorem ifNeY {α : Type} [DecidableEq α] {x y : α} {A B : Prop} (h : ¬ x = y) (a : A) : if (!decide (x = y)) = true then A else B := by
  rw [decide_eq_false h]
  exact a
theorem new_z {T : List (Addr × Str)} {H H1 H2 : Hp} {p2 q2 : Addr} (k : Kt T H H1) (n2 : Nt H p2) (n3 : Nt H q2) (k2 : Ks T (Two p2 q2) H1 H2) : Kt T H H2 :=
  ((Ks.of (S := Two p2 q2) k).trans k2).toKt fun a z => by
    rcases z with rfl | rfl
    · exact n2
    · exact n3
/-! ### the defs of texts -/
theorem int_of {w : Str} (h : isDig w = true) (l1 : 1 ≤ w.length) (l2 : w.length ≤ 13) : PySem.intText? w = some (NumText.digitsVal w.cps.toList : Int) := by
  refine intText_digits (isDig_all h) (fun e => ?_) (by omega)
  have : w.cps.toList.length = w.length := rfl
  rw [e] at this
  have h0 : ([] : List Nat).length = 0 := rfl
  omega
theorem atI_zero {c : Nat} {r : List Nat} : atI (c :: r) 0 = some c := by
  unfold atI ixN
  simp
def sp_read_number (K : PySem.W.Frag) : Sp := fun vs H Q _ => ∃ (x : Str) (lo hi : Int), vs = [.str x, .int lo, .int hi] ∧ x.length ≤ 80000 ∧ ∀ H', Kp [] H H' → Q (oV (numF x lo hi)) H'
theorem ok_read_number {f : Addr} {fd : FuncData} {k : Nat} (F : Fun K "read_number" "read_number" s_read_number f fd) (m_len : mg "len" = none) (m_all : mg "all" = none) (m_int : mg "int" = none)
    {tk tk2 : Tok} (mg_MOST_DIGITS : mg "MOST_DIGITS" = some (.int 13 tk)) (mg_DIGITS : mg "DIGITS" = some (.str "0123456789" tk2)) :
    FnG P w K mg base CX0 (k + 1) f fd ["word", "least", "most"] (sp_read_number K) := by
  refine ok0 F sc_read_number (fun vs H Q E h => ?_) (fun cdv A outer s H vs Q E gd hr h => ?_)
  · obtain ⟨x, lo, hi, rfl, _⟩ := h
    rfl
  · obtain ⟨x, lo, hi, rfl, hz, q⟩ := h
    refine ⟨_, (pss_cons (ps_if (PW.pt (pw_or (pt_not (pt_chain op_le op_le pe_int (pe_callB call_len (by rfl) m_len (by decide +kernel) (pa_cons (pv 0) pa_nil)) (pe_glob (v := .int 13) rfl mg_MOST_DIGITS ⟨_, rfl⟩))) (pw_or1 (pt_not (pt_val (pe_callB (cr_allK (K := K) rfl rfl) (by rfl) m_all (by decide +kernel) (pa_cons (pe_lcW (own := [("digit", 4)]) (g := (gName 4)) rfl sc_read_number.nd (pi_str (pv 0)) (blkOk_by (own := [("digit", 4)]) (N := ["word", "least", "most", "number", "digit"]) (sc := defScope s_read_number) (by decide +kernel)) (fun _ _ _ _ _ => (pg_name (i := 4) sc_read_number.nd rfl (.inl rfl))) (fun _ _ _ _ _ => pts_nil) (fun _ _ _ _ _ => (pe_cmpR op_in_sign (pv 4) (pe_glob (v := .str "0123456789") rfl mg_DIGITS ⟨_, rfl⟩) rfl))) pa_nil)))))))
      (pss_one (ps_ret pe_non))
      pss_nil)
      (pss_cons (ps_if (pt_up (PW.pt (pw_and (pt_cmpR op_eq (pe_ix ix_str (pv 0) pe_int (fun _ _ => rfl)) pe_str (nomark _)) (pw_and1 (pt_cmpR op_ne (pv 0) pe_str (nomark _))))))
      (pss_one (ps_ret pe_non))
      pss_nil)
      (pss_cons (ps_set (i := 3) sc_read_number.nd rfl (.inl rfl) (pe_callTy call_int_str (by rfl) m_int (by decide +kernel) (pa_cons (pv 0) pa_nil)))
      (pss_one (ps_ret (pe_ifP (pt_chain op_le op_le (pv 1) (pv 3) (pv 2)) (pv 3) pe_non)))))), ?_⟩
    have xl : x.length ≤ sizeLine := by rw [sizeLine_eq]; omega
    have non : (decide (1 ≤ x.length ∧ x.length ≤ 13) && isDig x) = false → numF x lo hi = none := fun e => by unfold numF; rw [e]; rfl
    refine ⟨_, rfl, _, x.length, rfl, ⟨xl, rfl⟩, ?_⟩
    refine ⟨_, _, rfl, rfl, _, rfl, ?_⟩
    by_cases c1 : (1 : Int) ≤ (x.length : Int)
    · refine ifYes c1 ?_
      refine ⟨_, _, rfl, rfl, _, rfl, ?_⟩
      by_cases c2 : (x.length : Int) ≤ 13
      · rw [decide_eq_true c2]
        refine (show if (!true) = true then _ else _ from iteF ?_)
        have e1 : decide (1 ≤ x.length ∧ x.length ≤ 13) = true := decide_eq_true ⟨by omega, by omega⟩
        rw [e1, Bool.true_and] at non
        have xs13 : x.cps.size ≤ 13 := by have : x.length = x.cps.size := rfl; omega
        refine ⟨_, rfl, x, rfl, _, _, _, walk_str (z := x), small1000 (by omega), fun D H1 nD k1 hD1 => ?_⟩
        refine ⟨fun i acc H2 => acc = ((x.cps.toList.take i).map fun c => decide (c ∈ digitsS.cps.toList)).map V.bl ∧ Kp [] H H2, ⟨rfl, k1⟩, fun _ _ _ _ _ => trivial, ?_, ?_⟩
        · rintro i acc y _ H2 hi ⟨ea, k2⟩ hD2 ⟨rfl, c, hc, rfl⟩
          refine ⟨rfl, yesT ?_⟩
          refine ⟨_, rfl, c, digitsS, rfl, rfl, hD2, fun H3 m3 h3 => ?_⟩
          refine ⟨?_, k2.md (.inl nD) m3⟩
          have hc' : x.cps.toList[i]? = some c := by rw [Array.getElem?_toList]; exact hc
          rw [List.take_add_one, hc', ea]
          simp
        rintro acc H2 _ hD2 ⟨ea, k2⟩
        rw [List.take_of_length_le (by simp)] at ea
        subst ea
        refine ⟨D, _, rfl, sqL hD2, _, rfl, ?_⟩
        have e2 : ((x.cps.toList.map fun c => decide (c ∈ digitsS.cps.toList)).all id) = isDig x := by rw [List.all_map]; rfl
        rw [e2]
        cases ed : isDig x with
        | false =>
          rw [non ed] at q
          exact (show if (!false) = true then _ else _ from iteT (q H2 k2))
        | true =>
          refine (show if (!true) = true then _ else _ from iteF ?_)
          obtain ⟨c0, r0, hc0⟩ : ∃ c0 r0, x.cps.toList = c0 :: r0 := by
            cases hx : x.cps.toList with
            | nil =>
              have : x.cps.toList.length = x.length := rfl
              rw [hx] at this
              have h0 : ([] : List Nat).length = 0 := rfl
              omega
            | cons c r => exact ⟨c, r, rfl⟩
          have one : ∀ c : Nat, (⟨#[c]⟩ : Str) = ⟨#[48]⟩ ↔ c = 48 := fun c => ⟨fun e => by
            have := congrArg (fun z : Str => z.cps.toList) e
            exact (List.cons.inj this).1, fun e => by rw [e]⟩
          have z48 : ("0" : Str) = ⟨#[48]⟩ := by decide +kernel
          have go : ¬ (x.cps.toList.head? = some 48 ∧ x ≠ "0") → numF x lo hi = if lo ≤ (NumText.digitsVal x.cps.toList : Int) ∧ (NumText.digitsVal x.cps.toList : Int) ≤ hi then some (NumText.digitsVal x.cps.toList : Int) else none := fun h => by
            unfold numF
            rw [e1, ed, Bool.and_self, if_pos rfl, if_neg h]
          refine ⟨fun b H3 => b = decide (x.cps.toList.head? = some 48 ∧ x ≠ "0") ∧ H3 = H2, ⟨_, rfl, x, 0, c0, rfl, rfl, xl, by rw [hc0]; exact atI_zero, rfl, _, rfl, ?_⟩, ?_⟩
          · by_cases h0 : c0 = 48
            · refine ifYes (show V.str ⟨#[c0]⟩ = V.str "0" by rw [z48, h0]) ?_
              refine ⟨_, rfl, rfl, _, rfl, ?_, rfl⟩
              show (!decide (V.str x = V.str "0")) = _
              rw [← decide_not]
              exact decide_eq_decide.mpr ⟨fun h => ⟨by rw [hc0, h0]; rfl, fun e => h (by rw [e])⟩, fun h e => h.2 (V.str.inj e)⟩
            · refine ifNo (show ¬ V.str ⟨#[c0]⟩ = V.str "0" from fun e => h0 ((one c0).mp ((V.str.inj e).trans z48))) ⟨?_, rfl⟩
              exact (decide_eq_false fun h => h0 (by rw [hc0] at h; exact Option.some.inj h.1)).symm
          rintro b H3 ⟨eb, rfl⟩
          by_cases hh : x.cps.toList.head? = some 48 ∧ x ≠ "0"
          · rw [decide_eq_true hh] at eb
            subst eb
            refine iteT ?_
            have e : numF x lo hi = none := by
              unfold numF
              rw [e1, ed, Bool.and_self, if_pos rfl, if_pos hh]
            rw [e] at q
            exact q _ k2
          · rw [decide_eq_false hh] at eb
            subst eb
            refine iteF ?_
            rw [go hh] at q
            refine ⟨_, rfl, x, _, rfl, int_of ed (by omega) (by omega), by omega, ?_⟩
            refine ⟨_, ?_, fun _ _ z => z⟩
            refine ⟨_, rfl, _, rfl, _, _, rfl, rfl, _, rfl, ?_⟩
            generalize (NumText.digitsVal x.cps.toList : Int) = n at q
            by_cases l1 : lo ≤ n
            · refine ifYes l1 ?_
              refine ⟨_, rfl, _, _, rfl, rfl, _, rfl, ?_⟩
              by_cases l2 : n ≤ hi
              · rw [if_pos ⟨l1, l2⟩] at q
                exact ifYes l2 ⟨_, rfl, q _ k2⟩
              · rw [if_neg fun z => l2 z.2] at q
                exact ifNo l2 (q _ k2)
            · rw [if_neg fun z => l1 z.1] at q
              exact ifNo l1 ⟨_, rfl, q _ k2⟩
      · rw [decide_eq_false c2]
        have e1 : decide (1 ≤ x.length ∧ x.length ≤ 13) = false := decide_eq_false (fun z => c2 (by omega))
        rw [non (by rw [e1]; rfl)] at q
        exact (show if (!false) = true then _ else _ from iteT (q H Kp.refl))
    · refine ifNo c1 ?_
      have e1 : decide (1 ≤ x.length ∧ x.length ≤ 13) = false := decide_eq_false (fun z => c1 (by omega))
      rw [non (by rw [e1]; rfl)] at q
      exact ⟨_, rfl, (show if (!false) = true then _ else _ from iteT (q H Kp.refl))⟩
def sp_read_amount (K : PySem.W.Frag) : Sp := fun vs H Q _ => ∃ (x : Str), vs = [.str x] ∧ x.length ≤ 80000 ∧ ∀ H', Kp [] H H' → Q (oV (numF x 0 1000000000000)) H'
theorem ok_read_amount {f : Addr} {fd : FuncData} {k : Nat} (F : Fun K "read_amount" "read_amount" s_read_amount f fd) {tk : Tok} (mg_MOST_CREDITS : mg "MOST_CREDITS" = some (.int 1000000000000 tk))
    (C_read_number : Cl P w K mg base CX0 1 "read_number" 3 (sp_read_number K)) :
    FnG P w K mg base CX0 (k + 2) f fd ["word"] (sp_read_amount K) := by
  refine ok0 F sc_read_amount (fun vs H Q E h => ?_) (fun cdv A outer s H vs Q E gd hr h => ?_)
  · obtain ⟨x, rfl, _⟩ := h
    rfl
  · obtain ⟨x, rfl, hz, q⟩ := h
    exact ⟨_, (pss_one (ps_ret (pe_cl C_read_number (hr.mono (by omega)) gd pass0 (by rfl) (pa_cons (pv 0) (pa_cons pe_int (pa_cons (pe_glob (v := .int 1000000000000) rfl mg_MOST_CREDITS ⟨_, rfl⟩) pa_nil)))))), ⟨_, rfl, x, 0, 1000000000000, rfl, hz, q⟩⟩
def sp_read_budget (K : PySem.W.Frag) : Sp := fun vs H Q _ => ∃ (x : Str), vs = [.str x] ∧ x.length ≤ 80000 ∧ ∀ H', Kp [] H H' → Q (oV (numF x 1 1000000)) H'
theorem ok_read_budget {f : Addr} {fd : FuncData} {k : Nat} (F : Fun K "read_budget" "read_budget" s_read_budget f fd) {tk : Tok} (mg_MOST_BUDGET : mg "MOST_BUDGET" = some (.int 1000000 tk))
    (C_read_number : Cl P w K mg base CX0 1 "read_number" 3 (sp_read_number K)) :
    FnG P w K mg base CX0 (k + 2) f fd ["word"] (sp_read_budget K) := by
  refine ok0 F sc_read_budget (fun vs H Q E h => ?_) (fun cdv A outer s H vs Q E gd hr h => ?_)
  · obtain ⟨x, rfl, _⟩ := h
    rfl
  · obtain ⟨x, rfl, hz, q⟩ := h
    exact ⟨_, (pss_one (ps_ret (pe_cl C_read_number (hr.mono (by omega)) gd pass0 (by rfl) (pa_cons (pv 0) (pa_cons pe_int (pa_cons (pe_glob (v := .int 1000000) rfl mg_MOST_BUDGET ⟨_, rfl⟩) pa_nil)))))), ⟨_, rfl, x, 1, 1000000, rfl, hz, q⟩⟩
theorem mapM_opt (f : Str → Option Int) : ∀ ws : List Str, (∃ ns : List Int, ws.map f = ns.map some ∧ ws.mapM f = some ns) ∨ (none ∈ ws.map f ∧ ws.mapM f = none)
  | [] => .inl ⟨[], rfl, rfl⟩
  | y :: r => by
    rw [List.mapM_cons, List.map_cons]
    cases e : f y with
    | none => exact .inr ⟨List.mem_cons_self, rfl⟩
    | some x =>
      rcases mapM_opt f r with ⟨ns, h1, h2⟩ | ⟨h1, h2⟩
      · exact .inl ⟨x :: ns, by rw [h1]; rfl, by rw [h2]; rfl⟩
      · exact .inr ⟨List.mem_cons_of_mem _ h1, by rw [h2]; rfl⟩
theorem log_num {x : Int} (h0 : 0 ≤ x) (h1 : x < 10000000000000000000000) : x.natAbs.log2 < 1920 :=
  log_small (by decide) (Nat.lt_of_lt_of_le (show x.natAbs < 2 ^ 80 by omega) (Nat.pow_le_pow_right (by decide) (by decide)))
theorem getD_all {l : List Int} {Pr : Int → Prop} (h : ∀ x ∈ l, Pr x) {i : Nat} (hi : i < l.length) : Pr (l.getD i 0) := by
  rw [List.getD_eq_getElem?_getD, List.getElem?_eq_getElem hi]
  exact h _ (List.getElem_mem hi)
theorem sum_len {l : List Str} {m : Nat} (h : ∀ y ∈ l, y.length ≤ m) : (l.map fun x => x.length).sum ≤ l.length * m := by
  induction l with
  | nil => simp
  | cons y r ih =>
    have h1 := h y List.mem_cons_self
    have h2 := ih fun z hz => h z (List.mem_cons_of_mem _ hz)
    rw [List.map_cons, List.sum_cons, List.length_cons, Nat.succ_mul]
    omega
def sp_read_numbers (K : PySem.W.Frag) : Sp := fun vs H Q _ => ∃ (l : Addr) (ws : List Str), vs = [.ref l] ∧ SqL K H l (ws.map V.str) ∧ ws.length ≤ 80001 ∧ (∀ x ∈ ws, x.length ≤ 80000) ∧
  (∀ ns, numsF ws = some ns → ∀ q H', Kp [] H H' → SqT K H' q (ns.map V.int) → PlT H' q → Q (.ref q) H') ∧ (numsF ws = none → ∀ H', Kp [] H H' → Q .non H')
theorem ok_read_numbers {f : Addr} {fd : FuncData} {k : Nat} (F : Fun K "read_numbers" "read_numbers" s_read_numbers f fd) (m_len : mg "len" = none) (m_tuple : mg "tuple" = none) {tk : Tok} (mg_MOST_SENDERS : mg "MOST_SENDERS" = some (.int 40 tk))
    (C_read_amount : Cl P w K mg base CX0 2 "read_amount" 1 (sp_read_amount K)) :
    FnG P w K mg base CX0 (k + 3) f fd ["words"] (sp_read_numbers K) := by
  refine ok0 F sc_read_numbers (fun vs H Q E h => ?_) (fun cdv A outer s H vs Q E gd hr h => ?_)
  · obtain ⟨l, ws, rfl, _⟩ := h
    rfl
  · obtain ⟨l, ws, rfl, hl, hz, hw, q1, q2⟩ := h
    refine ⟨_, (pss_cons (ps_setLcW (i := 1) (own := [("word", 2)]) (g := (gName 2)) rfl sc_read_numbers.nd rfl rfl (sw_true rfl rfl rfl (by decide +kernel)) (pi_list (pv 0)) (blkOk_by (own := [("word", 2)]) (N := ["words", "found", "word"]) (sc := defScope s_read_numbers) (by decide +kernel)) (fun _ _ _ _ _ => (pg_name (i := 2) sc_read_numbers.nd rfl (.inl rfl))) (fun _ _ _ _ _ => pts_nil) (fun _ _ _ _ _ => (pe_cl C_read_amount (hr.mono (by omega)) gd pass0 (by rfl) (pa_cons (pv 2) pa_nil))))
      (pss_one (ps_ret (pe_ifP (PW.pt (pw_and (pt_chain op_le op_le pe_int (pe_callB (call_len_seqK (K := K) rfl) (by rfl) m_len (by decide +kernel) (pa_cons (pv 1) pa_nil)) (pe_glob (v := .int 40) rfl mg_MOST_SENDERS ⟨_, rfl⟩)) (pw_and1 (pt_cmpR (op_notInO (K := K) rfl) pe_non (pv 1) rfl)))) (pe_callTy (call_tupF (K := K) rfl) (by rfl) m_tuple (by decide +kernel) (pa_cons (pv 1) pa_nil)) pe_non)))), ?_⟩
    refine ⟨_, rfl, l, rfl, ⟨_, hl⟩, _, _, _, walk_list (xs := ws.map V.str), by rw [List.length_map, sizeLine_eq]; omega, fun D H1 nD k1 hD => ?_⟩
    refine ⟨fun i acc H2 => acc = ((ws.take i).map fun y => oV (numF y 0 1000000000000)) ∧ Kp [] H H2, ⟨rfl, k1⟩, fun _ _ _ _ ⟨_, kk⟩ => kk.lst0 hl, ?_, ?_⟩
    · rintro i acc x H2 _ hi ⟨ea, k2⟩ hD2 ⟨rfl, hx⟩
      obtain ⟨hi2, rfl⟩ := strs_get hx
      refine ⟨rfl, yesT ?_⟩
      have em : ws.getD i default ∈ ws := by
        rw [List.getD_eq_getElem?_getD, List.getElem?_eq_getElem hi2]
        exact List.getElem_mem hi2
      refine ⟨_, rfl, _, rfl, hw _ em, fun H3 k3 => ⟨k3.at0 hD2, fun H4 m4 h4 => ⟨?_, (k2.trans k3).md (.inl nD) m4⟩⟩⟩
      rw [List.take_add_one, List.getElem?_eq_getElem hi2, ea, List.map_append, List.getD_eq_getElem?_getD, List.getElem?_eq_getElem hi2]
      rfl
    rintro acc H2 _ hD2 ⟨ea, k2⟩
    rw [List.length_map, List.take_of_length_le (Nat.le_refl _)] at ea
    have el : acc.length = ws.length := by rw [ea, List.length_map]
    have ez : acc = (ws.map fun y => numF y 0 1000000000000).map oV := by rw [ea, List.map_map]; rfl
    refine ⟨_, ?_, fun _ _ z => z⟩
    refine ⟨_, rfl, D, _, rfl, .inl (sqL hD2), ?_⟩
    rw [el]
    refine ⟨_, _, rfl, rfl, _, rfl, ?_⟩
    by_cases c1 : (1 : Int) ≤ (ws.length : Int)
    · refine ifYes c1 ?_
      refine ⟨_, _, rfl, rfl, _, rfl, ?_⟩
      by_cases c2 : (ws.length : Int) ≤ 40
      · refine ifYes c2 ?_
        have hb : 1 ≤ ws.length ∧ ws.length ≤ 40 := ⟨by omega, by omega⟩
        refine ⟨_, rfl, D, _, rfl, rfl, by rw [← ez]; exact sqL hD2, _, rfl, ?_⟩
        rcases mapM_opt (fun y => numF y 0 1000000000000) ws with ⟨ns, e1, e2⟩ | ⟨e1, e2⟩
        · have hn : none ∉ ws.map fun y => numF y 0 1000000000000 := by
            rw [e1]
            intro z
            obtain ⟨_, _, e⟩ := List.mem_map.mp z
            cases e
          rw [decide_eq_false hn]
          refine (show if (!false) = true then _ else _ from iteT ?_)
          have e3 : acc = ns.map V.int := by rw [ez, e1, List.map_map]; rfl
          rw [e3] at hD2
          refine ⟨_, rfl, D, _, rfl, sqL hD2, fun u H3 o nu k3 du hu => ?_⟩
          exact q1 ns (by unfold numsF; rw [if_pos hb]; exact e2) u H3 (k2.trans k3) (sqF hu) (plF du hu)
        · rw [decide_eq_true e1]
          refine (show if (!true) = true then _ else _ from iteF ?_)
          exact q2 (by unfold numsF; rw [if_pos hb]; exact e2) H2 k2
      · exact ifNo c2 (iteF (q2 (by unfold numsF; rw [if_neg fun z => c2 (by omega)]) H2 k2))
    · exact ifNo c1 ⟨_, rfl, iteF (iteF (q2 (by unfold numsF; rw [if_neg fun z => c1 (by omega)]) H2 k2))⟩
def showB (ns : List Int) : Str := Txt.join " " (ns.map tnum)
def sp_show_balances (K : PySem.W.Frag) : Sp := fun vs H Q _ => ∃ (p : Addr) (ns : List Int), vs = [.ref p] ∧ SqT K H p (ns.map V.int) ∧ ns.length ≤ 41 ∧ (∀ x ∈ ns, 0 ≤ x ∧ x < 10000000000000) ∧ ∀ H', Kp [] H H' → Q (.str (showB ns)) H'
theorem ok_show_balances {f : Addr} {fd : FuncData} {k : Nat} (F : Fun K "show_balances" "show_balances" s_show_balances f fd) (m_str : mg "str" = none) :
    FnG P w K mg base CX0 (k + 1) f fd ["balances"] (sp_show_balances K) := by
  refine ok0 F sc_show_balances (fun vs H Q E h => ?_) (fun cdv A outer s H vs Q E gd hr h => ?_)
  · obtain ⟨p, ns, rfl, _⟩ := h
    rfl
  · obtain ⟨p, ns, rfl, hp, hl, hb, q⟩ := h
    refine ⟨_, (pss_one (ps_ret (pe_join pe_str (pe_lcW (own := [("balance", 1)]) (g := (gName 1)) rfl sc_show_balances.nd (pi_tup (pv 0)) (blkOk_by (own := [("balance", 1)]) (N := ["balances", "balance"]) (sc := defScope s_show_balances) (by decide +kernel)) (fun _ _ _ _ _ => (pg_name (i := 1) sc_show_balances.nd rfl (.inl rfl))) (fun _ _ _ _ _ => pts_nil) (fun _ _ _ _ _ => (pe_callTy call_str_int (by rfl) m_str (by decide +kernel) (pa_cons (pv 1) pa_nil))))))), ?_⟩
    refine ⟨(⟨_, rfl⟩ : ∃ a, V.str " " = V.str a), ?_⟩
    refine ⟨_, rfl, p, rfl, ⟨_, hp⟩, _, _, _, walk_ti (ns := ns), small1000 (by omega), fun D H1 nD k1 hD => ?_⟩
    refine ⟨fun i acc H2 => acc = ((ns.take i).map tnum).map V.str ∧ Kp [] H H2, ⟨rfl, k1⟩, fun _ _ _ _ ⟨_, kk⟩ => kk.tup0 hp, ?_, ?_⟩
    · rintro i acc x H2 _ hi ⟨ea, k2⟩ hD2 ⟨rfl, rfl⟩
      refine ⟨rfl, yesT ?_⟩
      have xb := getD_all hb hi
      refine ⟨_, rfl, _, rfl, log_num xb.1 (by omega), hD2, fun H3 m3 h3 => ⟨?_, k2.md (.inl nD) m3⟩⟩
      rw [List.take_add_one, List.getElem?_eq_getElem hi, ea, List.map_append, List.map_append, List.getD_eq_getElem?_getD, List.getElem?_eq_getElem hi]
      rfl
    rintro acc H2 _ hD2 ⟨ea, k2⟩
    rw [List.take_of_length_le (Nat.le_refl _)] at ea
    subst ea
    refine ⟨_, D, ns.map tnum, rfl, rfl, .inl (sqL hD2), ?_, q H2 k2⟩
    have h1 : ((ns.map tnum).map fun x => x.length).sum ≤ (ns.map tnum).length * 13 := by
      refine sum_len fun y hy => ?_
      obtain ⟨z, hz, rfl⟩ := List.mem_map.mp hy
      exact (tnum_len (hb z hz).1 (hb z hz).2).1
    have h2 : (" " : Str).length = 1 := by decide +kernel
    rw [h2]
    rw [List.length_map] at h1 ⊢
    omega
/-- a value that may be a text -/
def StrOr (K : PySem.W.Frag) (H : Hp) (v : V) : Option Str → Prop
  | some x => v = .str x ∧ x.length ≤ 70000
  | none => ∃ a : String, TyX K H v (.type a) ∧ kitB a "str" = some false
theorem StrOr.ty {K : PySem.W.Frag} {H : Hp} {v : V} : ∀ {o : Option Str}, StrOr K H v o → ∃ a : String, TyX K H v (.type a) ∧ kitB a "str" = some o.isSome
  | some x, ⟨e, _⟩ => ⟨"str", by rw [e]; exact .base (.str x), (by decide +kernel : kitB "str" "str" = some true)⟩
  | none, h => h
def readB (o : Option Str) : Option (List Int) := o.bind fun s => numsF (Txt.split s " ")
def sp_read_balances (K : PySem.W.Frag) (BT : Addr) : Sp := fun vs H Q E => ∃ (v : V) (o : Option Str), vs = [v] ∧ StrOr K H v o ∧
  (∀ ns, readB o = some ns → ∀ q H', Kp [] H H' → SqT K H' q (ns.map V.int) → PlT H' q → Q (.ref q) H') ∧ (readB o = none → ∀ e H', Kp [] H H' → H' e = none → E (.ref BT) (some e) (upd H' e (.xd [("value", .int 0)])))
theorem ok_read_balances {f : Addr} {fd : FuncData} {k : Nat} {BT : Addr} (F : Fun K "read_balances" "read_balances" s_read_balances f fd) (m_isinstance : mg "isinstance" = none) (m_str : mg "str" = none) (t_BadText : Told P w K mg base "BadText" BT)
    (C_read_numbers : Cl P w K mg base CX0 3 "read_numbers" 1 (sp_read_numbers K)) :
    FnG P w K mg base (L2.CX P w) (k + 4) f fd ["text"] (sp_read_balances K BT) := by
  obtain ⟨_, _, V_BadText, F_BadText⟩ := t_BadText
  refine okX F sc_read_balances (fun vs H Q E h => ?_) (fun cdv A outer s H vs Q E gd hr h => ?_)
  · obtain ⟨v, o, rfl, _⟩ := h
    rfl
  · obtain ⟨v, o, rfl, hv, q1, q2⟩ := h
    obtain ⟨aT, ty, kit⟩ := hv.ty
    have hr2 := hr.mono (show 1 + 1 ≤ k + 3 by omega)
    refine ⟨_, (pss_cons (ps_set (i := 1) sc_read_balances.nd rfl (.inl rfl) (pe_ifP (pt_val (pe_callB (call_isiB (K := K) rfl) (by rfl) m_isinstance (by decide +kernel) (pa_cons (pv 0) (pa_cons (pe_bltn (v := .ty "str") (by rfl) m_str rfl rfl) pa_nil)))) (pe_cl C_read_numbers (hr.mono (by omega)) gd pass0 (by rfl) (pa_cons (pe_split (pv 0) pe_str) pa_nil)) pe_non))
      (pss_cons (ps_if (pt_cmpR op_isN (pv 1) pe_non (nomark _))
      (pss_one (ps_raise rfl (takes_of rfl rfl rfl rfl) (pmk_value V_BadText F_BadText hr2 (by rfl) pe_int)))
      pss_nil)
      (pss_one (ps_ret (pv 1))))), ?_⟩
    refine ⟨fun v1 H1 => Kp [] H H1 ∧ ((∃ ns q, v1 = .ref q ∧ readB o = some ns ∧ SqT K H1 q (ns.map V.int) ∧ PlT H1 q) ∨ (v1 = .non ∧ readB o = none)), ?_, ?_⟩
    · refine ⟨_, rfl, _, _, _, _, rfl, ty, kit, _, rfl, ?_⟩
      cases o with
      | none => exact (show if false = true then _ else _ from iteF ⟨.refl, .inr ⟨rfl, rfl⟩⟩)
      | some x =>
        refine (show if true = true then _ else _ from iteT ?_)
        obtain ⟨rfl, hz⟩ := hv
        obtain ⟨b1, b2⟩ := blank_len x
        refine ⟨_, rfl, ⟨_, rfl⟩, x, " ", rfl, rfl, by decide +kernel, by rw [sizeLine_eq]; omega, fun l nl => ?_⟩
        have k1 : Kp [] H (upd H l (.lst ((Txt.split x " ").map V.str))) := Kp.new nl
        refine ⟨l, _, rfl, sqL upd_same, by omega, fun y hy => by have := b2 y hy; omega, fun ns e q H2 k2 hq pl => ?_, fun e H2 k2 => ?_⟩
        · exact ⟨k1.trans k2, .inl ⟨ns, q, rfl, e, hq, pl⟩⟩
        · exact ⟨k1.trans k2, .inr ⟨rfl, e⟩⟩
    rintro v1 H1 ⟨k1, ⟨ns, u, rfl, e, hu, pl⟩ | ⟨rfl, e⟩⟩
    · refine ⟨_, rfl, rfl, _, rfl, ifNo (fun z => nomatch z) ?_⟩
      exact ⟨_, rfl, q1 ns e u H1 k1 hu pl⟩
    · refine ⟨_, rfl, rfl, _, rfl, ifYes rfl ?_⟩
      exact fun e1 n1 => q2 e e1 H1 k1 n1
/-! ### the text of a link -/
def rowS (n : Str) (b : Int) : Str := n ++ " " ++ tnum b
def headS (b : Int) : Str := "budget " ++ tnum b
def linkS (b : Int) (t : Tab) : Str := Txt.join "\n" (headS b :: (nsT t).map fun n => rowS n (tval t n))
theorem emp_app (x : Str) : Str.empty ++ x = x := ext_tl (by rw [tl_append]; rfl)
theorem len_app (x y : Str) : (x ++ y).length = x.length + y.length := by
  rw [len_tl, len_tl, len_tl, tl_append, List.length_append]
def budRow (r : Str) : Option Int := match Txt.split r " " with
  | [a, b] => if a = "budget" then numF b 1 1000000 else none
  | _ => none
def sndRow (r : Str) : Option (Str × Int) := match Txt.split r " " with
  | [a, b] => if isNm a = true then (numF b 0 1000000000000).map fun x => (a, x) else none
  | _ => none
/-- the rows behind the first: the pairs, or the row that cannot stand there -/
def sndsF : Nat → Str → List Str → Except Nat (List (Str × Int))
  | _, _, [] => .ok []
  | i, bf, r :: rs => match sndRow r with
    | none => .error i
    | some p => if (leS p.1 bf || decide (40 < i)) = true then .error i else match sndsF (i + 1) p.1 rs with
      | .error j => .error j
      | .ok l => .ok (p :: l)
def readRows (rows : List Str) : Except Nat (Int × Tab) := match budRow (rows.headD "") with
  | none => .error 0
  | some b => match sndsF 1 "" (rows.drop 1) with
    | .error i => .error i
    | .ok l => if gapOf b (valsT l) = none then .ok (b, l) else .error rows.length
def readL : Option Str → Except Nat (Int × Tab)
  | some x => readRows (Txt.split x "\n")
  | none => .error 0
theorem readRows_no {rows : List Str} (h : budRow (rows.headD "") = none) : readRows rows = .error 0 := by
  unfold readRows
  rw [h]
theorem readRows_bad {rows : List Str} {b : Int} {i : Nat} (h : budRow (rows.headD "") = some b) (h2 : sndsF 1 "" (rows.drop 1) = .error i) : readRows rows = .error i := by
  unfold readRows
  rw [h]
  show (match sndsF 1 "" (rows.drop 1) with | .error i => _ | .ok l => _) = _
  rw [h2]
theorem readRows_ok {rows : List Str} {b : Int} {l : Tab} (h : budRow (rows.headD "") = some b) (h2 : sndsF 1 "" (rows.drop 1) = .ok l) : readRows rows = if gapOf b (valsT l) = none then .ok (b, l) else .error rows.length := by
  unfold readRows
  rw [h]
  show (match sndsF 1 "" (rows.drop 1) with | .error i => _ | .ok l => _) = _
  rw [h2]
/-! ### the defs of a link's text -/
theorem num_len {x : Int} (h0 : 0 ≤ x) (h1 : x < 10000000000000000000000) : (tnum x).length ≤ 22 := by
  obtain ⟨m, rfl⟩ : ∃ m : Nat, x = (m : Int) := ⟨x.toNat, by omega⟩
  have hlen : (tnum (m : Int)).length = (numL m).length := by rw [← tnum_tl]; rfl
  have l1 : (numL m).length ≤ 22 := numL_len (k := 22) (by decide) (by omega)
  omega
def sp_show_link (K : PySem.W.Frag) (C : Addr) : Sp := fun vs H Q _ => ∃ (p q : Addr) (s : LkS), vs = [.ref p] ∧ LkAt C H p q s ∧ Good s ∧ (∀ n, 0 ≤ tval s.t n ∧ tval s.t n < 10000000000000000000000) ∧ ∀ H', Kp [] H H' → Q (.str (linkS s.b s.t)) H'
theorem ok_show_link {f C : Addr} {fd : FuncData} {k : Nat} {X : LkX} (F : Fun K "show_link" "show_link" s_show_link f fd) (LC : LinkC K C)
    (M_names : ClM P w K mg base CX0 1 C "names" (sp_Link_names K C)) (M_current_budget : ClM P w K mg base CX0 1 C "current_budget" (sp_Link_current_budget C)) (M_balance_of : ClM P w K mg base (L2.CX P w) 4 C "balance_of" (sp_Link_balance_of K C X)) :
    FnG P w K mg base CX0 (k + 5) f fd ["link"] (sp_show_link K C) := by
  refine ok0 F sc_show_link (fun vs H Q E h => ?_) (fun cdv A outer s H vs Q E gd hr h => ?_)
  · obtain ⟨p, q, s, rfl, _⟩ := h
    rfl
  · obtain ⟨p, q, s, rfl, L, G, hv, out⟩ := h
    refine ⟨_, (pss_cons (ps_setLcW (i := 1) (own := [("name", 2)]) (g := (gName 2)) rfl sc_show_link.nd rfl rfl (sw_true rfl rfl rfl (by decide +kernel)) (pi_tup (pe_clM0 (E := fun _ _ _ _ => False) LC.cls M_names (hr.mono (by omega)) gd passG (pv 0))) (blkOk_by (own := [("name", 2)]) (N := ["link", "rows", "name"]) (sc := defScope s_show_link) (by decide +kernel)) (fun _ _ _ _ _ => (pg_name (i := 2) sc_show_link.nd rfl (.inl rfl))) (fun _ _ _ _ _ => pts_nil) (fun _ _ _ _ _ => (pe_joined (PJ.cons (pe_fmt (pv 2)) (PJ.cons pe_str (PJ.cons (pe_fmt (pe_clM (E := fun _ _ _ _ => False) LC.cls M_balance_of (hr.mono (by omega)) gd passFS (pv 0) (pa_cons (pv 2) pa_nil))) PJ.nil))))))
      (pss_one (ps_ret (pe_join pe_str (pe_op op_catLA (pe_la (pa_cons (pe_joined (PJ.cons pe_str (PJ.cons (pe_fmt (pe_clM0 (E := fun _ _ _ _ => False) LC.cls M_current_budget (hr.mono (by omega)) gd passG (pv 0))) PJ.nil))) pa_nil)) (pv 1)))))), ?_⟩
    have lG := G.now.len
    have lN := nsT_len s.t
    refine ⟨_, rfl, at_z L z_names ⟨p, q, s, rfl, L, lG, fun u1 H1 k1 hu1 => ?_⟩⟩
    have L1 := L.kp k1
    refine ⟨u1, rfl, ⟨_, hu1⟩, _, _, _, walk_tup (xs := (nsT s.t).map V.str), small1000 (by rw [List.length_map]; omega), fun D H2 nD k2 hD => ?_⟩
    refine ⟨fun i acc H3 => acc = (((nsT s.t).take i).map fun n => rowS n (tval s.t n)).map V.str ∧ Kp [] H1 H3, ⟨rfl, k2⟩, fun _ _ _ _ ⟨_, kk⟩ => kk.tup0 hu1, ?_, ?_⟩
    · rintro i acc x H3 _ hi ⟨ea, k3⟩ hD3 ⟨rfl, hx⟩
      obtain ⟨hi2, rfl⟩ := strs_get hx
      have hk := ns_in (t := s.t) (i := i) (by omega)
      have hv2 := hv ((nsT s.t).getD i default)
      have nm := G.now.nm _ hk
      have l8 := isNm_len nm
      have lt := num_len hv2.1 hv2.2
      have l1 : (" " : Str).length = 1 := by decide +kernel
      refine ⟨rfl, yesT ?_⟩
      refine ⟨_, rfl, .inl ⟨_, rfl, by rw [sizeLine_eq]; omega, _, rfl, by rw [emp_app, sizeLine_eq]; omega, _, rfl, by rw [len_app, emp_app, sizeLine_eq]; omega, ?_⟩⟩
      refine ⟨_, rfl, at_z (L1.kp k3) z_balance_of ⟨_, rfl, tnil_z ?_⟩⟩
      refine bal_z nm hk (L1.kp k3) fun H4 k4 => .inr ⟨_, rfl, log_num hv2.1 hv2.2, _, rfl, ?_, k4.at0 hD3, fun H5 m5 h5 => ⟨?_, (k3.trans k4).md (.inl nD) m5⟩⟩
      · rw [len_app, len_app, emp_app, sizeLine_eq]
        have e : (Str.ofString (toString (tval s.t ((nsT s.t).getD i default)))).length = (tnum (tval s.t ((nsT s.t).getD i default))).length := rfl
        omega
      · rw [List.take_add_one, List.getElem?_eq_getElem hi2, ea, List.map_append, List.map_append, emp_app]
        have e : (nsT s.t).getD i default = (nsT s.t)[i] := by rw [List.getD_eq_getElem?_getD, List.getElem?_eq_getElem hi2]; rfl
        rw [e]
        rfl
    rintro acc H3 _ hD3 ⟨ea, k3⟩
    rw [List.length_map, List.take_of_length_le (Nat.le_refl _)] at ea
    subst ea
    have L3 := L1.kp k3
    have b1 := G.now.b1
    have b2 := G.now.b2
    have lb := num_len (x := s.b) (by omega) (by omega)
    have lh : ("budget " : Str).length = 7 := by decide +kernel
    refine ⟨(⟨_, rfl⟩ : ∃ a, V.str "\n" = V.str a), ?_⟩
    refine ⟨_, rfl, by rw [emp_app, sizeLine_eq]; omega, _, rfl, at_z L3 z_current_budget ⟨p, q, s, rfl, L3, ?_⟩⟩
    refine .inr ⟨_, rfl, log_num (by omega) (by omega), _, rfl, ?_, ?_⟩
    · rw [len_app, emp_app, sizeLine_eq]
      have e : (Str.ofString (toString s.b)).length = (tnum s.b).length := rfl
      omega
    refine ⟨Nat.le_of_ble_eq_true rfl, fun L4 H4 n4 k4 h4 => ?_⟩
    refine ⟨_, rfl, L4, D, _, _, rfl, rfl, h4, k4.at0 hD3, ?_, fun L5 H5 n5 k5 h5 => ?_⟩
    · rw [List.length_map, List.length_map, sizeLine_eq]
      have e : ([V.str (Str.empty ++ "budget " ++ Str.ofString (toString s.b))] : List V).length = 1 := rfl
      omega
    have h6 : H5 L5 = some (.lst ((headS s.b :: (nsT s.t).map fun n => rowS n (tval s.t n)).map V.str)) := by
      rw [h5, emp_app]
      rfl
    refine ⟨_, L5, _, rfl, rfl, .inl (sqL h6), ?_, out H5 (k1.trans (k3.trans (k4.trans k5)))⟩
    have h7 : ((headS s.b :: (nsT s.t).map fun n => rowS n (tval s.t n)).map fun x => x.length).sum ≤ (headS s.b :: (nsT s.t).map fun n => rowS n (tval s.t n)).length * 31 := by
      refine sum_len fun y hy => ?_
      rcases List.mem_cons.mp hy with e | hy
      · rw [e]
        unfold headS
        rw [len_app]
        omega
      · obtain ⟨n, hn, rfl⟩ := List.mem_map.mp hy
        have l8 := isNm_len (G.now.nm n ((srtN_perm _).mem_iff.mp hn))
        have lt := num_len (hv n).1 (hv n).2
        have l1 : (" " : Str).length = 1 := by decide +kernel
        unfold rowS
        rw [len_app, len_app]
        omega
    have h8 : (headS s.b :: (nsT s.t).map fun n => rowS n (tval s.t n)).length ≤ 41 := by
      rw [List.length_cons, List.length_map]
      omega
    have h9 : ("\n" : Str).length = 1 := by decide +kernel
    rw [h9]
    omega
def sp_read_budget_row (K : PySem.W.Frag) : Sp := fun vs H Q _ => ∃ (x : Str), vs = [.str x] ∧ x.length ≤ 80000 ∧ ∀ H', Kp [] H H' → Q (oV (budRow x)) H'
theorem ok_read_budget_row {f : Addr} {fd : FuncData} {k : Nat} (F : Fun K "read_budget_row" "read_budget_row" s_read_budget_row f fd) (m_len : mg "len" = none)
    (C_read_budget : Cl P w K mg base CX0 2 "read_budget" 1 (sp_read_budget K)) :
    FnG P w K mg base CX0 (k + 3) f fd ["row"] (sp_read_budget_row K) := by
  refine ok0 F sc_read_budget_row (fun vs H Q E h => ?_) (fun cdv A outer s H vs Q E gd hr h => ?_)
  · obtain ⟨x, rfl, _⟩ := h
    rfl
  · obtain ⟨x, rfl, hz, q⟩ := h
    refine ⟨_, (pss_cons (ps_set (i := 1) sc_read_budget_row.nd rfl (.inl rfl) (pe_split (pv 0) pe_str))
      (pss_cons (ps_if (PW.pt (pw_or (pt_cmpR op_ne (pe_callB (call_len_seqK (K := K) rfl) (by rfl) m_len (by decide +kernel) (pa_cons (pv 1) pa_nil)) pe_int (nomark _)) (pw_or1 (pt_cmpR op_ne (pe_ix (ix_la (K := K) rfl) (pv 1) pe_int (fun _ _ => rfl)) pe_str (nomark _)))))
      (pss_one (ps_ret pe_non))
      pss_nil)
      (pss_one (ps_ret (pe_cl C_read_budget (hr.mono (by omega)) gd pass0 (by rfl) (pa_cons (pe_ix (ix_la (K := K) rfl) (pv 1) pe_int (fun _ _ => rfl)) pa_nil)))))), ?_⟩
    obtain ⟨b1, b2⟩ := blank_len x
    refine ⟨_, rfl, ⟨_, rfl⟩, x, " ", rfl, rfl, by decide +kernel, by rw [sizeLine_eq]; omega, fun l nl => ?_⟩
    have k1 : Kp [] H (upd H l (.lst ((Txt.split x " ").map V.str))) := Kp.new nl
    generalize hH1 : upd H l (.lst ((Txt.split x " ").map V.str)) = H1 at k1
    have hl : H1 l = some (.lst ((Txt.split x " ").map V.str)) := by rw [← hH1, upd_same]
    unfold budRow at q
    refine ⟨_, rfl, l, _, rfl, .inl (sqL hl), ?_⟩
    generalize Txt.split x " " = ws at hl b1 b2 q
    rw [List.length_map]
    refine ⟨rfl, _, rfl, ?_⟩
    match ws, hl, b2, q with
    | [a, b], hl, b2, q =>
      refine (show if (!decide (V.int ((2 : Nat) : Int) = V.int 2)) = true then _ else _ from ifNe rfl ?_)
      refine ⟨_, rfl, l, _, 0, _, rfl, rfl, sqL hl, rfl, rfl, _, rfl, ?_⟩
      have q : ∀ H', Kp [] H H' → Q (oV (if a = "budget" then numF b 1 1000000 else none)) H' := q
      by_cases e : a = "budget"
      · rw [if_pos e] at q
        refine ifNe (show V.str a = V.str "budget" by rw [e]) ?_
        refine ⟨_, rfl, l, _, 1, _, rfl, rfl, sqL hl, rfl, _, rfl, Nat.le_trans (b2 b (List.mem_cons_of_mem _ List.mem_cons_self)) hz, fun H2 k2 => q H2 (k1.trans k2)⟩
      · rw [if_neg e] at q
        exact ifNeY (show ¬ V.str a = V.str "budget" from fun z => e (V.str.inj z)) (q H1 k1)
    | [], hl, _, q => exact (show if (!decide (V.int ((0 : Nat) : Int) = V.int 2)) = true then _ else _ from ifNeY (fun z => nomatch z) (iteT (q H1 k1)))
    | [_], hl, _, q => exact (show if (!decide (V.int ((1 : Nat) : Int) = V.int 2)) = true then _ else _ from ifNeY (fun z => nomatch z) (iteT (q H1 k1)))
    | _ :: _ :: _ :: r, hl, _, q =>
      refine ifNeY (fun z => ?_) (iteT (q H1 k1))
      have := V.int.inj z
      simp only [List.length_cons] at this
      omega
/-- a pair of a name and a balance, or None -/
def PairV (K : PySem.W.Frag) (H : Hp) (v : V) : Option (Str × Int) → Prop
  | none => v = .non
  | some p => ∃ u : Addr, v = .ref u ∧ SqT K H u [.str p.1, .int p.2]
def sp_read_sender_row (K : PySem.W.Frag) : Sp := fun vs H Q _ => ∃ (x : Str), vs = [.str x] ∧ x.length ≤ 80000 ∧ ∀ v H', Kp [] H H' → PairV K H' v (sndRow x) → Q v H'
theorem ok_read_sender_row {f : Addr} {fd : FuncData} {k : Nat} (F : Fun K "read_sender_row" "read_sender_row" s_read_sender_row f fd) (m_len : mg "len" = none)
    (C_is_name : Cl P w K mg base CX0 1 "is_name" 1 (sp_is_name K)) (C_read_amount : Cl P w K mg base CX0 2 "read_amount" 1 (sp_read_amount K)) :
    FnG P w K mg base CX0 (k + 3) f fd ["row"] (sp_read_sender_row K) := by
  refine ok0 F sc_read_sender_row (fun vs H Q E h => ?_) (fun cdv A outer s H vs Q E gd hr h => ?_)
  · obtain ⟨x, rfl, _⟩ := h
    rfl
  · obtain ⟨x, rfl, hz, q⟩ := h
    refine ⟨_, (pss_cons (ps_set (i := 1) sc_read_sender_row.nd rfl (.inl rfl) (pe_split (pv 0) pe_str))
      (pss_cons (ps_if (PW.pt (pw_or (pt_cmpR op_ne (pe_callB (call_len_seqK (K := K) rfl) (by rfl) m_len (by decide +kernel) (pa_cons (pv 1) pa_nil)) pe_int (nomark _)) (pw_or1 (pt_not (pt_val (pe_cl C_is_name (hr.mono (by omega)) gd pass0 (by rfl) (pa_cons (pe_ix (ix_la (K := K) rfl) (pv 1) pe_int (fun _ _ => rfl)) pa_nil)))))))
      (pss_one (ps_ret pe_non))
      pss_nil)
      (pss_cons (ps_set (i := 2) sc_read_sender_row.nd rfl (.inl rfl) (pe_cl C_read_amount (hr.mono (by omega)) gd pass0 (by rfl) (pa_cons (pe_ix (ix_la (K := K) rfl) (pv 1) pe_int (fun _ _ => rfl)) pa_nil)))
      (pss_one (ps_ret (pe_ifP (pt_cmpR op_isN (pv 2) pe_non (nomark _)) pe_non (pe_ta (pa_cons (pe_ix (ix_la (K := K) rfl) (pv 1) pe_int (fun _ _ => rfl)) (pa_cons (pv 2) pa_nil))))))))), ?_⟩
    obtain ⟨b1, b2⟩ := blank_len x
    refine ⟨_, rfl, ⟨_, rfl⟩, x, " ", rfl, rfl, by decide +kernel, by rw [sizeLine_eq]; omega, fun l nl => ?_⟩
    have k1 : Kp [] H (upd H l (.lst ((Txt.split x " ").map V.str))) := Kp.new nl
    generalize hH1 : upd H l (.lst ((Txt.split x " ").map V.str)) = H1 at k1
    have hl : H1 l = some (.lst ((Txt.split x " ").map V.str)) := by rw [← hH1, upd_same]
    unfold sndRow at q
    refine ⟨_, rfl, l, _, rfl, .inl (sqL hl), ?_⟩
    generalize Txt.split x " " = ws at hl b1 b2 q
    rw [List.length_map]
    refine ⟨rfl, _, rfl, ?_⟩
    match ws, hl, b2, q with
    | [], hl, _, q => exact (show if (!decide (V.int ((0 : Nat) : Int) = V.int 2)) = true then _ else _ from ifNeY (fun z => nomatch z) (iteT (q .non H1 k1 rfl)))
    | [_], hl, _, q => exact (show if (!decide (V.int ((1 : Nat) : Int) = V.int 2)) = true then _ else _ from ifNeY (fun z => nomatch z) (iteT (q .non H1 k1 rfl)))
    | _ :: _ :: _ :: r, hl, _, q =>
      refine ifNeY (fun z => ?_) (iteT (q .non H1 k1 rfl))
      have := V.int.inj z
      simp only [List.length_cons] at this
      omega
    | [a, b], hl, b2, q =>
      refine (show if (!decide (V.int ((2 : Nat) : Int) = V.int 2)) = true then _ else _ from ifNe rfl ?_)
      have q : ∀ v H', Kp [] H H' → PairV K H' v (if isNm a = true then (numF b 0 1000000000000).map fun x => (a, x) else none) → Q v H' := q
      have la := b2 a List.mem_cons_self
      refine ⟨_, rfl, l, _, 0, _, rfl, rfl, sqL hl, rfl, .str a, .str a, (fun _ => False), rfl, .str a, by simp only [szD]; omega, fun H2 k2 => ?_⟩
      rw [nameD_str]
      have hl2 := k2.at0 hl
      refine ⟨_, rfl, ?_⟩
      cases e : isNm a with
      | false =>
        rw [if_neg (by rw [e]; exact Bool.false_ne_true)] at q
        exact (show if (!false) = true then _ else _ from iteT (q .non H2 (k1.trans k2) rfl))
      | true =>
        rw [if_pos e] at q
        refine (show if (!true) = true then _ else _ from iteF ?_)
        refine ⟨_, rfl, l, _, 1, _, rfl, rfl, sqL hl2, rfl, _, rfl, Nat.le_trans (b2 b (List.mem_cons_of_mem _ List.mem_cons_self)) hz, fun H3 k3 => ?_⟩
        have hl3 := k3.at0 hl2
        have k13 := k1.trans (k2.trans k3)
        refine ⟨_, ?_, fun _ _ z => z⟩
        cases en : numF b 0 1000000000000 with
        | none =>
          rw [en] at q
          refine ⟨_, rfl, rfl, _, rfl, ifYes rfl ?_⟩
          exact q .non H3 k13 rfl
        | some z =>
          rw [en] at q
          refine ⟨_, rfl, rfl, _, rfl, ifNo (fun w => nomatch w) ?_⟩
          refine ⟨_, rfl, l, _, 0, _, rfl, rfl, sqL hl3, rfl, _, rfl, Nat.le_of_ble_eq_true rfl, fun u H4 n4 k4 h4 => ?_⟩
          exact q (.ref u) H4 (k13.trans k4) ⟨u, rfl, sqT h4⟩
/-- a list of pairs in the heap -/
def PairsV (K : PySem.W.Frag) (H : Hp) : List V → List (Str × Int) → Prop
  | [], [] => True
  | v :: vs, p :: ps => PairV K H v (some p) ∧ PairsV K H vs ps
  | _, _ => False
theorem PairsV.len {K : PySem.W.Frag} {H : Hp} : ∀ {us : List V} {ps : List (Str × Int)}, PairsV K H us ps → us.length = ps.length
  | [], [], _ => rfl
  | [], _ :: _, h => h.elim
  | _ :: _, [], h => h.elim
  | _ :: _, _ :: _, h => by rw [List.length_cons, List.length_cons, h.2.len]
theorem PairsV.kp {K : PySem.W.Frag} {H H' : Hp} (k : Kp [] H H') : ∀ {us : List V} {ps : List (Str × Int)}, PairsV K H us ps → PairsV K H' us ps
  | [], [], _ => trivial
  | [], _ :: _, h => h.elim
  | _ :: _, [], h => h.elim
  | _ :: _, _ :: _, ⟨⟨u, e, h⟩, r⟩ => ⟨⟨u, e, k.tup0 h⟩, r.kp k⟩
theorem PairsV.md {K : PySem.W.Frag} {H H' : Hp} {D : Addr} {xs : List V} (hD : H D = some (.lst xs)) (m : Md D H H') : ∀ {us : List V} {ps : List (Str × Int)}, PairsV K H us ps → PairsV K H' us ps
  | [], [], _ => trivial
  | [], _ :: _, h => h.elim
  | _ :: _, [], h => h.elim
  | _ :: _, _ :: _, ⟨⟨u, e, h⟩, r⟩ => ⟨⟨u, e, m.kp.tup1 hD h⟩, r.md hD m⟩
theorem PairsV.snoc {K : PySem.W.Frag} {H : Hp} {v : V} {p : Str × Int} (hv : PairV K H v (some p)) : ∀ {us : List V} {ps : List (Str × Int)}, PairsV K H us ps → PairsV K H (us ++ [v]) (ps ++ [p])
  | [], [], _ => ⟨hv, trivial⟩
  | [], _ :: _, h => h.elim
  | _ :: _, [], h => h.elim
  | _ :: _, _ :: _, h => ⟨h.1, h.2.snoc hv⟩
def preS (ps : List (Str × Int)) : Except Nat (List (Str × Int)) → Except Nat (List (Str × Int))
  | .error j => .error j
  | .ok l => .ok (ps ++ l)
theorem preS_nil (x : Except Nat (List (Str × Int))) : preS [] x = x := by cases x <;> rfl
def sp_read_senders (K : PySem.W.Frag) (BT : Addr) : Sp := fun vs H Q E => ∃ (l : Addr) (rs : List Str), vs = [.ref l] ∧ SqL K H l (rs.map V.str) ∧ rs.length ≤ 80001 ∧ (∀ x ∈ rs, x.length ≤ 80000) ∧
  (∀ ps, sndsF 1 "" (rs.drop 1) = .ok ps → ∀ q us H', Kp [] H H' → H' q = some (.lst us) → PairsV K H' us ps → Q (.ref q) H') ∧
  (∀ i, sndsF 1 "" (rs.drop 1) = .error i → ∀ e H', Kp [] H H' → H' e = none → E (.ref BT) (some e) (upd H' e (.xd [("value", .int (i : Int))])))
theorem ok_read_senders {f : Addr} {fd : FuncData} {k : Nat} {BT : Addr} (F : Fun K "read_senders" "read_senders" s_read_senders f fd) (m_enumerate : mg "enumerate" = none) {tk : Tok} (mg_MOST_SENDERS : mg "MOST_SENDERS" = some (.int 40 tk)) (t_BadText : Told P w K mg base "BadText" BT)
    (C_read_sender_row : Cl P w K mg base CX0 3 "read_sender_row" 1 (sp_read_sender_row K)) :
    FnG P w K mg base (L2.CX P w) (k + 4) f fd ["rows"] (sp_read_senders K BT) := by
  obtain ⟨_, _, V_BadText, F_BadText⟩ := t_BadText
  refine okX F sc_read_senders (fun vs H Q E h => ?_) (fun cdv A outer s H vs Q E gd hr h => ?_)
  · obtain ⟨l, rs, rfl, _⟩ := h
    rfl
  · obtain ⟨l, rs, rfl, hl, hz, hr1, q1, q2⟩ := h
    have hr2 := hr.mono (show 1 + 1 ≤ k + 3 by omega)
    refine ⟨_, (pss_cons (ps_set (i := 1) sc_read_senders.nd rfl (.inl rfl) (pe_li pa_nil))
      (pss_cons (ps_set (i := 2) sc_read_senders.nd rfl (.inl rfl) pe_str)
      (pss_cons (ps_forW (passes_of rfl) rfl (pi_es (by rfl) m_enumerate (pa_cons (pe_slice (sl_laFrom (K := K) rfl) (pv 0) (po_some pe_int) po_none) pa_nil) (pk_cons pe_int pk_nil)) (pg_tup rfl (pgs_cons (pg_name (i := 3) sc_read_senders.nd rfl (.inl rfl)) (pgs_cons (pg_name (i := 4) sc_read_senders.nd rfl (.inl rfl)) pgs_nil)))
      (pss_cons (ps_set (i := 5) sc_read_senders.nd rfl (.inl rfl) (pe_cl C_read_sender_row (hr.mono (by omega)) gd pass0 (by rfl) (pa_cons (pv 4) pa_nil)))
      (pss_cons (ps_if (PW.pt (pw_or (pt_cmpR op_isN (pv 5) pe_non (nomark _)) (pw_or (pt_cmpR op_le_str (pe_ix (ix_taN (K := K) rfl) (pv 5) pe_int (fun _ _ => rfl)) (pv 2) (nomark _)) (pw_or1 (pt_cmpR op_gt (pv 3) (pe_glob (v := .int 40) rfl mg_MOST_SENDERS ⟨_, rfl⟩) (nomark _))))))
      (pss_one (ps_raise rfl (takes_of rfl rfl rfl rfl) (pmk_value V_BadText F_BadText hr2 (by rfl) (pv 3))))
      pss_nil)
      (pss_cons (ps_expr (pe_bm PySem.F.plainAttrs_list PySem.F.slot_list_append PySem.F.type_list_append mt_app (pv 1) (pa_cons (pv 5) pa_nil)))
      (pss_one (ps_set (i := 2) sc_read_senders.nd rfl (.inl rfl) (pe_ix (ix_taN (K := K) rfl) (pv 5) pe_int (fun _ _ => rfl))))))))
      (pss_one (ps_ret (pv 1)))))), ?_⟩
    refine ⟨[], rfl, Nat.zero_le _, fun FO H1 n1 k1 h1 => ?_⟩
    have hl1 := k1.lst0 hl
    have h1 : H1 FO = some (.lst ([] : List V)) := h1
    refine ⟨_, rfl, _, rfl, l, _, 1, rfl, rfl, rfl, hl1, by decide, fun R H2 nR k2 hR => ?_⟩
    have hR : H2 R = some (.lst ((rs.drop 1).map V.str)) := by
      rw [hR, List.map_drop]
      rfl
    have nRF : R ≠ FO := fun z => ne_of_none h1 nR z.symm
    refine ⟨R, _, 1, rfl, rfl, by decide, sqL hR, _, _, _, walk_es (xs := (rs.drop 1).map V.str), ?_⟩
    have hsub : ∀ x ∈ rs.drop 1, x ∈ rs := fun x hx => List.mem_of_mem_drop hx
    have hlen : (rs.drop 1).length ≤ rs.length := by rw [List.length_drop]; omega
    generalize rs.drop 1 = rd at hR q1 q2 hsub hlen
    generalize hXX : sndsF 1 "" rd = XX at q1 q2
    refine ⟨fun i σ H' => ∃ (y3 y4 y5 : Option V) (bf : Str) (us : List V) (ps : List (Str × Int)), σ = [some (.ref l), some (.ref FO), some (.str bf), y3, y4, y5] ∧ Kp [] H H' ∧ H' FO = some (.lst us) ∧ H' R = some (.lst (rd.map V.str)) ∧ PairsV K H' us ps ∧ us.length = i ∧ XX = preS ps (sndsF (i + 1) bf (rd.drop i)),
      ⟨_, _, _, "", [], [], rfl, k1.trans k2, k2.at0 h1, hR, trivial, rfl, by rw [preS_nil, ← hXX]; rfl⟩, fun _ _ _ _ ⟨_, _, _, _, _, _, _, _, _, z, _⟩ => sqL z, ?_, ?_⟩
    · rintro i x σ H3 H4 hi ⟨y3, y4, y5, bf, us, ps, rfl, k3, hF3, hR3, hp3, lu, eq⟩ ⟨U, v, rfl, nU, kU, hU, hx⟩
      obtain ⟨hi2, rfl⟩ := strs_get hx
      refine ⟨U, _, rfl, sqT hU, rfl, _, _, rfl, _, _, rfl, rfl, ?_⟩
      have em : rd.getD i default ∈ rd := by
        rw [List.getD_eq_getElem?_getD, List.getElem?_eq_getElem hi2]
        exact List.getElem_mem hi2
      have ed : rd.drop i = rd.getD i default :: rd.drop (i + 1) := by
        rw [List.drop_eq_getElem_cons hi2, List.getD_eq_getElem?_getD, List.getElem?_eq_getElem hi2]
        rfl
      rw [ed] at eq
      generalize rd.getD i default = row at em eq
      have hF4 := kU.at0 hF3
      have k4 := k3.trans kU
      refine ⟨_, rfl, row, rfl, hr1 _ (hsub _ em), fun v H5 k5 hv => ?_⟩
      have hF5 := k5.at0 hF4
      have k5' := k4.trans k5
      have hp5 := (hp3.kp (kU.trans k5))
      have hR5 := (kU.trans k5).at0 hR3
      unfold sndsF at eq
      cases es : sndRow row with
      | none =>
        rw [es] at hv eq
        obtain rfl : v = .non := hv
        refine ⟨_, rfl, rfl, _, rfl, ifYes rfl (iteT ⟨_, rfl, fun e ne => ?_⟩)⟩
        exact q2 (i + 1) eq e H5 k5' ne
      | some p =>
        rw [es] at hv eq
        obtain ⟨u, rfl, hu⟩ : ∃ u : Addr, v = .ref u ∧ SqT K H5 u [.str p.1, .int p.2] := hv
        refine ⟨_, rfl, rfl, _, rfl, ifNo (fun z => nomatch z) ?_⟩
        have eq : XX = preS ps (if (leS p.1 bf || decide (40 < i + 1)) = true then .error (i + 1) else match sndsF (i + 1 + 1) p.1 (rd.drop (i + 1)) with | .error j => .error j | .ok l => .ok (p :: l)) := eq
        have el : (!decide (bf.cps.toList < p.1.cps.toList)) = leS p.1 bf := by rw [← ltCps_eq, ltCps_leS, Bool.not_not]
        refine ⟨_, rfl, u, _, 0, _, rfl, rfl, hu, rfl, _, rfl, _, _, rfl, rfl, _, rfl, ?_⟩
        rw [el]
        cases c1 : leS p.1 bf with
        | true =>
          rw [c1] at eq
          have eq : XX = .error (i + 1) := eq
          refine (show if true = true then _ else _ from iteT (iteT ⟨_, rfl, fun e ne => ?_⟩))
          exact q2 (i + 1) eq e H5 k5' ne
        | false =>
          rw [c1] at eq
          refine (show if false = true then _ else _ from iteF ?_)
          refine ⟨_, rfl, _, _, rfl, rfl, _, rfl, ?_⟩
          by_cases c2 : (40 : Int) < ((i + 1 : Nat) : Int)
          · have eq : XX = .error (i + 1) := by rw [eq, decide_eq_true (show 40 < i + 1 by omega)]; rfl
            refine ifYes c2 ⟨_, rfl, fun e ne => ?_⟩
            exact q2 (i + 1) eq e H5 k5' ne
          · refine ifNo c2 ?_
            rw [decide_eq_false (show ¬ 40 < i + 1 by omega)] at eq
            have eq : XX = preS ps (match sndsF (i + 1 + 1) p.1 (rd.drop (i + 1)) with | .error j => .error j | .ok l => .ok (p :: l)) := eq
            refine ⟨_, rfl, .inl ⟨rfl, _, sqL hF5⟩, _, rfl, FO, us, _, rfl, rfl, hF5, by rw [sizeLine_eq]; omega, fun H6 m6 h6 => ?_⟩
            have hu6 := m6.kp.tup1 hF5 hu
            refine ⟨_, rfl, u, _, 0, _, rfl, rfl, hu6, rfl, ?_⟩
            refine ⟨_, _, _, p.1, us ++ [.ref u], ps ++ [p], rfl, k5'.md (.inl n1) m6, h6, (m6 R nRF).trans hR5, ?_, by rw [List.length_append, lu]; rfl, ?_⟩
            · exact (hp5.md hF5 m6).snoc ⟨u, rfl, hu6⟩
            · rw [eq]
              cases sndsF (i + 1 + 1) p.1 (rd.drop (i + 1)) with
              | error j => rfl
              | ok l => exact congrArg Except.ok (List.append_assoc ps [p] l).symm
    rintro σ H3 ⟨y3, y4, y5, bf, us, ps, rfl, k3, hF3, hR3, hp3, lu, eq⟩
    rw [List.length_map, List.drop_of_length_le (Nat.le_refl _)] at eq
    have eq : XX = .ok ps := by
      rw [eq]
      exact congrArg Except.ok (List.append_nil ps)
    exact ⟨_, rfl, q1 ps eq FO us H3 k3 hF3 hp3⟩
/-! ### a link is read: what enter raises while it is read -/
open TL
def sp_change_N (K : PySem.W.Frag) (C : Addr) (T : List (Addr × Str)) (X : LkX) : Sp := sp_Link_change K C T X
theorem ntw_Link_change {f C : Addr} {fd : FuncData} {k : Nat} {T : List (Addr × Str)} {X : LkX} (F : Fun K "change" "Link.change" s_Link_change f fd) (LC : LinkC K C) (t_Refused : Told P w K mg base "Refused" X.refused)
    (C_weak_names : Cl P w K mg base CX0 6 "weak_names" 2 (sp_weak_names K T)) (M_keep : ClM P w K mg base CX0 1 C "keep" (sp_Link_keep C T)) :
    FnG P w K mg base (L2N.CX P w) (k + 7) f fd ["self", "budget", "balances"] (sp_change_N K C T X) := by
  obtain ⟨_, _, V_Refused, F_Refused⟩ := t_Refused
  refine okN F sc_Link_change (fun vs H Q E h => ?_) (fun cdv A outer s H vs Q E gd hr h => ?_)
  · obtain ⟨p, q, s, g, d, t, rfl, _⟩ := h
    rfl
  · obtain ⟨p, q, s, g, d, t, rfl, L, hd, nd, hl, hg, hT, pl, w1, w2⟩ := h
    have hr2 := hr.mono (show 1 + 1 ≤ k + 6 by omega)
    refine ⟨_, (pss_cons (ps_set (i := 3) sc_Link_change.nd rfl (.inl rfl) (pe_cl C_weak_names (hr.mono (by omega)) gd pass0 (by rfl) (pa_cons (pv 1) (pa_cons (pv 2) pa_nil))))
      (pss_cons (ps_if (pt_cmpR op_notN (pv 3) pe_non (nomark _))
      (pss_one (L2N.ps_raise rfl (L2N.takes_of rfl rfl rfl rfl) (pmkN_value V_Refused F_Refused hr2 (by rfl) (pv 3))))
      pss_nil)
      (pss_one (ps_expr (pe_clM (E := fun _ _ _ _ => False) LC.cls M_keep (hr.mono (by omega)) gd passG (pv 0) (pa_cons (pv 1) (pa_cons (pv 2) pa_nil))))))), ?_⟩
    refine ⟨_, rfl, _, rfl, g, d, t, rfl, hd, nd, hl, hg, hT, fun e H1 k1 => ?_, fun W e u H1 k1 hu => ?_⟩
    · refine ⟨_, rfl, rfl, _, rfl, ?_⟩
      refine (show if (!decide (V.non = V.non)) = true then _ else _ from ifNe rfl ?_)
      have L1 := L.kt k1
      obtain ⟨⟨dx, d0, h1, h2⟩, _⟩ := id L1
      refine ⟨_, rfl, p, dx, _, rfl, h1, no_attr, _, rfl, _, rfl, p, q, s, g, d, t, rfl, L1, k1.ext _ _ hd (fun _ z => nomatch z), pl, fun H2 k2 L2 => ?_⟩
      exact w2 e H2 ((Ks.of k1).trans k2) L2
    · refine ⟨_, rfl, rfl, _, rfl, ?_⟩
      refine (show if (!decide (V.ref u = V.non)) = true then _ else _ from ifNeY (fun z => nomatch z) ?_)
      exact ⟨_, rfl, fun e2 he => w1 W e u e2 H1 k1 hu he⟩
def sp_enter_N (K : PySem.W.Frag) (C : Addr) (T : List (Addr × Str)) (X : LkX) : Sp := fun vs H Q E => ∃ (p q : Addr) (s : LkS) (n : Str) (a : Int), vs = [.ref p, .str n, .int a] ∧ LkAt C H p q s ∧ Good s ∧ s.past.length ≤ 10000 ∧ Tabs T H ∧ isNm n = true ∧ n ∉ keysT s.t ∧ 0 ≤ a ∧ a ≤ 1000000000000 ∧ s.t.length < 40 ∧
  (gapOf s.b (valsT s.t ++ [a]) = none → ∀ H', Ks T (Two p q) H H' → LkAt C H' p q ⟨s.b, s.t ++ [(n, a)], s.past ++ [(s.b, s.t)]⟩ → Q .non H') ∧
  (gapOf s.b (valsT s.t ++ [a]) ≠ none → ∀ u e H', Kt T H H' → H' e = none → E (.ref X.refused) (some e) (upd H' e (.xd [("value", u)])))
theorem ntw_Link_enter {f C : Addr} {fd : FuncData} {k : Nat} {T : List (Addr × Str)} {X : LkX} (F : Fun K "enter" "Link.enter" s_Link_enter f fd) (LC : LinkC K C) (m_len : mg "len" = none) {tk0 : Tok} (mg_MOST_SENDERS : mg "MOST_SENDERS" = some (.int 40 tk0))
    (C_is_name : Cl P w K mg base CX0 1 "is_name" 1 (sp_is_name K)) (C_require_amount : Cl P w K mg base (L2.CX P w) 4 "require_amount" 1 (sp_require_amount K X)) (M_change_N : ClM P w K mg base (L2N.CX P w) 7 C "change" (sp_change_N K C T X)) :
    FnG P w K mg base (L2N.CX P w) (k + 8) f fd ["self", "name", "balance"] (sp_enter_N K C T X) := by
  refine okN F sc_Link_enter (fun vs H Q E h => ?_) (fun cdv A outer s0 H vs Q E gd hr h => ?_)
  · obtain ⟨p, q, s, n, a, rfl, _⟩ := h
    rfl
  obtain ⟨p, q, s, n, a, rfl, L, G, pl, hT, nn, hk, a0, a1, l40, w1, w2⟩ := h
  refine ⟨_, (pss_cons (ps_if (pt_not (pt_val (pe_cl C_is_name (hr.mono (by omega)) gd pass0 (by rfl) (pa_cons (pv 1) pa_nil))))
      (pss_one ps_never)
      pss_nil)
      (pss_cons (ps_if (pt_cmp (pc_din (hu1 hr) (pv 1) (pe_fld (pv 0) rfl)))
      (pss_one ps_never)
      pss_nil)
      (pss_cons (ps_expr (pe_clS (E := fun _ _ _ _ => False) C_require_amount (hr.mono (by omega)) gd passFS (by rfl) (pa_cons (pv 2) pa_nil)))
      (pss_cons (ps_if (pt_cmpR op_ge (pe_callB call_lenD (by rfl) m_len (by decide +kernel) (pa_cons (pe_fld (pv 0) rfl) pa_nil)) (pe_glob (v := .int 40) rfl mg_MOST_SENDERS ⟨_, rfl⟩) (nomark _))
      (pss_one ps_never)
      pss_nil)
      (pss_one (ps_expr (pe_clM (E := fun _ => E) LC.cls M_change_N (hr.mono (by omega)) gd (fun σ => L2N.passAt (W := fun cls d _ H => E cls d H) (L2N.takes_of rfl rfl rfl rfl) σ) (pv 0) (pa_cons (pe_fld (pv 0) rfl) (pa_cons (pe_dstar (pe_fld (pv 0) rfl) (pv 1) (pv 2)) pa_nil))))))))), ?_⟩
  have n8 := isNm_len nn
  refine ⟨_, rfl, .str n, .str n, (fun _ => False), rfl, .str n, by simp only [szD]; omega, fun H1 k1 => ?_⟩
  rw [nameD_str, nn]
  refine ⟨_, rfl, (show if (!true) = true then _ else _ from iteF ?_)⟩
  have L1 := L.kp k1
  obtain ⟨⟨dv, d0, h1, h2⟩, _⟩ := id L1
  refine ⟨_, rfl, _, rfl, p, C, dv, _, _, rfl, h1, LC.cls, LC.nd, lkF_d _ _ _, d0, _, rfl, DGet.k (k := Sum.inr n) h2, _, rfl, ?_⟩
  rw [tk_val, tget_none.mpr hk]
  refine (show if false = true then _ else _ from iteF ?_)
  have ea : amtD (.int a) = some a := if_pos ⟨a0, a1⟩
  refine ⟨_, rfl, .int a, .int a, (fun _ => False), rfl, .int a, fun _ => ?_, fun z => by rw [ea] at z; cases z⟩
  refine ⟨_, rfl, p, C, dv, _, _, rfl, h1, LC.cls, LC.nd, lkF_d _ _ _, d0, _, rfl, h2, _, _, rfl, rfl, _, rfl, ?_⟩
  rw [tk_len]
  refine (show if decide ((s.t.length : Int) ≥ 40) = true then _ else _ from ifNo (by omega) ?_)
  refine ⟨_, rfl, p, dv, _, rfl, h1, no_attr, ?_⟩
  refine ⟨_, rfl, p, C, dv, _, _, rfl, h1, LC.cls, LC.nb, lkF_b _ _ _, fun u nu => ?_⟩
  have npu : p ≠ u := ne_of_none h1 nu
  have ndu : d0 ≠ u := ne_of_none h2 nu
  have h1u := (upd_ne (o := .dK []) npu).trans h1
  have h2u := (upd_ne (o := .dK []) ndu).trans h2
  refine ⟨_, rfl, p, C, dv, _, _, rfl, h1u, LC.cls, LC.nd, lkF_d _ _ _, d0, tk s.t, rfl, ndu, .inl h2u, upd_same, by rw [tk_len, sizeLine_eq]; omega, fun u2 nu2 => ?_⟩
  have nu2u : u2 ≠ u := fun z => by
    rw [z, upd_same] at nu2
    cases nu2
  have nu2' : H1 u2 = none := (upd_ne nu2u).symm.trans nu2
  refine ⟨_, rfl, _, rfl, Sum.inr n, rfl, (upd_ne nu2u.symm).trans upd_same, upd_same, nu2u, ?_⟩
  rw [tk_put]
  generalize hH2 : upd (upd (upd (upd (upd H1 u (.dK [])) u (.dK (tk s.t))) u2 (.dK [])) u2 (.dK [(Sum.inr n, .int a)])) u (.dK (tk (tput s.t n a))) = H2
  have k2 : Kp [] H1 H2 := fun b o _ e => by
    rw [← hH2]
    have b1 := ne_of_none e nu
    have b2 := ne_of_none e nu2'
    rw [upd_ne b1, upd_ne b2, upd_ne b2, upd_ne b1, upd_ne b1]
    exact e
  have hu2 : H2 u = some (.dK (tk (tput s.t n a))) := by rw [← hH2]; exact upd_same
  have et : tput s.t n a = s.t ++ [(n, a)] := tput_new a hk
  have ev : valsT (tput s.t n a) = valsT s.t ++ [a] := by
    rw [et]
    unfold valsT
    rw [List.map_append]
    rfl
  have wk : weakN s.b (tput s.t n a) = none ↔ gapOf s.b (valsT s.t ++ [a]) = none := by rw [weakN_none, ev]
  refine ⟨p, q, s, s.b, u, tput s.t n a, rfl, L1.kp k2, hu2, tput_nd a G.now.nd, by have := tput_len_le s.t n a; omega, G.now.b1, (k1.trans k2).kt.tab hT, pl, fun W ew z e H3 k3 hz3 he => ?_, fun ew H3 k3 L3 => ?_⟩
  · exact w2 (fun z => by rw [wk.mpr z] at ew; cases ew) (.ref z) e H3 ((k1.trans k2).kt.trans k3) he
  · rw [et] at L3
    exact w1 (wk.mp ew) H3 ((Ks.of (k1.trans k2).kt).trans k3) L3
theorem numF_bd {w : Str} {lo hi n : Int} (h : numF w lo hi = some n) : lo ≤ n ∧ n ≤ hi := ⟨(numF_some h).2.1, (numF_some h).2.2.1⟩
theorem budRow_ok {r : Str} {b : Int} (h : budRow r = some b) : 1 ≤ b ∧ b ≤ 1000000 := by
  unfold budRow at h
  split at h
  · split at h
    · exact numF_bd h
    · cases h
  · cases h
theorem sndRow_ok {r : Str} {p : Str × Int} (h : sndRow r = some p) : isNm p.1 = true ∧ 0 ≤ p.2 ∧ p.2 ≤ 1000000000000 := by
  unfold sndRow at h
  split at h
  · split at h
    · rename_i a b _ nm
      cases e : numF b 0 1000000000000 with
      | none => rw [e] at h; cases h
      | some x =>
        rw [e] at h
        cases h
        exact ⟨nm, numF_bd e⟩
    · cases h
  · cases h
/-- what rows that stand tell -/
structure SndsOk (i : Nat) (bf : Str) (ps : List (Str × Int)) : Prop where
  all : ∀ p ∈ ps, isNm p.1 = true ∧ 0 ≤ p.2 ∧ p.2 ≤ 1000000000000
  gt : ∀ p ∈ ps, leS p.1 bf = false
  asc : ps.Pairwise fun a b => leS b.1 a.1 = false
  few : ps = [] ∨ i + ps.length ≤ 41
theorem leS_false_trans {a b c : Str} (h1 : leS b a = false) (h2 : leS c b = false) : leS c a = false := by
  cases e : leS c a with
  | false => rfl
  | true =>
    have t : leS a b = true := by
      have := leS_total a b
      rw [h1, Bool.or_false] at this
      exact this
    rw [leS_trans c a b e t] at h2
    cases h2
theorem sndsF_ok : ∀ {rs : List Str} {i : Nat} {bf : Str} {ps : List (Str × Int)}, sndsF i bf rs = .ok ps → SndsOk i bf ps
  | [], i, bf, ps, h => by
    cases h
    exact ⟨(fun _ z => nomatch z), (fun _ z => nomatch z), .nil, .inl rfl⟩
  | r :: rs, i, bf, ps, h => by
    unfold sndsF at h
    split at h
    · cases h
    · rename_i p er
      split at h
      · cases h
      · rename_i hc
        split at h
        · cases h
        · rename_i l el
          cases h
          have ih := sndsF_ok el
          rw [Bool.not_eq_true, Bool.or_eq_false_iff] at hc
          have h40 := of_decide_eq_false hc.2
          refine ⟨fun q hq => ?_, fun q hq => ?_, List.pairwise_cons.mpr ⟨ih.gt, ih.asc⟩, .inr ?_⟩
          · rcases List.mem_cons.mp hq with e | e
            · rw [e]; exact sndRow_ok er
            · exact ih.all q e
          · rcases List.mem_cons.mp hq with e | e
            · rw [e]; exact hc.1
            · exact leS_false_trans hc.1 (ih.gt q e)
          · rcases ih.few with e | e
            · rw [e]
              show i + 1 ≤ 41
              omega
            · rw [List.length_cons]; omega
theorem SndsOk.at_ {i0 : Nat} {bf : Str} {ps : List (Str × Int)} (h : SndsOk i0 bf ps) {i : Nat} (hi : i < ps.length) : isNm (ps.getD i default).1 = true ∧ 0 ≤ (ps.getD i default).2 ∧ (ps.getD i default).2 ≤ 1000000000000 := by
  have := h.all (ps.getD i default) (by
    rw [List.getD_eq_getElem?_getD, List.getElem?_eq_getElem hi]
    exact List.getElem_mem hi)
  exact this
theorem SndsOk.nodup {i0 : Nat} {bf : Str} {ps : List (Str × Int)} (h : SndsOk i0 bf ps) (i : Nat) : (keysT (ps.take i)).Nodup := by
  unfold keysT List.Nodup
  rw [List.pairwise_map]
  refine (List.Pairwise.sublist (List.take_sublist i ps) h.asc).imp fun {a b} z e => ?_
  rw [e, leS_refl] at z
  cases z
theorem SndsOk.new {i0 : Nat} {bf : Str} {ps : List (Str × Int)} (h : SndsOk i0 bf ps) {i : Nat} (hi : i < ps.length) : (ps.getD i default).1 ∉ keysT (ps.take i) := fun hm => by
  have nd := h.nodup (i + 1)
  rw [List.take_add_one, List.getElem?_eq_getElem hi] at nd
  unfold keysT at nd hm
  rw [List.map_append] at nd
  have := (List.nodup_append.mp nd).2.2 _ hm
  refine this ps[i].1 (List.mem_singleton.mpr rfl) ?_
  rw [List.getD_eq_getElem?_getD, List.getElem?_eq_getElem hi]
  rfl
theorem vals_snoc {ps : List (Str × Int)} {i : Nat} (hi : i < ps.length) : valsT (ps.take i) ++ [(ps.getD i default).2] = (valsT ps).take (i + 1) := by
  unfold valsT
  rw [← List.map_take, List.take_add_one, List.getElem?_eq_getElem hi, List.map_append, List.getD_eq_getElem?_getD, List.getElem?_eq_getElem hi]
  rfl
theorem PairsV.at_ {K : PySem.W.Frag} {H : Hp} : ∀ {us : List V} {ps : List (Str × Int)} {i : Nat} {v : V}, PairsV K H us ps → i < us.length → us[i]? = some v → ∃ u : Addr, v = .ref u ∧ SqT K H u [.str (ps.getD i default).1, .int (ps.getD i default).2]
  | [], [], _, _, _, h, _ => absurd h (Nat.not_lt_zero _)
  | [], _ :: _, _, _, h, _, _ => h.elim
  | _ :: _, [], _, _, h, _, _ => h.elim
  | _ :: _, _ :: _, 0, _, h, _, e => by
    cases e
    exact h.1
  | _ :: _, _ :: _, i + 1, _, h, hi, e => h.2.at_ (i := i) (Nat.lt_of_succ_lt_succ hi) e
theorem PairsV.st {K : PySem.W.Frag} {N : Addr → Prop} {H H' : Hp} (k : Stay K N H H') : ∀ {us : List V} {ps : List (Str × Int)}, PairsV K H us ps → PairsV K H' us ps
  | [], [], _ => trivial
  | [], _ :: _, h => h.elim
  | _ :: _, [], h => h.elim
  | _ :: _, _ :: _, ⟨⟨u, e, h⟩, r⟩ => ⟨⟨u, e, k.t _ _ h⟩, r.st k⟩
def sp_read_link (K : PySem.W.Frag) (C : Addr) (T : List (Addr × Str)) (BT : Addr) : Sp := fun vs H Q E => ∃ (v : V) (o : Option Str), vs = [v] ∧ StrOr K H v o ∧ Tabs T H ∧
  (∀ b t, readL o = .ok (b, t) → ∀ p q H', Kt T H H' → Nt H p → Nt H q → LkAt C H' p q ⟨b, t, []⟩ → GoodT b t → Q (.ref p) H') ∧
  (∀ i, readL o = .error i → ∀ e H', Kt T H H' → H' e = none → E (.ref BT) (some e) (upd H' e (.xd [("value", .int (i : Int))])))
theorem ok_read_link {f C : Addr} {fd : FuncData} {k : Nat} {T : List (Addr × Str)} {BT : Addr} {X : LkX} (F : Fun K "read_link" "read_link" s_read_link f fd) (LC : LinkC K C) (m_isinstance : mg "isinstance" = none) (m_str : mg "str" = none) (m_len : mg "len" = none) (t_BadText : Told P w K mg base "BadText" BT) (h_BadText : ToldH P w K mg base "BadText" BT) (x_Refused : mg "Refused" = some (.ref X.refused))
    (r_Refused : PySem.W.exmOne K (.ref X.refused) (.ref X.refused) = some true)
    (C_read_budget_row : Cl P w K mg base CX0 3 "read_budget_row" 1 (sp_read_budget_row K)) (C_read_senders : Cl P w K mg base (L2.CX P w) 4 "read_senders" 1 (sp_read_senders K BT)) (N_Link : ClN P w K mg base (L2.CX P w) 5 "Link" C (sp_Link___init__ K C X))
    (M_enter_N : ClM P w K mg base (L2N.CX P w) 8 C "enter" (sp_enter_N K C T X)) (M_clone : ClM P w K mg base CX0 7 C "clone" (sp_Link_clone C)) :
    FnG P w K mg base (L2.CX P w) (k + 9) f fd ["text"] (sp_read_link K C T BT) := by
  obtain ⟨_, _, V_BadText, F_BadText⟩ := t_BadText
  obtain ⟨_, _, H_BadText, I_BadText⟩ := h_BadText
  refine okX F sc_read_link (fun vs H Q E h => ?_) (fun cdv A outer s H vs Q E gd hr h => ?_)
  · obtain ⟨v, o, rfl, _⟩ := h
    rfl
  · obtain ⟨v, o, rfl, hv, hT, q1, q2⟩ := h
    obtain ⟨aT, ty, kit⟩ := hv.ty
    have hr2 := hr.mono (show 1 + 1 ≤ k + 8 by omega)
    refine ⟨_, (pss_cons (ps_if (pt_not (pt_val (pe_callB (call_isiB (K := K) rfl) (by rfl) m_isinstance (by decide +kernel) (pa_cons (pv 0) (pa_cons (pe_bltn (v := .ty "str") (by rfl) m_str rfl rfl) pa_nil)))))
      (pss_one (ps_raise rfl (takes_of rfl rfl rfl rfl) (pmk_value V_BadText F_BadText hr2 (by rfl) pe_int)))
      pss_nil)
      (pss_cons (ps_set (i := 1) sc_read_link.nd rfl (.inl rfl) (pe_split (pv 0) pe_str))
      (pss_cons (ps_set (i := 2) sc_read_link.nd rfl (.inl rfl) (pe_cl C_read_budget_row (hr.mono (by omega)) gd pass0 (by rfl) (pa_cons (pe_ix (ix_la (K := K) rfl) (pv 1) pe_int (fun _ _ => rfl)) pa_nil)))
      (pss_cons (ps_if (pt_cmpR op_isN (pv 2) pe_non (nomark _))
      (pss_one (ps_raise rfl (takes_of rfl rfl rfl rfl) (pmk_value V_BadText F_BadText hr2 (by rfl) pe_int)))
      pss_nil)
      (pss_cons (ps_set (i := 3) sc_read_link.nd rfl (.inl rfl) (pe_clS (E := fun _ => E) C_read_senders (hr.mono (by omega)) gd (fun σ => passAt (W := fun cls d _ H => E cls d H) (takes_of rfl rfl rfl rfl) σ) (by rfl) (pa_cons (pv 1) pa_nil)))
      (pss_cons (ps_set (i := 4) sc_read_link.nd rfl (.inl rfl) (pe_clN (E := fun _ => E) N_Link (hr.mono (by omega)) gd (fun σ => passAt (W := fun cls d _ H => E cls d H) (takes_of rfl rfl rfl rfl) σ) (by rfl) (pa_cons (pv 2) pa_nil)))
      (pss_cons (ps_try_for (X := cxOf (L2.CX P w) P w K mg base ["text", "rows", "budget", "senders", "link", "name", "balance"] "read_link" (defScope s_read_link) f cdv A outer s H E) (wi := iList K (tVar 3)) (g := (gTup K 2 (gCons (gName 5) (gCons (gName 6) gNil)))) rfl rfl ⟨by rfl, by decide, .inl x_Refused⟩ (L2H.passesAt_of rfl) (takes_of rfl rfl rfl rfl) rfl (fun pn xe => (pi_list (pv 3))) (fun pn xe => (pg_tup rfl (pgs_cons (pg_name (i := 5) sc_read_link.nd rfl (.inl rfl)) (pgs_cons (pg_name (i := 6) sc_read_link.nd rfl (.inl rfl)) pgs_nil))))
      (fun W pn xe tk => (pss_one (ps_expr (pe_clM LC.cls M_enter_N (hr.mono (by omega)) gd (fun σ => L2N.passAt tk σ) (pv 4) (pa_cons (pv 5) (pa_cons (pv 6) pa_nil))))))
      (fun a oe cls d pn hz hf tkS hot => (pss_one (L2H.ps_raiseHN hot tkS (pmk5_value H_BadText I_BadText (L2H.roomH_mark hr2 _) hot (by rfl) (pe_callB (call_len_seqK (K := K) rfl) (by rfl) m_len (by decide +kernel) (pa_cons (pv 1) pa_nil)))))))
      (pss_one (ps_ret (pe_clM0 (E := fun _ _ _ _ => False) LC.cls M_clone (hr.mono (by omega)) gd passG (pv 4))))))))))), ?_⟩
    refine ⟨_, rfl, _, _, _, _, rfl, ty, kit, _, rfl, ?_⟩
    cases o with
    | none => exact (show if (!false) = true then _ else _ from iteT fun e1 n1 => q2 0 rfl e1 H .refl n1)
    | some x =>
      refine (show if (!true) = true then _ else _ from iteF ?_)
      obtain ⟨rfl, hz⟩ := hv
      obtain ⟨b1, b2⟩ := line_len x
      have rne := line_ne x
      have q1 : ∀ b t, readRows (Txt.split x "\n") = .ok (b, t) → ∀ p q H', Kt T H H' → Nt H p → Nt H q → LkAt C H' p q ⟨b, t, []⟩ → GoodT b t → Q (.ref p) H' := q1
      have q2 : ∀ i, readRows (Txt.split x "\n") = .error i → ∀ e H', Kt T H H' → H' e = none → E (.ref BT) (some e) (upd H' e (.xd [("value", .int (i : Int))])) := q2
      refine ⟨_, rfl, ⟨_, rfl⟩, x, "\n", rfl, rfl, by decide +kernel, by rw [sizeLine_eq]; omega, fun l nl => ?_⟩
      have k1 : Kp [] H (upd H l (.lst ((Txt.split x "\n").map V.str))) := Kp.new nl
      generalize hH1 : upd H l (.lst ((Txt.split x "\n").map V.str)) = H1 at k1
      have hl : H1 l = some (.lst ((Txt.split x "\n").map V.str)) := by rw [← hH1, upd_same]
      generalize Txt.split x "\n" = rows at hl b1 b2 q1 q2 rne
      have e0 : (rows.map V.str)[0]? = some (.str (rows.headD "")) := by
        cases rows with
        | nil => exact absurd rfl rne
        | cons r rs => rfl
      have m0 : rows.headD "" ∈ rows := by
        cases rows with
        | nil => exact absurd rfl rne
        | cons r rs => exact List.mem_cons_self
      refine ⟨_, rfl, l, _, 0, _, rfl, rfl, sqL hl, e0, _, rfl, Nat.le_trans (b2 _ m0) (by omega), fun H2 k2 => ?_⟩
      have k12 := k1.trans k2
      cases eb : budRow (rows.headD "") with
      | none =>
        exact ⟨_, rfl, rfl, _, rfl, ifYes rfl fun e1 n1 => q2 0 (readRows_no eb) e1 H2 k12.kt n1⟩
      | some b =>
        refine ⟨_, rfl, rfl, _, rfl, ifNo (fun z => nomatch z) ?_⟩
        have hb := budRow_ok eb
        have hl2 := k2.at0 hl
        refine ⟨_, rfl, l, rows, rfl, sqL hl2, by omega, fun y hy => Nat.le_trans (b2 y hy) (by omega), fun ps es lq us H3 k3 hq hp => ?_, fun i es e1 H3 k3 n1 => q2 i (readRows_bad eb es) e1 H3 (k12.trans k3).kt n1⟩
        have sok := sndsF_ok es
        have eR := readRows_ok eb es
        have k13 := k12.trans k3
        have hl3 := k3.at0 hl2
        refine ⟨_, rfl, ?_⟩
        refine fun p dx np nd ndp => link_new np nd ndp hb.1 hb.2 fun q H4 k4 nq L4 => ⟨rfl, ?_⟩
        have lu := hp.len
        have k14 := k13.trans k4
        have np0 : Nt H p := nt0 (k13.free0 np)
        have nq0 : Nt H q := nt0 (k13.free0 nq)
        have nlq : lq ≠ q := fun z => by rw [z, nq] at hq; cases hq
        have nl3 : l ≠ q := fun z => by rw [z, nq] at hl3; cases hl3
        refine ⟨_, rfl, lq, rfl, ⟨_, sqL (k4.at0 hq)⟩, _, _, _, walk_list (xs := us), ?_⟩
        refine ⟨fun i σ H' => ∃ (y5 y6 : Option V) (s' : LkS), σ = [some (.str x), some (.ref l), some (.int b), some (.ref lq), some (.ref p), y5, y6] ∧ Kt T H H' ∧ LkAt C H' p q s' ∧ Good s' ∧ s'.b = b ∧ s'.t = ps.take i ∧ s'.past.length = i ∧ H' l = some (.lst (rows.map V.str)) ∧ H' lq = some (.lst us) ∧ PairsV K H' us ps,
          ⟨_, _, _, rfl, k14.kt, L4, good_new hb.1 hb.2 [] rfl, rfl, rfl, rfl, k4.at0 hl3, k4.at0 hq, hp.kp k4⟩, fun _ _ _ _ ⟨_, _, _, _, _, _, _, _, _, _, _, z, _⟩ => sqL z, ?_, ?_⟩
        · rintro i y σ H5 _ hi ⟨y5, y6, s', rfl, x5, L5, G5, e5b, e5t, e5p, hl5, hq5, hp5⟩ ⟨rfl, hx⟩
          obtain ⟨nm, am⟩ := sok.at_ (i := i) (by omega)
          obtain ⟨u, rfl, hu⟩ := hp5.at_ (i := i) hi hx
          refine ⟨u, _, rfl, hu, rfl, _, _, rfl, _, _, rfl, rfl, ?_⟩
          have hk : (ps.getD i default).1 ∉ keysT s'.t := by
            rw [e5t]
            exact sok.new (by omega)
          have lt5 : s'.t.length = i := by rw [e5t, List.length_take]; omega
          have few : ps.length ≤ 40 := by
            rcases sok.few with e | e
            · rw [e]; exact Nat.zero_le _
            · omega
          have ev : valsT s'.t ++ [(ps.getD i default).2] = (valsT ps).take (i + 1) := by
            rw [e5t]
            exact vals_snoc (by omega)
          have et : s'.t ++ [(ps.getD i default)] = ps.take (i + 1) := by
            rw [e5t, List.take_add_one, List.getElem?_eq_getElem (show i < ps.length by omega), List.getD_eq_getElem?_getD, List.getElem?_eq_getElem (show i < ps.length by omega)]
            rfl
          generalize ps.getD i default = pr at *
          refine ⟨_, rfl, at_z L5 z_enter ⟨_, rfl, _, rfl, tnil_z ⟨p, q, s', pr.1, pr.2, rfl, L5, G5, by omega, x5.tab hT, nm, hk, am.1, am.2, by omega, fun eg H6 k6 L6 => ?_, fun eg uu e H6 k6 ne => ?_⟩⟩⟩
          · have st6 : Stay K (fun z => z = q) _ H6 := L5.stay (K := K) (N := fun z => z = q) rfl k6
            have L6 : LkAt C H6 p q ⟨s'.b, s'.t ++ [pr], s'.past ++ [(s'.b, s'.t)]⟩ := L6
            refine ⟨_, _, _, rfl, new_z x5 np0 nq0 k6, L6, ⟨⟨G5.now.b1, G5.now.b2, ?_, ?_, ?_, ?_⟩, fun z hz => ?_⟩, e5b, et, by rw [List.length_append, e5p]; rfl, st6.l _ _ nl3 hl5, st6.l _ _ nlq hq5, hp5.st st6⟩
            · rw [List.length_append, lt5]
              show i + 1 ≤ 40
              omega
            · rw [et]
              exact sok.nodup (i + 1)
            · rw [et]
              intro n hn
              obtain ⟨z, hz, rfl⟩ := List.mem_map.mp hn
              exact (sok.all z (List.mem_of_mem_take hz)).1
            · show gapOf s'.b (valsT (s'.t ++ [pr])) = none
              rw [← eg]
              unfold valsT
              rw [List.map_append]
              rfl
            · rcases List.mem_append.mp hz with z1 | z1
              · exact G5.old z z1
              · rw [List.mem_singleton.mp z1]
                exact G5.now
          · refine ⟨true, r_Refused, fun _ a na => ?_, fun z => nomatch z⟩
            have k7 : Kt T H (upd H6 e (.xd [("value", uu)])) := (x5.trans k6).kp (Kp.new ne)
            have hl7 : (upd H6 e (.xd [("value", uu)])) l = some (.lst (rows.map V.str)) := (Kp.new ne).at0 (k6.atL hl5)
            refine ⟨_, rfl, l, _, rfl, .inl (sqL hl7), fun e1 n1 => ?_⟩
            rw [List.length_map]
            refine q2 rows.length ?_ e1 _ k7 n1
            rw [eR, if_neg fun z => eg ?_]
            rw [ev, e5b]
            have z := gap_fst (l := (valsT ps).take (i + 1)) (m := (valsT ps).drop (i + 1)) (by rw [List.take_append_drop]; exact z)
            exact z
        rintro σ H5 ⟨y5, y6, s', rfl, x5, L5, G5, e5b, e5t, e5p, hl5, hq5, hp5⟩
        rw [List.take_of_length_le (by omega)] at e5t
        refine ⟨_, rfl, at_z L5 z_clone ⟨p, q, s', rfl, L5, G5, fun p2 q2' H6 k6 np2 nq2 npq L6 => ?_⟩⟩
        have g := G5.now
        rw [e5b, e5t] at g L6
        exact q1 b ps (by rw [eR, if_pos g.safe]) p2 q2' H6 (x5.kp k6) (x5.nt (nt0 np2)) (x5.nt (nt0 nq2)) L6 g
/-! ### texts written and read back -/
open TL
theorem joinL_spl (s : Nat) : ∀ (l acc : List Nat), joinL [s] (spl [s] 0 acc l) = acc ++ l
  | [], acc => by rw [spl_nil, List.append_nil]; rfl
  | c :: r, acc => by
    cases h : pre [s] (c :: r) with
    | true =>
      rw [spl_hit h]
      have e : c = s := by
        have : [c] = [s] := eq_of_beq h
        exact (List.cons.inj this).1
      have ih := joinL_spl s r []
      rw [show [s].length - 1 = 0 from rfl]
      cases e2 : spl [s] 0 [] r with
      | nil => exact absurd e2 (spl_ne _ _ _ _)
      | cons q t =>
        rw [e2] at ih
        show acc ++ ([s] ++ joinL [s] (q :: t)) = acc ++ c :: r
        rw [ih, e]
        rfl
    | false =>
      rw [spl_miss h, joinL_spl s r (acc ++ [c]), List.append_assoc]
      rfl
theorem join_back {y : Str} {s : Nat} (ey : y.cps.toList = [s]) (hk : y.cps.all (· < 256) = true) (x : Str) : Txt.join y (Txt.split x y) = x := by
  refine ext_tl ?_
  rw [join_eq, tl_join, split_tl y (by rw [ey]; exact fun z => nomatch z) hk x]
  show joinL y.cps.toList (spl y.cps.toList 0 [] (TL.tl x)) = TL.tl x
  rw [ey, joinL_spl, List.nil_append]
theorem blank_back (x : Str) : Txt.join " " (Txt.split x " ") = x := join_back (y := blankS) blank_tl (by decide +kernel) x
theorem line_back (x : Str) : Txt.join "\n" (Txt.split x "\n") = x := join_back (y := lineS) line_tl (by decide +kernel) x
/-- a word is a number, as it is written -/
def numW (w : Str) : Bool := decide (w ≠ "") && (isDig w && decide (tnum (NumText.digitsVal w.cps.toList : Int) = w))
def areN (x : Str) : Bool := (Txt.split x " ").all numW
theorem numW_of {n : Nat} : numW (tnum (n : Int)) = true := by
  have et := tnum_tl n
  have ev : NumText.digitsVal (tnum (n : Int)).cps.toList = n := by rw [et]; exact numL_val n
  unfold numW
  rw [ev, all_isDig (by rw [et]; exact numL_digits n), decide_eq_true rfl, Bool.and_self, Bool.and_true]
  refine decide_eq_true fun e => ?_
  have : (tnum (n : Int)).cps.toList = [] := by rw [e]; decide +kernel
  rw [et] at this
  exact numL_ne n this
theorem numW_some {w : Str} {lo hi n : Int} (h : numF w lo hi = some n) : numW w = true := by
  obtain ⟨e, _, _, h0⟩ := numF_some h
  obtain ⟨m, rfl⟩ : ∃ m : Nat, n = (m : Int) := ⟨n.toNat, by omega⟩
  rw [e]
  exact numW_of
theorem val_lt : ∀ (n : Nat) (l : List Nat), l.length = n → NumText.AllDigits l → NumText.digitsVal l < 10 ^ n := by
  intro n
  induction n with
  | zero =>
    intro l h _
    rw [List.length_eq_zero_iff.mp h]
    decide
  | succ n ih =>
    intro l hl hd
    have hn : l ≠ [] := fun z => by rw [z] at hl; cases hl
    obtain ⟨r, c, rfl⟩ : ∃ r c, l = r ++ [c] := ⟨l.dropLast, l.getLast hn, (List.dropLast_concat_getLast hn).symm⟩
    have hc := hd c (List.mem_append_right _ (List.mem_singleton.mpr rfl))
    have h1 := ih r (by rw [List.length_append] at hl; have : [c].length = 1 := rfl; omega) fun x hx => hd x (List.mem_append_left _ hx)
    rw [val_snoc, Nat.pow_succ]
    omega
theorem numF_word {w : Str} (h : numW w = true) (hl : w.length ≤ 12) : ∃ n : Int, numF w 0 1000000000000 = some n ∧ 0 ≤ n ∧ tnum n = w := by
  unfold numW at h
  rw [Bool.and_eq_true, Bool.and_eq_true] at h
  have e := of_decide_eq_true h.2.2
  have b := val_lt _ _ rfl (isDig_all h.2.1)
  have lw : w.cps.toList.length = w.length := rfl
  rw [lw] at b
  have b2 : NumText.digitsVal w.cps.toList < 10 ^ 12 := Nat.lt_of_lt_of_le b (Nat.pow_le_pow_right (by decide) hl)
  refine ⟨_, ?_, by omega, e⟩
  rw [← e]
  have := numF_of (lo := 0) (hi := 1000000000000) (n := (NumText.digitsVal w.cps.toList : Int)) (by omega) (by omega) (by omega) (by omega)
  rw [this]
  have e2 : NumText.digitsVal (tnum (NumText.digitsVal w.cps.toList : Int)).cps.toList = NumText.digitsVal w.cps.toList := by rw [e]
  rw [e2]
theorem numsF_few {x : Str} (h : areN x = true) (h5 : x.length ≤ 12) : ∃ ns : List Int, numsF (Txt.split x " ") = some ns ∧ showB ns = x ∧ ns.length ≤ 40 ∧ ∀ y ∈ ns, 0 ≤ y ∧ y < 10000000000000 := by
  obtain ⟨b1, b2⟩ := blank_len x
  have ne := blank_ne x
  have back := blank_back x
  unfold areN at h
  unfold numsF
  generalize Txt.split x " " = ws at *
  have hw : ∀ w ∈ ws, ∃ n : Int, numF w 0 1000000000000 = some n ∧ 0 ≤ n ∧ tnum n = w := fun w hw => numF_word (List.all_eq_true.mp h w hw) (Nat.le_trans (b2 w hw) h5)
  have l1 : 1 ≤ ws.length := by
    cases ws with
    | nil => exact absurd rfl ne
    | cons _ _ => rw [List.length_cons]; omega
  rw [if_pos ⟨l1, by omega⟩]
  rcases mapM_opt (fun w => numF w 0 1000000000000) ws with ⟨ns, e1, e2⟩ | ⟨e1, e2⟩
  · refine ⟨ns, e2, ?_, ?_, fun y hy => ?_⟩
    · unfold showB
      rw [← back]
      congr 1
      have key : ∀ (ws : List Str) (ns : List Int), (∀ w ∈ ws, ∃ n : Int, numF w 0 1000000000000 = some n ∧ 0 ≤ n ∧ tnum n = w) → ws.map (fun w => numF w 0 1000000000000) = ns.map some → ns.map tnum = ws := by
        intro ws
        induction ws with
        | nil =>
          intro ns _ e
          cases ns with
          | nil => rfl
          | cons _ _ => cases e
        | cons w r ih =>
          intro ns hw e
          cases ns with
          | nil => cases e
          | cons n t =>
            rw [List.map_cons, List.map_cons] at e
            obtain ⟨ea, eb⟩ := List.cons.inj e
            obtain ⟨m, h1, _, h3⟩ := hw w List.mem_cons_self
            rw [h1] at ea
            cases ea
            rw [List.map_cons, h3, ih t (fun z hz => hw z (List.mem_cons_of_mem _ hz)) eb]
      exact key ws ns hw e1
    · have := congrArg List.length e1
      rw [List.length_map, List.length_map] at this
      omega
    · have : some y ∈ ns.map some := List.mem_map.mpr ⟨y, hy, rfl⟩
      rw [← e1] at this
      obtain ⟨w, _, e⟩ := List.mem_map.mp this
      have := numF_some e
      omega
  · obtain ⟨w, h1, h2⟩ := List.mem_map.mp e1
    obtain ⟨n, h3, _⟩ := hw w h1
    rw [h3] at h2
    cases h2
theorem numsF_no {x : Str} (h : areN x = false) : numsF (Txt.split x " ") = none := by
  unfold areN at h
  unfold numsF
  generalize Txt.split x " " = ws at *
  split
  · rcases mapM_opt (fun w => numF w 0 1000000000000) ws with ⟨ns, e1, e2⟩ | ⟨e1, e2⟩
    · exfalso
      rw [List.all_eq_false] at h
      obtain ⟨w, h1, h2⟩ := h
      have : numF w 0 1000000000000 ∈ ns.map some := by rw [← e1]; exact List.mem_map.mpr ⟨w, h1, rfl⟩
      obtain ⟨n, _, e⟩ := List.mem_map.mp this
      exact h2 (numW_some e.symm)
    · exact e2
  · rfl
/-! ### a link's text is what was read -/
theorem join_two (a b : Str) : Txt.join " " [a, b] = a ++ " " ++ b := by
  rw [join_eq]
  rfl
theorem budRow_show {r : Str} {b : Int} (h : budRow r = some b) : headS b = r := by
  have back := blank_back r
  unfold budRow at h
  generalize Txt.split r " " = ws at *
  split at h
  · rename_i x y
    split at h
    · rename_i ex
      have e := (numF_some h).1
      rw [← back, join_two, ex, e]
      unfold headS
      exact ext_tl (by rw [tl_append, tl_append, tl_append]; congr 1)
    · cases h
  · cases h
theorem sndRow_show {r : Str} {p : Str × Int} (h : sndRow r = some p) : rowS p.1 p.2 = r := by
  have back := blank_back r
  unfold sndRow at h
  generalize Txt.split r " " = ws at *
  split at h
  · rename_i x y
    split at h
    · cases e : numF y 0 1000000000000 with
      | none => rw [e] at h; cases h
      | some n =>
        rw [e] at h
        cases h
        rw [← back, join_two, (numF_some e).1]
        rfl
    · cases h
  · cases h
theorem sndsF_show : ∀ {rs : List Str} {i : Nat} {bf : Str} {ps : List (Str × Int)}, sndsF i bf rs = .ok ps → ps.map (fun p => rowS p.1 p.2) = rs
  | [], _, _, _, h => by
    cases h
    rfl
  | r :: rs, i, bf, ps, h => by
    unfold sndsF at h
    split at h
    · cases h
    · rename_i p er
      split at h
      · cases h
      · split at h
        · cases h
        · rename_i l el
          cases h
          rw [List.map_cons, sndRow_show er, sndsF_show el]
theorem sndsF_at : ∀ {rs : List Str} {i : Nat} {bf : Str} {j : Nat}, sndsF i bf rs = .error j → j < i + rs.length
  | [], _, _, _, h => by cases h
  | r :: rs, i, bf, j, h => by
    unfold sndsF at h
    rw [List.length_cons]
    split at h
    · cases h
      omega
    · split at h
      · cases h
        omega
      · split at h
        · rename_i k ek
          cases h
          have := sndsF_at ek
          omega
        · cases h
theorem asc_nsT {ps : List (Str × Int)} (h : ps.Pairwise fun a b => leS b.1 a.1 = false) : nsT ps = keysT ps := by
  have : (keysT ps).Pairwise fun a b => leS a b = true := by
    unfold keysT
    rw [List.pairwise_map]
    refine h.imp fun {a b} z => ?_
    have t := leS_total a.1 b.1
    rw [z, Bool.or_false] at t
    exact t
  exact (srtN_eq (.refl _) this).symm
theorem linkS_asc {b : Int} {ps : List (Str × Int)} (h : ps.Pairwise fun a b => leS b.1 a.1 = false) (nd : (keysT ps).Nodup) : linkS b ps = Txt.join "\n" (headS b :: ps.map fun p => rowS p.1 p.2) := by
  unfold linkS
  rw [asc_nsT h]
  congr 2
  unfold keysT
  rw [List.map_map]
  refine List.map_congr_left fun p hp => ?_
  show rowS p.1 (tval ps p.1) = _
  unfold tval
  rw [tget_of nd (show (p.1, p.2) ∈ ps from hp)]
  rfl
theorem readRows_show {rows : List Str} {b : Int} {t : Tab} (ne : rows ≠ []) (h : readRows rows = .ok (b, t)) : linkS b t = Txt.join "\n" rows := by
  unfold readRows at h
  cases eb : budRow (rows.headD "") with
  | none => rw [eb] at h; cases h
  | some c =>
    rw [eb] at h
    have h : (match sndsF 1 "" (rows.drop 1) with | .error i => .error i | .ok l => if gapOf c (valsT l) = none then .ok (c, l) else .error rows.length : Except Nat (Int × Tab)) = .ok (b, t) := h
    cases es : sndsF 1 "" (rows.drop 1) with
    | error i => rw [es] at h; cases h
    | ok l =>
      rw [es] at h
      have h : (if gapOf c (valsT l) = none then .ok (c, l) else .error rows.length : Except Nat (Int × Tab)) = .ok (b, t) := h
      split at h
      · cases h
        have sok := sndsF_ok es
        have nd := sok.nodup t.length
        rw [List.take_length] at nd
        rw [linkS_asc sok.asc nd, sndsF_show es, budRow_show eb]
        cases rows with
        | nil => exact absurd rfl ne
        | cons r rs => rfl
      · cases h
theorem readRows_at {rows : List Str} {i : Nat} (ne : rows ≠ []) (h : readRows rows = .error i) : i ≤ rows.length := by
  unfold readRows at h
  have l1 : 1 ≤ rows.length := by
    cases rows with
    | nil => exact absurd rfl ne
    | cons _ _ => rw [List.length_cons]; omega
  cases eb : budRow (rows.headD "") with
  | none =>
    rw [eb] at h
    cases h
    omega
  | some c =>
    rw [eb] at h
    have h : (match sndsF 1 "" (rows.drop 1) with | .error i => .error i | .ok l => if gapOf c (valsT l) = none then .ok (c, l) else .error rows.length : Except Nat (Int × Tab)) = .error i := h
    cases es : sndsF 1 "" (rows.drop 1) with
    | error j =>
      rw [es] at h
      cases h
      have := sndsF_at es
      rw [List.length_drop] at this
      omega
    | ok l =>
      rw [es] at h
      have h : (if gapOf c (valsT l) = none then .ok (c, l) else .error rows.length : Except Nat (Int × Tab)) = .error i := h
      split at h
      · cases h
      · cases h
        exact Nat.le_refl _
/-! ### the law's hand of digits: a list of three ints -/
def Hand (H : Hp) (a : Addr) (n : Nat) : Prop := ∃ g s c : Int, IL H a [g, s, c] ∧ 0 ≤ g ∧ 0 ≤ s ∧ s < 2147483647 ∧ 0 ≤ c ∧ c ≤ (n : Int)
theorem Hand.mono {H : Hp} {a : Addr} {m n : Nat} (h : Hand H a m) (hn : m ≤ n) : Hand H a n := by
  obtain ⟨g, s, c, h, a1, a2, a3, a4, a5⟩ := h
  exact ⟨g, s, c, h, a1, a2, a3, a4, by omega⟩
theorem Hand.at {H H' : Hp} {a : Addr} {n : Nat} (h : Hand H a n) (e : ∀ o, H a = some o → H' a = some o) : Hand H' a n := by
  obtain ⟨g, s, c, h, r⟩ := h
  exact ⟨g, s, c, e _ h, r⟩
theorem Hand.kp0 {H H' : Hp} {a : Addr} {n : Nat} (h : Hand H a n) (k : Kp [] H H') : Hand H' a n := h.at fun _ e => k.at0 e
theorem Hand.md {H H' : Hp} {a p : Addr} {n : Nat} (h : Hand H a n) (m : Md p H H') (ne : a ≠ p) : Hand H' a n := h.at fun _ e => (m a ne).trans e
theorem Hand.ne {H : Hp} {a p : Addr} {n : Nat} (h : Hand H a n) (z : H p = none) : a ≠ p := by
  obtain ⟨g, s, c, h, r⟩ := h
  exact ne_of_none h z
theorem Hand.tup {K : PySem.W.Frag} {H H' : Hp} {a p : Addr} {n : Nat} {xs : List V} (h : Hand H a n) (k : Kp [a] H H') (t : SqT K H p xs) : SqT K H' p xs := by
  obtain ⟨g, s, c, h, r⟩ := h
  exact k.tup1 h t
def sp_l_take (K : PySem.W.Frag) : Sp := fun vs H Q _ => ∃ (a : Addr) (n : Nat) (m : Int), vs = [.ref a, .int m] ∧ Hand H a n ∧ n ≤ 2 ^ 48 ∧ 1 ≤ m ∧ m < 2 ^ 62 ∧
  ∀ d H', Kp [a] H H' → Hand H' a (n + 1) → 0 ≤ d → d < m → Q (.int d) H'
theorem log_ok {j : Int} (h : 1 ≤ j) (h2 : j < 2 ^ 62) : CDivW 0 j :=
  wide_div (i := 0) (b := 62) (by omega) (by omega) (by decide) (by decide)
theorem ok__law_take {f : Addr} {fd : FuncData} {k : Nat} (F : Fun K "_law_take" "_law_take" s__law_take f fd) :
    FnG P w K mg base CX0 (k + 1) f fd ["_law_hand_here", "_law_many"] (sp_l_take K) := by
  refine ok0 F sc__law_take (fun vs H Q E h => ?_) (fun cdv A outer s H vs Q E gd hr h => ?_)
  · obtain ⟨a, n, m, rfl, _⟩ := h
    rfl
  · obtain ⟨a, n, m, rfl, ⟨g, s, c, h0, hg, hs, hs2, hc, hc2⟩, hn, hm, hm2, q⟩ := h
    refine ⟨_, (pss_cons (ps_if (pt_cmpR op_gt (pe_ix (ix_lvK (K := K) rfl) (pv 0) pe_int (fun _ _ => rfl)) pe_int (nomark _))
      (pss_cons (ps_set (i := 2) sc__law_take.nd rfl (.inl rfl) (pe_op op_mod (pe_ix (ix_lvK (K := K) rfl) (pv 0) pe_int (fun _ _ => rfl)) (pv 1)))
      (pss_cons (ps_asg (pe_op op_fdivW (pe_ix (ix_lvK (K := K) rfl) (pv 0) pe_int (fun _ _ => rfl)) (pv 1)) (pg_sub (pv 0) pe_int set_li))
      (pss_one (ps_ret (pv 2)))))
      pss_nil)
      (pss_cons (ps_asg (pe_op op_add (pe_ix (ix_lvK (K := K) rfl) (pv 0) pe_int (fun _ _ => rfl)) pe_int) (pg_sub (pv 0) pe_int set_li))
      (pss_cons (ps_set (i := 3) sc__law_take.nd rfl (.inl rfl) (pe_ix (ix_lvK (K := K) rfl) (pe_li (pa_cons pe_int (pa_cons pe_int (pa_cons pe_int (pa_cons pe_int (pa_cons pe_int pa_nil)))))) (pe_op op_mod (pe_ix (ix_lvK (K := K) rfl) (pv 0) pe_int (fun _ _ => rfl)) pe_int) (fun _ _ => rfl)))
      (pss_cons (ps_set (i := 4) sc__law_take.nd rfl (.inl rfl) (pe_op op_mod (pe_op op_pow (pe_op op_add (pe_ix (ix_lvK (K := K) rfl) (pv 0) pe_int (fun _ _ => rfl)) (pe_op op_mul pe_int (pe_ix (ix_lvK (K := K) rfl) (pv 0) pe_int (fun _ _ => rfl)))) pe_int) (pv 3)))
      (pss_one (ps_ret (pe_op op_mod (pe_op op_fdivW (pe_op op_mod (pe_op op_mul (pv 4) (pe_op op_add (pe_op op_mod (pv 4) pe_int) (pe_ix (ix_lvK (K := K) rfl) (pv 0) pe_int (fun _ _ => rfl)))) (pv 3)) pe_int) (pv 1)))))))), ?_⟩
    have g0 : ∀ x y z : Int, Get [x, y, z] 0 x := fun _ _ _ => ⟨by decide, rfl⟩
    have g1 : ∀ x y z : Int, Get [x, y, z] 1 y := fun _ _ _ => ⟨by decide, rfl⟩
    have g2 : ∀ x y z : Int, Get [x, y, z] 2 z := fun _ _ _ => ⟨by decide, rfl⟩
    refine ⟨_, rfl, a, _, _, _, rfl, rfl, sqL h0, g0 g s c, _, _, rfl, rfl, _, rfl, ite2 (fun e => ?_) (fun e => ?_)⟩
    · have e' : 0 < g := of_decide_eq_true e
      have hm0 : 0 < m := by omega
      refine ⟨_, rfl, a, _, _, _, rfl, rfl, sqL h0, g0 g s c, _, rfl, _, _, rfl, rfl, hm0, ?_⟩
      refine ⟨_, rfl, a, _, _, _, rfl, rfl, sqL h0, g0 g s c, _, rfl, _, _, rfl, rfl, log_ok hm hm2, ?_⟩
      refine ⟨_, rfl, a, [g, s, c], _, _, rfl, rfl, rfl, h0, (show (0 : Int) ≤ 0 ∧ (0 : Int) < 3 by decide), fun H1 m1 h1 => ?_⟩
      refine ⟨_, rfl, q (g % m) H1 m1.kp ⟨g / m, s, c, h1, Int.ediv_nonneg hg (by omega), hs, hs2, hc, by omega⟩ (Int.emod_nonneg _ (by omega)) (Int.emod_lt_of_pos _ (by omega))⟩
    · refine ⟨_, rfl, a, _, _, _, rfl, rfl, sqL h0, g2 g s c, _, _, rfl, rfl, ?_⟩
      refine ⟨_, rfl, a, [g, s, c], _, _, rfl, rfl, rfl, h0, (show (0 : Int) ≤ 2 ∧ (2 : Int) < 3 by decide), fun H1 m1 h1 => ?_⟩
      have h1 : IL H1 a [g, s, c + 1] := h1
      refine ⟨[_, _, _, _, _], rfl, by decide, fun p H2 np k2 h2 => ?_⟩
      have h1 : IL H2 a [g, s, c + 1] := k2.at0 h1
      refine ⟨_, rfl, a, _, _, _, rfl, rfl, sqL h1, g2 _ _ _, _, _, rfl, rfl, by show (0 : Int) < 5; decide, ?_⟩
      obtain ⟨pr, gp, hp, hp2⟩ : ∃ pr, Get [2147483647, 2147483629, 2147483587, 2147483579, 2147483563] ((c + 1) % 5) pr ∧ 0 < pr ∧ pr ≤ 2147483647 := by
        have : (c + 1) % 5 = 0 ∨ (c + 1) % 5 = 1 ∨ (c + 1) % 5 = 2 ∨ (c + 1) % 5 = 3 ∨ (c + 1) % 5 = 4 := by omega
        rcases this with z | z | z | z | z <;> rw [z] <;> exact ⟨_, ⟨by decide, rfl⟩, by decide, by decide⟩
      refine ⟨p, _, _, pr, rfl, rfl, sqL h2, gp, ?_⟩
      refine ⟨_, rfl, a, _, _, _, rfl, rfl, sqL h1, g1 _ _ _, _, rfl, a, _, _, _, rfl, rfl, sqL h1, g2 _ _ _, _, _, rfl, rfl, .inl ⟨by decide, by decide⟩, _, _, rfl, rfl, _, _, rfl, rfl, ⟨by decide, by decide, ?_⟩, _, rfl, _, _, rfl, rfl, hp, ?_⟩
      · show (s + 7919 * (c + 1)).natAbs < 2 ^ 64
        omega
      generalize hdr : (s + 7919 * (c + 1)) ^ (3 : Int).toNat % pr = dr
      have hd : 0 ≤ dr ∧ dr < pr := by
        subst hdr
        exact ⟨Int.emod_nonneg _ (by omega), Int.emod_lt_of_pos _ hp⟩
      have hm0 : 0 < m := by omega
      refine ⟨_, rfl, _, rfl, _, _, rfl, rfl, by show (0 : Int) < 1009; decide, _, rfl, a, _, _, _, rfl, rfl, sqL h1, g2 _ _ _, _, _, rfl, rfl, _, _, rfl, rfl, .inl ⟨by omega, by omega⟩, _, rfl, _, _, rfl, rfl, hp, _, _, rfl, rfl, log_ok (j := 11) (by decide) (by decide), _, rfl, _, _, rfl, rfl, hm0, ?_⟩
      exact q _ H2 (m1.kp.trans k2.wide) ⟨g, s, c + 1, h1, hg, hs, hs2, by omega, by omega⟩ (Int.emod_nonneg _ (by omega)) (Int.emod_lt_of_pos _ (by omega))
/-- what changes at an own object alone has changed nothing that stood before -/
theorem Kp.own {H H1 H2 : Hp} {a : Addr} (k : Kp [] H H1) (z : H a = none) (k2 : Kp [a] H1 H2) : Kp [] H H2 :=
  fun b o _ e => k2.at1 (ne_of_none e z) (k.at0 e)
/-! ### a choice out of a list or a tuple -/
abbrev Cal (P : Program) (w : World) (K : PySem.W.Frag) (mg : Str → Option Value) (base : Heap) (k : Nat) (x : Str) (n : Nat) (sp : PySem.W.Frag → Sp) : Prop :=
  Cl P w K mg base CX0 k x n (sp K)
def Seq (K : PySem.W.Frag) (H : Hp) (p : Addr) (xs : List V) : Prop := SqL K H p xs ∨ SqT K H p xs
theorem Kp.sq {K : PySem.W.Frag} {H H' : Hp} {a p : Addr} {n : Nat} {xs : List V} (k : Kp [a] H H') (hd : Hand H a n) (ne : p ≠ a) (h : Seq K H p xs) : Seq K H' p xs := by
  rcases h with h | h
  · exact .inl (k.lst1 ne h)
  · exact .inr (hd.tup k h)
def sp_l_of (K : PySem.W.Frag) : Sp := fun vs H Q _ => ∃ (a p : Addr) (n : Nat) (xs : List V), vs = [.ref a, .ref p] ∧ Hand H a n ∧ n ≤ 2 ^ 48 ∧ p ≠ a ∧ Seq K H p xs ∧ 0 < xs.length ∧ xs.length ≤ 1000 ∧
  ∀ v H', Kp [a] H H' → Hand H' a (n + 1) → v ∈ xs → Q v H'
theorem ok__law_of {f : Addr} {fd : FuncData} {k : Nat} (F : Fun K "_law_of" "_law_of" s__law_of f fd) (m_len : mg "len" = none) (C_l_take : Cal P w K mg base 1 "_law_take" 2 sp_l_take) :
    FnG P w K mg base CX0 (k + 2) f fd ["_law_hand_here", "_law_some"] (sp_l_of K) := by
  refine ok0 F sc__law_of (fun vs H Q E h => ?_) (fun cdv A outer s H vs Q E gd hr h => ?_)
  · obtain ⟨a, p, n, xs, rfl, _⟩ := h
    rfl
  · obtain ⟨a, p, n, xs, rfl, hd, hn, ne, hq, h0, h1, q⟩ := h
    have hr1 := hr.mono (show 1 ≤ k + 1 by omega)
    refine ⟨_, (pss_one (ps_ret (pe_ix ix_seq (pv 1) (pe_cl C_l_take (hr.mono (by omega)) gd pass0 (by rfl) (pa_cons (pv 0) (pa_cons (pe_callB (call_len_seqK (K := K) rfl) (by rfl) m_len (by decide +kernel) (pa_cons (pv 1) pa_nil)) pa_nil))) (fun _ _ => rfl)))), ?_⟩
    refine ⟨_, rfl, _, rfl, _, rfl, _, _, rfl, hq, a, n, _, rfl, hd, hn, by omega, by omega, fun d H1 k1 hd1 d0 d1 => ?_⟩
    have hq1 := k1.sq hd ne hq
    have e : ((d.toNat : Nat) : Int) = d := by omega
    have hg : xs[d.toNat]? = some (xs[d.toNat]'(by omega)) := List.getElem?_eq_getElem _
    have ha := atI_nat hg
    rw [e] at ha
    have hm := List.getElem_mem (l := xs) (n := d.toNat) (by omega)
    rcases hq1 with hq1 | hq1
    · exact .inl ⟨p, xs, d, _, rfl, rfl, hq1, ha, q _ H1 k1 hd1 hm⟩
    · exact .inr (.inl ⟨p, xs, d, _, rfl, rfl, hq1, ha, q _ H1 k1 hd1 hm⟩)
/-! ### a hand made of a cell of the script -/
def sp_l_hand (K : PySem.W.Frag) : Sp := fun vs H Q _ => ∃ (a : Addr) (ns : List Int) (k : Int), vs = [.ref a, .int k] ∧ SqL K H a (ns.map V.int) ∧ 0 ≤ k ∧ k ≤ 1000 ∧
  ∀ p H', H p = none → Kp [] H H' → Hand H' p 0 → Q (.ref p) H'
theorem big_pos : (0 : Int) < 10 ^ 60 * 10 ^ 60 * 10 ^ 60 := by decide +kernel
theorem big_lt : (10 : Int) ^ 60 * 10 ^ 60 * 10 ^ 60 < 2 ^ 700 := by decide +kernel
theorem ok__law_hand {f : Addr} {fd : FuncData} {k : Nat} (F : Fun K "_law_hand" "_law_hand" s__law_hand f fd) (m_len : mg "len" = none) (m_abs : mg "abs" = none) (m_int : mg "int" = none) :
    FnG P w K mg base CX0 (k + 1) f fd ["_law_script", "_law_k"] (sp_l_hand K) := by
  refine ok0 F sc__law_hand (fun vs H Q E h => ?_) (fun cdv A outer s H vs Q E gd hr h => ?_)
  · obtain ⟨a, ns, k, rfl, _⟩ := h
    rfl
  · obtain ⟨a, ns, k, rfl, hq, h0, h1, q⟩ := h
    refine ⟨_, (pss_cons (ps_set (i := 2) sc__law_hand.nd rfl (.inl rfl) (pe_ifI (pt_cmpR op_lt (pv 1) (pe_callB (call_len_seqK (K := K) rfl) (by rfl) m_len (by decide +kernel) (pa_cons (pv 0) pa_nil)) (nomark _)) (pe_ix (ix_liK (K := K) rfl) (pv 0) (pv 1) (fun _ _ => rfl)) pe_int))
      (pss_cons (ps_set (i := 3) sc__law_hand.nd rfl (.inl rfl) (pe_op op_mulW (pe_op op_mod (pe_callB call_abs (by rfl) m_abs (by decide +kernel) (pa_cons (pv 2) pa_nil)) (pe_op op_mulW (pe_op op_mulW (pe_op op_pow pe_int pe_int) (pe_op op_pow pe_int pe_int)) (pe_op op_pow pe_int pe_int))) (pe_callTy call_int1 (by rfl) m_int (by decide +kernel) (pa_cons (pe_cmpR op_ge (pe_callB call_abs (by rfl) m_abs (by decide +kernel) (pa_cons (pv 2) pa_nil)) (pe_op op_pow pe_int pe_int) (nomark _)) pa_nil))))
      (pss_one (ps_ret (pe_li (pa_cons (pv 3) (pa_cons (pe_op op_mod (pe_op op_mul (pe_op op_add (pe_op op_add (pe_op op_mod (pv 2) pe_int) (pe_op op_mul pe_int (pv 1))) pe_int) pe_int) pe_int) (pa_cons pe_int pa_nil)))))))), ?_⟩
    refine ⟨fun _ => True, ⟨_, rfl, _, rfl, a, _, rfl, .inl hq, _, _, rfl, rfl, _, rfl, ite2 (fun e => ?_) (fun e => ?_)⟩, fun cell _ => ?_⟩
    · have e' := of_decide_eq_true e
      rw [List.length_map] at e'
      exact ⟨_, rfl, _, rfl, a, ns, _, rfl, rfl, hq, ⟨h0, e'⟩, _, rfl, rfl, trivial⟩
    · exact ⟨_, rfl, rfl, trivial⟩
    have hB : (0 : Int) < 10 ^ (60 : Int).toNat * 10 ^ (60 : Int).toNat * 10 ^ (60 : Int).toNat := big_pos
    have hB2 : (10 : Int) ^ (60 : Int).toNat * 10 ^ (60 : Int).toNat * 10 ^ (60 : Int).toNat < 2 ^ 700 := big_lt
    have p10 : CPow 10 60 := ⟨by decide, by decide, by decide⟩
    have p18 : CPow 10 18 := ⟨by decide, by decide, by decide⟩
    have w1 : CMulW ((10 : Int) ^ (60 : Int).toNat) ((10 : Int) ^ (60 : Int).toNat) := by unfold CMulW; decide +kernel
    have w2 : CMulW ((10 : Int) ^ (60 : Int).toNat * (10 : Int) ^ (60 : Int).toNat) ((10 : Int) ^ (60 : Int).toNat) := by unfold CMulW; decide +kernel
    refine ⟨_, rfl, _, rfl, _, _, rfl, rfl, p10, _, _, rfl, rfl, p10, _, _, rfl, rfl, w1, _, _, rfl, rfl, p10, _, _, rfl, rfl, w2, _, _, rfl, rfl, hB, ?_⟩
    have hm := Int.emod_nonneg (if cell < 0 then -cell else cell) (Int.ne_of_gt hB)
    have hm2 := Int.emod_lt_of_pos (if cell < 0 then -cell else cell) hB
    refine ⟨_, rfl, _, rfl, _, _, rfl, rfl, p18, _, _, rfl, rfl, .inr ⟨_, rfl, _, _, rfl, rfl, wide_mul (a := 700) (b := 2) ?_ ?_ (by decide) (by decide) (by decide), ?_⟩⟩
    · have h3 := Int.lt_trans hm2 hB2
      have h2 : ((2 ^ 700 : Nat) : Int) = 2 ^ 700 := by decide +kernel
      omega
    · have z : ∀ b : Bool, (if b = true then (1 : Int) else 0).natAbs < 2 ^ 2 := by
        intro b
        cases b <;> decide
      exact z _
    have hk : ∀ b : Bool, 0 ≤ (if b = true then (1 : Int) else 0) := by
      intro b
      cases b <;> decide
    refine ⟨_, rfl, _, rfl, _, _, rfl, rfl, by show (0 : Int) < 2147483629; decide, _, rfl, _, _, rfl, rfl, .inl ⟨by decide, by decide⟩, _, _, rfl, rfl, _, _, rfl, rfl, _, _, rfl, rfl, .inr ⟨by decide, by decide⟩, _, _, rfl, rfl, by show (0 : Int) < 2147483647; decide, ?_⟩
    refine ⟨[_, _, _], rfl, (by decide : 3 ≤ sizeLine), fun p H1 np k1 h1 => ?_⟩
    exact q p H1 np k1 ⟨_, _, _, h1, Int.mul_nonneg hm (hk _), Int.emod_nonneg _ (by decide), Int.emod_lt_of_pos _ (by decide), by decide, by decide⟩
theorem Hand.kt {T : List (Addr × Str)} {H H' : Hp} {a : Addr} {n : Nat} (h : Hand H a n) (k : Kt T H H') : Hand H' a n := by
  obtain ⟨x, y, z, e, r⟩ := h
  exact ⟨x, y, z, k.atL e, r⟩
theorem Kt.hand {T : List (Addr × Str)} {H H1 H2 : Hp} {a : Addr} {n : Nat} (k : Kt T H H1) (z : Nt H a) (h : Hand H1 a n) (m : Kp [a] H1 H2) : Kt T H H2 := by
  obtain ⟨x, y, c, e, r⟩ := h
  exact k.own z e m
/-- the heap goes on, but for the list at a -/
structure Ka (T : List (Addr × Str)) (a : Addr) (H H' : Hp) : Prop where
  f : ∀ H0, Kt T H0 H → Nt H0 a → Kt T H0 H'
  l : ∀ p xs, p ≠ a → H p = some (.lst xs) → H' p = some (.lst xs)
  t : Tabs T H → Tabs T H'
theorem Ka.of {T : List (Addr × Str)} {a : Addr} {H H1 : Hp} (k : Kt T H H1) : Ka T a H H1 := ⟨fun _ k0 _ => k0.trans k, fun _ _ _ e => k.atL e, k.tab⟩
theorem Ka.kt {T : List (Addr × Str)} {a : Addr} {H H1 H2 : Hp} (x : Ka T a H H1) (k : Kt T H1 H2) : Ka T a H H2 := ⟨fun _ k0 z => (x.f _ k0 z).trans k, fun p xs n e => k.atL (x.l p xs n e), fun h => k.tab (x.t h)⟩
theorem Ka.kp {T : List (Addr × Str)} {a : Addr} {H H1 H2 : Hp} (x : Ka T a H H1) (k : Kp [] H1 H2) : Ka T a H H2 := x.kt k.kt
theorem Ka.hand {T : List (Addr × Str)} {a : Addr} {H H1 H2 : Hp} {n : Nat} (x : Ka T a H H1) (h : Hand H1 a n) (m : Kp [a] H1 H2) : Ka T a H H2 := by
  obtain ⟨c1, c2, c3, e, r⟩ := id h
  have e : H1 a = some (.lst _) := e
  have np : ∀ q o, H1 q = some o → (∀ ys, o ≠ .lst ys) → q ≠ a := fun q o e1 n w => by
    rw [w, e] at e1
    cases e1
    exact n _ rfl
  refine ⟨fun _ k0 z => (x.f _ k0 z).hand z h m, fun p xs ne e1 => m.at1 ne (x.l p xs ne e1), fun hT r hr => ?_⟩
  obtain ⟨ps, h1, h3, h4⟩ := x.t hT r hr
  refine ⟨ps, m.at1 (np _ _ h1 fun ys w => nomatch w) h1, h3, fun pos cv hc => ?_⟩
  obtain ⟨c, e1, e2⟩ := h4 pos cv hc
  refine ⟨c, e1, m.at1 (np _ _ e2 fun ys w => ?_) e2⟩
  unfold LamX.CodeO at w
  cases w
/-! ### k61, objects of any kind -/
open TL
/-- a value that is no text, and that stays -/
def NotS (K : PySem.W.Frag) (a : Addr) (H : Hp) (v : V) : Prop := v = .non ∨ (∃ b, v = .bl b) ∨ (∃ i, v = .int i) ∨ (∃ p xs, v = .ref p ∧ SqT K H p xs) ∨ (∃ p xs, v = .ref p ∧ p ≠ a ∧ H p = some (.lst xs)) ∨ (∃ p kvs, v = .ref p ∧ p ≠ a ∧ H p = some (.dK kvs)) ∨ (∃ p kvs, v = .ref p ∧ p ≠ a ∧ H p = some (.dT kvs))
theorem NotS.hand {K : PySem.W.Frag} {a : Addr} {n : Nat} {H H' : Hp} {v : V} (h : NotS K a H v) (hd : Hand H a n) (k : Kp [a] H H') : NotS K a H' v := by
  rcases h with h | h | h | ⟨p, xs, e, h⟩ | ⟨p, xs, e, ne, h⟩ | ⟨p, xs, e, ne, h⟩ | ⟨p, xs, e, ne, h⟩
  · exact .inl h
  · exact .inr (.inl h)
  · exact .inr (.inr (.inl h))
  · exact .inr (.inr (.inr (.inl ⟨p, xs, e, hd.tup k h⟩)))
  · exact .inr (.inr (.inr (.inr (.inl ⟨p, xs, e, ne, k.at1 ne h⟩))))
  · exact .inr (.inr (.inr (.inr (.inr (.inl ⟨p, xs, e, ne, k.at1 ne h⟩)))))
  · exact .inr (.inr (.inr (.inr (.inr (.inr ⟨p, xs, e, ne, k.at1 ne h⟩)))))
theorem NotS.kp {K : PySem.W.Frag} {a : Addr} {H H' : Hp} {v : V} (h : NotS K a H v) (k : Kp [] H H') : NotS K a H' v := by
  rcases h with h | h | h | ⟨p, xs, e, h⟩ | ⟨p, xs, e, ne, h⟩ | ⟨p, xs, e, ne, h⟩ | ⟨p, xs, e, ne, h⟩
  · exact .inl h
  · exact .inr (.inl h)
  · exact .inr (.inr (.inl h))
  · exact .inr (.inr (.inr (.inl ⟨p, xs, e, k.tup0 h⟩)))
  · exact .inr (.inr (.inr (.inr (.inl ⟨p, xs, e, ne, k.at0 h⟩))))
  · exact .inr (.inr (.inr (.inr (.inr (.inl ⟨p, xs, e, ne, k.at0 h⟩)))))
  · exact .inr (.inr (.inr (.inr (.inr (.inr ⟨p, xs, e, ne, k.at0 h⟩)))))
theorem NotS.kt {K : PySem.W.Frag} {T : List (Addr × Str)} {a : Addr} {H H' : Hp} {v : V} (h : NotS K a H v) (k : Kt T H H') : NotS K a H' v := by
  rcases h with h | h | h | ⟨p, xs, e, h⟩ | ⟨p, xs, e, ne, h⟩ | ⟨p, xs, e, ne, h⟩ | ⟨p, xs, e, ne, h⟩
  · exact .inl h
  · exact .inr (.inl h)
  · exact .inr (.inr (.inl h))
  · exact .inr (.inr (.inr (.inl ⟨p, xs, e, k.tup0 h⟩)))
  · exact .inr (.inr (.inr (.inr (.inl ⟨p, xs, e, ne, k.atL h⟩))))
  · exact .inr (.inr (.inr (.inr (.inr (.inl ⟨p, xs, e, ne, k.atD h⟩)))))
  · exact .inr (.inr (.inr (.inr (.inr (.inr ⟨p, xs, e, ne, k.ext _ _ h fun _ w => nomatch w⟩)))))
theorem NotS.or {K : PySem.W.Frag} {a : Addr} {H : Hp} {v : V} (h : NotS K a H v) : StrOr K H v none := by
  rcases h with rfl | ⟨b, rfl⟩ | ⟨i, rfl⟩ | ⟨p, xs, rfl, h⟩ | ⟨p, xs, rfl, _, h⟩ | ⟨p, xs, rfl, _, h⟩ | ⟨p, xs, rfl, _, h⟩
  · exact ⟨"NoneType", .base .non, by decide +kernel⟩
  · exact ⟨"bool", .base (.bl b), by decide +kernel⟩
  · exact ⟨"int", .base (.int i), by decide +kernel⟩
  · exact ⟨"tuple", ty_tup h, by decide +kernel⟩
  · exact ⟨"list", ty_lst (sqL h), by decide +kernel⟩
  · exact ⟨"dict", .base (.dK h), by decide +kernel⟩
  · exact ⟨"dict", .base (.dT h), by decide +kernel⟩
def sp_l_nested (K : PySem.W.Frag) : Sp := fun vs H Q _ => ∃ (a : Addr) (n : Nat), vs = [.ref a] ∧ Hand H a n ∧ n ≤ 2 ^ 46 ∧ ∀ v H', Kp [a] H H' → Hand H' a (n + 30) → NotS K a H' v → Q v H'
theorem ok__law_nested {f : Addr} {fd : FuncData} {k : Nat} (F : Fun K "_law_nested" "_law_nested" s__law_nested f fd) (m_range : mg "range" = none) (C_l_take : Cl P w K mg base CX0 1 "_law_take" 2 (sp_l_take K)) (C_l_of : Cl P w K mg base CX0 2 "_law_of" 2 (sp_l_of K)) :
    FnG P w K mg base CX0 (k + 3) f fd ["_law_hand_here"] (sp_l_nested K) := by
  refine ok0 F sc__law_nested (fun vs H Q E h => ?_) (fun cdv A outer s H vs Q E gd hr h => ?_)
  · obtain ⟨a, n, rfl, _⟩ := h
    rfl
  · obtain ⟨a, n, rfl, hd, hn, q⟩ := h
    refine ⟨_, (pss_cons (ps_set (i := 1) sc__law_nested.nd rfl (.inl rfl) (pe_la (pa_cons pe_non (pa_cons pe_bl (pa_cons pe_bl (pa_cons pe_int (pa_cons pe_int (pa_cons (pe_un un_neg pe_int) (pa_cons (pe_op op_pow pe_int pe_int) (pa_cons (pe_ti pa_nil) (pa_cons (pe_li pa_nil) (pa_cons pe_dnewT (pa_cons (pe_ta (pa_cons pe_str pa_nil)) (pa_cons (pe_la (pa_cons pe_str pa_nil)) (pa_cons (pe_ta (pa_cons pe_str (pa_cons pe_str pa_nil))) pa_nil)))))))))))))))
      (pss_cons (ps_set (i := 2) sc__law_nested.nd rfl (.inl rfl) (pe_cl C_l_of (hr.mono (by omega)) gd pass0 (by rfl) (pa_cons (pv 0) (pa_cons (pv 1) pa_nil))))
      (pss_cons (ps_forW PassesOwn.never rfl (pi_range1 (by rfl) m_range (pa_cons (pe_cl C_l_take (hr.mono (by omega)) gd pass0 (by rfl) (pa_cons (pv 0) (pa_cons pe_int pa_nil))) pa_nil)) (pg_name (i := 3) sc__law_nested.nd rfl (.inl rfl))
      (pss_one (ps_set (i := 2) sc__law_nested.nd rfl (.inl rfl) (pe_cl C_l_of (hr.mono (by omega)) gd pass0 (by rfl) (pa_cons (pv 0) (pa_cons (pe_la (pa_cons (pe_ta (pa_cons (pv 2) pa_nil)) (pa_cons (pe_la (pa_cons (pv 2) pa_nil)) (pa_cons (pe_disp (pps_cons pe_str (pv 2) pps_nil) rfl rfl (fun z => nomatch z) (by decide)) (pa_cons (pe_ta (pa_cons pe_str (pa_cons (pv 2) pa_nil))) pa_nil))))) pa_nil))))))
      (pss_one (ps_ret (pv 2)))))), ?_⟩
    refine ⟨_, rfl, _, _, rfl, rfl, ⟨by decide, by decide⟩, [], rfl, Nat.zero_le _, fun t1 H1 n1 k1 h1 => ⟨[], rfl, Nat.zero_le _, fun l1 H2 n2 k2 h2 => ?_⟩⟩
    intro d1 nd
    have k3 : Kp [] H2 (upd H2 d1 (.dT [])) := Kp.new nd
    have h3 : (upd H2 d1 (.dT [])) d1 = some (.dT []) := upd_same
    generalize upd H2 d1 (.dT []) = H3 at k3 h3
    refine ⟨Nat.le_of_ble_eq_true rfl, fun t2 H4 n4 k4 h4 => ⟨Nat.le_of_ble_eq_true rfl, fun l2 H5 n5 k5 h5 => ⟨Nat.le_of_ble_eq_true rfl, fun t3 H6 n6 k6 h6 => ⟨Nat.le_of_ble_eq_true rfl, fun S H7 n7 k7 h7 => ?_⟩⟩⟩⟩
    have k02 := k1.trans k2
    have k04 := k02.trans (k3.trans k4)
    have k06 := k04.trans (k5.trans k6)
    have k07 := k06.trans k7
    have hd7 := hd.kp0 k07
    have nSa : S ≠ a := fun z => (hd.kp0 k06).ne n7 z.symm
    have all7 : ∀ v ∈ [V.non, .bl true, .bl false, .int 0, .int 5, .int (-1), .int (10 ^ (30 : Int).toNat), .ref t1, .ref l1, .ref d1, .ref t2, .ref l2, .ref t3], NotS K a H7 v := by
      have e1 := (k2.trans (k3.trans (k4.trans (k5.trans (k6.trans k7))))).at0 h1
      have e2 := (k3.trans (k4.trans (k5.trans (k6.trans k7)))).at0 h2
      have e3 := (k4.trans (k5.trans (k6.trans k7))).at0 h3
      have e4 := (k5.trans (k6.trans k7)).at0 h4
      have e5 := (k6.trans k7).at0 h5
      have e6 := k7.at0 h6
      have nl1 : l1 ≠ a := fun z => (hd.kp0 k1).ne n2 z.symm
      have nd1 : d1 ≠ a := fun z => (hd.kp0 k02).ne nd z.symm
      have nl2 : l2 ≠ a := fun z => (hd.kp0 k04).ne n5 z.symm
      intro v hv
      simp only [List.mem_cons, List.not_mem_nil, or_false] at hv
      rcases hv with rfl | rfl | rfl | rfl | rfl | rfl | rfl | rfl | rfl | rfl | rfl | rfl | rfl
      · exact .inl rfl
      · exact .inr (.inl ⟨_, rfl⟩)
      · exact .inr (.inl ⟨_, rfl⟩)
      · exact .inr (.inr (.inl ⟨_, rfl⟩))
      · exact .inr (.inr (.inl ⟨_, rfl⟩))
      · exact .inr (.inr (.inl ⟨_, rfl⟩))
      · exact .inr (.inr (.inl ⟨_, rfl⟩))
      · exact .inr (.inr (.inr (.inl ⟨_, _, rfl, sqT e1⟩)))
      · exact .inr (.inr (.inr (.inr (.inl ⟨_, _, rfl, nl1, e2⟩))))
      · exact .inr (.inr (.inr (.inr (.inr (.inr ⟨_, _, rfl, nd1, e3⟩)))))
      · exact .inr (.inr (.inr (.inl ⟨_, _, rfl, sqT e4⟩)))
      · exact .inr (.inr (.inr (.inr (.inl ⟨_, _, rfl, nl2, e5⟩))))
      · exact .inr (.inr (.inr (.inl ⟨_, _, rfl, sqT e6⟩)))
    refine ⟨_, rfl, _, rfl, a, S, n, _, rfl, hd7, by omega, nSa, .inl (sqL h7), Nat.le_of_ble_eq_true rfl, Nat.le_of_ble_eq_true rfl, fun v H8 k8 hd8 hv => ?_⟩
    have v8 := (all7 v hv).hand hd7 k8
    refine ⟨_, rfl, a, _, 25, rfl, hd8, by omega, by decide, by decide, fun d H9 k9 hd9 d0 dm => ?_⟩
    refine ⟨d, rfl, by omega, by omega, _, _, _, walk_rg, ?_⟩
    refine ⟨fun i σ H' => ∃ (y3 : Option V) (u : V), σ = [some (.ref a), some (.ref S), some u, y3] ∧ Kp [a] H H' ∧ Hand H' a (n + 2 + i) ∧ NotS K a H' u, ⟨_, _, rfl, k07.wide.trans (k8.trans k9), hd9, v8.hand hd8 k9⟩, fun _ _ _ _ _ => trivial, ?_, ?_⟩
    · rintro i x σ _ Ha hi ⟨y3, u, rfl, ka, hda, ua⟩ ⟨rfl, rfl⟩
      have hi : i < 25 := by omega
      refine ⟨_, rfl, _, rfl, Nat.le_of_ble_eq_true rfl, fun q1 Hb nb kb hb => ?_⟩
      refine ⟨_, rfl, Nat.le_of_ble_eq_true rfl, fun q2 Hc nc kc hc => ?_⟩
      intro q3 nq3
      refine ⟨_, rfl, upd_same, [(Sum.inr "a", u)], rfl, Nat.le_of_ble_eq_true rfl, ?_⟩
      have kd : Kp [] Hc (upd (upd Hc q3 (.dK [])) q3 (.dK (mergeK [] [(Sum.inr "a", u)]))) := fun b o _ e => by
        have nb := ne_of_none e nq3
        rw [upd_ne nb, upd_ne nb]
        exact e
      have hq3 : (upd (upd Hc q3 (.dK [])) q3 (.dK (mergeK [] [(Sum.inr "a", u)]))) q3 = some (.dK (mergeK [] [(Sum.inr "a", u)])) := upd_same
      generalize upd (upd Hc q3 (.dK [])) q3 (.dK (mergeK [] [(Sum.inr "a", u)])) = Hd at kd hq3
      refine ⟨_, rfl, Nat.le_of_ble_eq_true rfl, fun q4 He ne ke he => ?_⟩
      refine ⟨Nat.le_of_ble_eq_true rfl, fun LS Hf nf kf hf => ?_⟩
      have kbd := kb.trans (kc.trans kd)
      have kbf := kbd.trans (ke.trans kf)
      have hdf := hda.kp0 kbf
      have nLS : LS ≠ a := fun z => (hda.kp0 (kbd.trans ke)).ne nf z.symm
      have n2 : q2 ≠ a := fun z => (hda.kp0 kb).ne nc z.symm
      have n3 : q3 ≠ a := fun z => (hda.kp0 (kb.trans kc)).ne nq3 z.symm
      have e1 := (kc.trans (kd.trans (ke.trans kf))).at0 hb
      have e2 := (kd.trans (ke.trans kf)).at0 hc
      have e3 := (ke.trans kf).at0 hq3
      have e4 := kf.at0 he
      refine ⟨a, LS, _, _, rfl, hdf, by omega, nLS, .inl (sqL hf), Nat.le_of_ble_eq_true rfl, Nat.le_of_ble_eq_true rfl, fun v Hg kg hdg hv => ?_⟩
      have vf : NotS K a Hf v := by
        simp only [List.mem_cons, List.not_mem_nil, or_false] at hv
        rcases hv with rfl | rfl | rfl | rfl
        · exact .inr (.inr (.inr (.inl ⟨_, _, rfl, sqT e1⟩)))
        · exact .inr (.inr (.inr (.inr (.inl ⟨_, _, rfl, n2, e2⟩))))
        · exact .inr (.inr (.inr (.inr (.inr (.inl ⟨_, _, rfl, n3, e3⟩)))))
        · exact .inr (.inr (.inr (.inl ⟨_, _, rfl, sqT e4⟩)))
      exact ⟨_, v, rfl, ka.trans (kbf.wide.trans kg), hdg.mono (by omega), vf.hand hdf kg⟩
    · rintro σ Ha ⟨y3, u, rfl, ka, hda, ua⟩
      exact ⟨_, rfl, q u Ha ka (hda.mono (by omega)) ua⟩
/-! ### k61, short texts -/
def signsS : List Str := ["0", "1", "2", "9", " ", "a", "b", "\n", "-", ".", "budget ", "budget 1", "\na 5", "budget 2\na 9\nb 9"]
def plainC (c : Nat) : Bool := decide (c = 32 ∨ (48 ≤ c ∧ c ≤ 57))
/-- a short text: at most five signs, or one of them is neither a digit nor a blank -/
def ShortS (x : Str) : Prop := x.length ≤ 120 ∧ (x.length ≤ 5 ∨ x.cps.toList.all plainC = false)
theorem empty_len : ("" : Str).length = 0 := by decide +kernel
theorem signs_ok : ∀ y ∈ signsS, y.length ≤ 19 ∧ (y.length ≤ 1 ∨ y.cps.toList.all plainC = false) := by decide +kernel
theorem join_nil (ps : List Str) : (Txt.join "" ps).cps.toList = (ps.map fun p => p.cps.toList).flatten := by
  have e0 : TL.tl ("" : Str) = [] := by decide +kernel
  have key : ∀ l : List (List Nat), TL.joinL [] l = l.flatten := fun l => by
    induction l with
    | nil => rfl
    | cons p r ih =>
      cases r with
      | nil => show p = p ++ []; rw [List.append_nil]
      | cons q t =>
        show p ++ ([] ++ TL.joinL [] (q :: t)) = p ++ (q :: t).flatten
        rw [ih]
        rfl
  have h : TL.tl (Txt.join "" ps) = TL.joinL (TL.tl ("" : Str)) (ps.map TL.tl) := by rw [TL.join_eq, TL.tl_join]
  rw [e0, key] at h
  exact h
theorem short_of {ps : List Str} (hl : ps.length ≤ 5) (hp : ∀ y ∈ ps, y ∈ signsS) : (ps.map fun x => x.length).sum ≤ 120 ∧ ShortS (Txt.join "" ps) := by
  have hs : (ps.map fun x => x.length).sum ≤ ps.length * 19 := sum_len fun y hy => (signs_ok y (hp y hy)).1
  have le : (Txt.join "" ps).length = (ps.map fun x => x.length).sum := by
    show (Txt.join "" ps).cps.toList.length = _
    rw [join_nil, List.length_flatten, List.map_map]
    rfl
  refine ⟨by omega, by omega, ?_⟩
  by_cases h : ∀ y ∈ ps, y.length ≤ 1
  · left
    have := sum_len h
    omega
  · right
    obtain ⟨y, hy, h1⟩ : ∃ y ∈ ps, ¬ y.length ≤ 1 := by
      refine Classical.byContradiction fun z => h fun y hy => Classical.byContradiction fun w => z ⟨y, hy, w⟩
    have := (signs_ok y (hp y hy)).2.resolve_left h1
    rw [List.all_eq_false] at this ⊢
    obtain ⟨c, hc, e⟩ := this
    refine ⟨c, ?_, e⟩
    rw [join_nil]
    exact List.mem_flatten.mpr ⟨y.cps.toList, List.mem_map.mpr ⟨y, hy, rfl⟩, hc⟩
def sp_l_short (K : PySem.W.Frag) : Sp := fun vs H Q _ => ∃ (a : Addr) (n : Nat), vs = [.ref a] ∧ Hand H a n ∧ n ≤ 2 ^ 46 ∧ ∀ x H', Kp [a] H H' → Hand H' a (n + 10) → ShortS x → Q (.str x) H'
theorem ok__law_short {f : Addr} {fd : FuncData} {k : Nat} (F : Fun K "_law_short" "_law_short" s__law_short f fd) (m_range : mg "range" = none) (C_l_take : Cl P w K mg base CX0 1 "_law_take" 2 (sp_l_take K)) (C_l_of : Cl P w K mg base CX0 2 "_law_of" 2 (sp_l_of K)) :
    FnG P w K mg base CX0 (k + 3) f fd ["_law_hand_here"] (sp_l_short K) := by
  refine ok0 F sc__law_short (fun vs H Q E h => ?_) (fun cdv A outer s H vs Q E gd hr h => ?_)
  · obtain ⟨a, n, rfl, _⟩ := h
    rfl
  · obtain ⟨a, n, rfl, hd, hn, q⟩ := h
    refine ⟨_, (pss_cons (ps_set (i := 1) sc__law_short.nd rfl (.inr rfl) (pe_la (pa_cons pe_str (pa_cons pe_str (pa_cons pe_str (pa_cons pe_str (pa_cons pe_str (pa_cons pe_str (pa_cons pe_str (pa_cons pe_str (pa_cons pe_str (pa_cons pe_str (pa_cons pe_str (pa_cons pe_str (pa_cons pe_str (pa_cons pe_str pa_nil))))))))))))))))
      (pss_one (ps_ret (pe_join pe_str (pe_lcW (own := [("_law_turn", 2)]) (g := (gName 2)) rfl sc__law_short.nd (pi_range1 (by rfl) m_range (pa_cons (pe_cl C_l_take (hr.mono (by omega)) gd pass0 (by rfl) (pa_cons (pv 0) (pa_cons pe_int pa_nil))) pa_nil)) (blkOk_by (own := [("_law_turn", 2)]) (N := ["_law_hand_here", "_law_signs", "_law_turn"]) (sc := defScope s__law_short) (by decide +kernel)) (fun _ _ _ _ _ => (pg_name (i := 2) sc__law_short.nd rfl (.inl rfl))) (fun _ _ _ _ _ => pts_nil) (fun _ _ _ _ _ => (pe_cl C_l_of (hr.mono (by omega)) gd pass0 (by rfl) (pa_cons (pv 0) (pa_cons (pv 1) pa_nil))))))))), ?_⟩
    refine ⟨Nat.le_of_ble_eq_true rfl, fun S H1 nS k1 hS => ?_⟩
    have hS : H1 S = some (.lst (signsS.map V.str)) := hS
    have hd1 := hd.kp0 k1
    have nSa : S ≠ a := fun z => hd.ne nS z.symm
    refine ⟨(⟨_, rfl⟩ : ∃ b, V.str "" = V.str b), ?_⟩
    refine ⟨_, rfl, a, n, 6, rfl, hd1, by omega, by decide, by decide, fun d H2 k2 hd2 d0 d1 => ?_⟩
    have hS2 := k2.at1 nSa hS
    refine ⟨d, rfl, by omega, by omega, _, _, _, walk_rg, small1000 (by omega), fun D H3 nD k3 hD => ?_⟩
    have nDa : D ≠ a := fun z => hd2.ne nD z.symm
    refine ⟨fun i acc H' => ∃ ps : List Str, acc = ps.map V.str ∧ ps.length = i ∧ (∀ y ∈ ps, y ∈ signsS) ∧ Kp [a] H2 H' ∧ Hand H' a (n + 1 + i), ⟨[], rfl, rfl, (fun _ z => nomatch z), k3.wide, hd2.kp0 k3⟩, fun _ _ _ _ _ => trivial, ?_, ?_⟩
    · rintro i acc x H4 _ hi ⟨ps, ea, el, ep, k4, hd4⟩ hD4 ⟨rfl, rfl⟩
      refine ⟨rfl, yesT ?_⟩
      have nDS : D ≠ S := fun z => by rw [z, hS2] at nD; cases nD
      refine ⟨_, rfl, _, rfl, a, S, _, signsS.map V.str, rfl, hd4, by omega, nSa, .inl (sqL (k4.at1 nSa hS2)), Nat.le_of_ble_eq_true rfl, Nat.le_of_ble_eq_true rfl, fun v H5 k5 hd5 hv => ?_⟩
      obtain ⟨y, hy, rfl⟩ := List.mem_map.mp hv
      refine ⟨k5.at1 nDa hD4, fun H6 m6 h6 => ?_⟩
      refine ⟨ps ++ [y], by rw [List.map_append, ea]; rfl, by rw [List.length_append, el]; rfl, fun z hz => ?_, (k4.trans k5).md (.inl nD) m6, (hd5.md m6 nDa.symm).mono (by omega)⟩
      rcases List.mem_append.mp hz with w | w
      · exact ep z w
      · rw [List.mem_singleton.mp w]
        exact hy
    rintro acc H4 _ hD4 ⟨ps, ea, el, ep, k4, hd4⟩
    subst ea
    obtain ⟨sh1, sh2⟩ := short_of (ps := ps) (by omega) ep
    refine ⟨_, D, ps, rfl, rfl, .inl (sqL hD4), ?_, ?_⟩
    · rw [empty_len, Nat.mul_zero, Nat.add_zero]
      omega
    · exact q _ H4 (k1.wide.trans (k2.trans k4)) (hd4.mono (by omega)) sh2
/-! ### k61, numbers -/
def sp_l_are_numbers (K : PySem.W.Frag) : Sp := fun vs H Q _ => ∃ (x : Str), vs = [.str x] ∧ x.length ≤ 500 ∧ ∀ H', Kp [] H H' → Q (.bl (areN x)) H'
theorem ok__law_are_numbers {f : Addr} {fd : FuncData} {k : Nat} (F : Fun K "_law_are_numbers" "_law_are_numbers" s__law_are_numbers f fd) (m_all : mg "all" = none) (m_str : mg "str" = none) (m_int : mg "int" = none) :
    FnG P w K mg base CX0 (k + 1) f fd ["_law_text"] (sp_l_are_numbers K) := by
  refine ok0 F sc__law_are_numbers (fun vs H Q E h => ?_) (fun cdv A outer s H vs Q E gd hr h => ?_)
  · obtain ⟨x, rfl, _⟩ := h
    rfl
  · obtain ⟨x, rfl, hz, q⟩ := h
    refine ⟨_, (pss_cons (ps_forW PassesOwn.never rfl (pi_list (pe_split (pv 0) pe_str)) (pg_name (i := 1) sc__law_are_numbers.nd rfl (.inl rfl))
      (pss_one (ps_if (PW.pt (pw_or (pt_cmpR op_eq (pv 1) pe_str (nomark _)) (pw_or (pt_not (pt_val (pe_callB (cr_allK (K := K) rfl rfl) (by rfl) m_all (by decide +kernel) (pa_cons (pe_lcW (own := [("_law_sign", 2)]) (g := (gName 2)) rfl sc__law_are_numbers.nd (pi_str (pv 1)) (blkOk_by (own := [("_law_sign", 2)]) (N := ["_law_text", "_law_word", "_law_sign"]) (sc := defScope s__law_are_numbers) (by decide +kernel)) (fun _ _ _ _ _ => (pg_name (i := 2) sc__law_are_numbers.nd rfl (.inl rfl))) (fun _ _ _ _ _ => pts_nil) (fun _ _ _ _ _ => (pe_cmpR op_in_sign (pv 2) pe_str rfl))) pa_nil)))) (pw_or1 (pt_cmpR op_ne (pe_callTy call_str_int (by rfl) m_str (by decide +kernel) (pa_cons (pe_callTy call_int_str (by rfl) m_int (by decide +kernel) (pa_cons (pv 1) pa_nil)) pa_nil)) (pv 1) (nomark _))))))
      (pss_one (ps_ret pe_bl))
      pss_nil)))
      (pss_one (ps_ret pe_bl))), ?_⟩
    obtain ⟨b1, b2⟩ := blank_len x
    refine ⟨_, rfl, ⟨_, rfl⟩, x, " ", rfl, rfl, by decide +kernel, by rw [sizeLine_eq]; omega, fun l nl => ?_⟩
    have k1 : Kp [] H (upd H l (.lst ((Txt.split x " ").map V.str))) := Kp.new nl
    generalize hH1 : upd H l (.lst ((Txt.split x " ").map V.str)) = H1 at k1
    have hl : H1 l = some (.lst ((Txt.split x " ").map V.str)) := by rw [← hH1, upd_same]
    unfold areN at q
    generalize Txt.split x " " = ws at hl b1 b2 q
    refine ⟨l, rfl, ⟨_, sqL hl⟩, _, _, _, walk_list (xs := ws.map V.str), ?_⟩
    refine ⟨fun i σ H' => ∃ (y1 y2 : Option V), σ = [some (.str x), y1, y2] ∧ Kp [] H H' ∧ H' l = some (.lst (ws.map V.str)) ∧ (ws.take i).all numW = true, ⟨_, _, rfl, k1, hl, rfl⟩, fun _ _ _ _ ⟨_, _, _, _, z, _⟩ => sqL z, ?_, ?_⟩
    · rintro i y σ _ H2 hi ⟨y1, y2, rfl, k2, hl2, al⟩ ⟨rfl, hx⟩
      obtain ⟨hi2, rfl⟩ := strs_get hx
      have em : ws.getD i default ∈ ws := by
        rw [List.getD_eq_getElem?_getD, List.getElem?_eq_getElem hi2]
        exact List.getElem_mem hi2
      have tk : ws.take (i + 1) = ws.take i ++ [ws.getD i default] := by
        rw [List.take_add_one, List.getElem?_eq_getElem hi2, List.getD_eq_getElem?_getD, List.getElem?_eq_getElem hi2]
        rfl
      generalize ws.getD i default = u at em tk
      have lu := b2 u em
      have bad : numW u = false → ∀ H', Kp [] H H' → Q (.bl false) H' := fun e H' k' => by
        have : ws.all numW = false := List.all_eq_false.mpr ⟨u, em, by rw [e]; exact Bool.false_ne_true⟩
        rw [this] at q
        exact q H' k'
      have nu : numW u = (decide (u ≠ "") && (isDig u && decide (tnum (NumText.digitsVal u.cps.toList : Int) = u))) := rfl
      refine ⟨_, rfl, rfl, _, rfl, ?_⟩
      by_cases e1 : u = ""
      · refine ifYes (show V.str u = V.str "" by rw [e1]) (iteT ?_)
        exact bad (by rw [nu, decide_eq_false fun z => z e1]; rfl) H2 k2
      refine ifNo (show ¬ V.str u = V.str "" from fun z => e1 (V.str.inj z)) ?_
      rw [decide_eq_true e1, Bool.true_and] at nu
      have us : u.cps.size = u.length := rfl
      refine ⟨_, rfl, u, rfl, _, _, _, walk_str (z := u), by rw [sizeLine_eq]; omega, fun D H3 nD k3 hD => ?_⟩
      refine ⟨fun i acc H4 => acc = ((u.cps.toList.take i).map fun c => decide (c ∈ digitsS.cps.toList)).map V.bl ∧ Kp [] H2 H4, ⟨rfl, k3⟩, fun _ _ _ _ _ => trivial, ?_, ?_⟩
      · rintro i acc y _ H4 hi ⟨ea, k4⟩ hD4 ⟨rfl, c, hc, rfl⟩
        refine ⟨rfl, yesT ?_⟩
        refine ⟨_, rfl, c, digitsS, rfl, rfl, hD4, fun H5 m5 h5 => ?_⟩
        refine ⟨?_, k4.md (.inl nD) m5⟩
        have hc' : u.cps.toList[i]? = some c := by rw [Array.getElem?_toList]; exact hc
        rw [List.take_add_one, hc', ea]
        simp
      rintro acc H4 _ hD4 ⟨ea, k4⟩
      rw [List.take_of_length_le (by simp)] at ea
      subst ea
      refine ⟨D, _, rfl, sqL hD4, _, rfl, ?_⟩
      have e2 : ((u.cps.toList.map fun c => decide (c ∈ digitsS.cps.toList)).all id) = isDig u := by rw [List.all_map]; rfl
      rw [e2]
      cases ed : isDig u with
      | false =>
        rw [ed] at nu
        exact (show if (!false) = true then _ else _ from iteT (iteT (bad nu H4 (k2.trans k4))))
      | true =>
        rw [ed, Bool.true_and] at nu
        refine (show if (!true) = true then _ else _ from iteF ?_)
        have ne0 : u.cps.toList ≠ [] := fun z => e1 (ext_tl (by show u.cps.toList = _; rw [z]; rfl))
        have lt := val_lt _ _ rfl (isDig_all ed)
        refine ⟨_, rfl, u, _, rfl, intText_digits (isDig_all ed) ne0 (by omega), by omega, _, rfl, ?_, _, rfl, rfl, _, rfl, ?_⟩
        · refine log_small (by decide) (Nat.lt_of_lt_of_le lt (Nat.le_trans (Nat.pow_le_pow_right (by decide) (show u.cps.toList.length ≤ 500 from Nat.le_trans lu hz)) ?_))
          exact Nat.le_of_ble_eq_true (by decide +kernel)
        · by_cases e3 : tnum (NumText.digitsVal u.cps.toList : Int) = u
          · refine ifNe (show V.str (Str.ofString (toString (NumText.digitsVal u.cps.toList : Int))) = V.str u from congrArg V.str e3) ?_
            refine ⟨_, _, rfl, k2.trans k4, k4.at0 hl2, ?_⟩
            rw [tk, List.all_append, al, List.all_cons, nu, decide_eq_true e3]
            rfl
          · refine ifNeY (show ¬ V.str (Str.ofString (toString (NumText.digitsVal u.cps.toList : Int))) = V.str u from fun z => e3 (V.str.inj z)) ?_
            exact bad (by rw [nu, decide_eq_false e3]) H4 (k2.trans k4)
    · rintro σ H2 ⟨y1, y2, rfl, k2, hl2, al⟩
      rw [List.length_map, List.take_of_length_le (Nat.le_refl _)] at al
      rw [al] at q
      exact q H2 k2
/-! ### k61, what is read -/
structure OneT (K : PySem.W.Frag) (BT CE CR CN CB CM : Addr) : Prop where
  e : ExcC K BT
  te : PySem.W.exmOne K (.ref BT) (.ref CE) = some true
  no : PySem.W.findIn K (.ref BT) "value" = some none
  k0 : PySem.W.kitOne K (.ref BT) (.ref BT) = some true
  ka : PySem.W.kitAny K (.ref BT) [.ref CR, .ref CN, .ref CB, .ref CM] = some false
structure AllT (K : PySem.W.Frag) (mg : Str → Option Value) (BT CE CR CN CB CM : Addr) : Prop where
  gE : mg "CreditError" = some (.ref CE)
  gT : mg "BadText" = some (.ref BT)
  gR : mg "Refused" = some (.ref CR)
  gN : mg "NotSafe" = some (.ref CN)
  gB : mg "BadName" = some (.ref CB)
  gM : mg "BadCommand" = some (.ref CM)
  one : OneT K BT CE CR CN CB CM
def CauT (BT : Addr) (Q : VK) : XK := fun cls d H' => ∃ (v : V) (dd : Addr), cls = .ref BT ∧ d = some dd ∧ H' dd = some (.xd [("value", v)]) ∧ ∀ H3, Kp [] H' H3 → Q v H3
def TTread (BT : Addr) : (XK → Hp → VK → Prop) → Hp → VK → Prop := fun tl H Q => tl (CauT BT Q) H (fun v H1 => ∀ L H2, Kp [] H1 H2 → H1 L = none → H2 L = some (.lst [v]) → Q (.ref L) H2)
theorem hands__law_read {k : Nat} {BT CE CR CN CB CM : Addr} (U : AllT K mg BT CE CR CN CB CM) (m_isinstance : mg "isinstance" = none) :
    Hands P w K mg base k "_law_read" "_law_call" ["_law_call", "_law_caught", "error"] s__law_read (TTread BT) := by
  intro g cdg A outer s H Q f c' q tl hgd room act hc h
  refine ⟨_, pss_cons (ps_set (i := 1) sc__law_read.nd rfl (.inl rfl) pe_non) (pss_cons (ps_try_keep (i := 2) rfl rfl rfl sc__law_read.nd rfl rfl (by rfl) U.gE (by decide)
      (fun W pn xe tk _ => pss_one (ps_ret (pe_la (pa_cons (act W pn xe _ _ tk) pa_nil))))
      (fun a oe cls d pn hz hf => pss_one (ps_set (i := 1) sc__law_read.nd rfl (.inl rfl) (pv 2))))
    (pss_cons (ps_if (PW.pt (pw_or (pt_not (pt_val (pe_callB (call_isK (K := K) rfl) (by rfl) m_isinstance (by decide +kernel) (pa_cons (pv 1) (pa_cons (pe_glob (v := .ref BT) (by rfl) U.gT rfl) pa_nil)))))
        (pw_or1 (pt_val (pe_callB (call_isKT (K := K) rfl) (by rfl) m_isinstance (by decide +kernel) (pa_cons (pv 1) (pa_cons (pe_ta (pa_cons (pe_glob (v := .ref CR) (by rfl) U.gR rfl) (pa_cons (pe_glob (v := .ref CN) (by rfl) U.gN rfl) (pa_cons (pe_glob (v := .ref CB) (by rfl) U.gB rfl) (pa_cons (pe_glob (v := .ref CM) (by rfl) U.gM rfl) pa_nil))))) pa_nil)))))))
        (pss_one (ps_ret pe_str)) pss_nil)
    (pss_one (ps_ret (pe_kf (K := K) rfl (pv 1)))))), ?_⟩
  refine ⟨rfl, hc, CauT BT Q, (fun v H1 => ∀ L H2, Kp [] H1 H2 → H1 L = none → H2 L = some (.lst [v]) → Q (.ref L) H2), ?_, fun v H1 qq => ⟨Nat.le_of_ble_eq_true rfl, fun L H2 n k h2 => qq L H2 k n h2⟩, h⟩
  rintro cls d H' ⟨v, dd, rfl, rfl, hd, wv⟩
  have O := U.one
  refine ⟨O.te, fun a ha => ?_⟩
  refine ⟨_, rfl, fun ha2 => ?_⟩
  have nda : dd ≠ a := ne_of_none hd ha2
  have k2 : Kp [] H' (upd H' a (ExK (.ref BT) (some dd) a)) := Kp.new ha2
  have hk : Kept (upd H' a (ExK (.ref BT) (some dd) a)) a BT dd [("value", v)] := ⟨upd_same, (upd_ne nda).trans hd⟩
  generalize upd H' a (ExK (.ref BT) (some dd) a) = H2 at k2 hk
  refine ⟨_, rfl, a, BT, dd, _, .ref BT, .ref BT, _, O.e, hk, rfl, (fun _ r => r), O.k0, _, rfl, ?_⟩
  refine (show if (!true) = true then _ else _ from iteF ?_)
  refine ⟨_, rfl, Nat.le_of_ble_eq_true rfl, fun tp H4 ntp k4 h4 => ?_⟩
  have hk4 := Kept.mk (k4.at0 hk.ob) (k4.at0 hk.di)
  have four : ∀ {A B C D : Addr}, ∀ us, Vals [V.ref A, V.ref B, V.ref C, V.ref D] us → us = [Value.ref A, Value.ref B, Value.ref C, Value.ref D] := fun us r => by
    cases r with
    | cons r1 r =>
      cases r with
      | cons r2 r =>
        cases r with
        | cons r3 r =>
          cases r with
          | cons r4 r =>
            cases r
            cases (show _ = Value.ref _ from r1)
            cases (show _ = Value.ref _ from r2)
            cases (show _ = Value.ref _ from r3)
            cases (show _ = Value.ref _ from r4)
            rfl
  refine ⟨a, BT, dd, tp, _, [.ref CR, .ref CN, .ref CB, .ref CM], [.ref CR, .ref CN, .ref CB, .ref CM], false, O.e, hk4, rfl, h4, four, O.ka, _, rfl, ?_⟩
  refine (show if false = true then _ else _ from iteF ?_)
  exact ⟨_, rfl, a, BT, dd, _, v, rfl, ⟨O.e.hg, O.e.hk, O.e.hs, O.e.hd⟩, O.no, hk4, rfl, wv H4 (k2.trans k4)⟩
/-! ### k61, one text -/
theorem joinL_mem {s : Nat} : ∀ {ps : List (List Nat)} {c : Nat}, c ∈ TL.joinL [s] ps → c = s ∨ ∃ p ∈ ps, c ∈ p
  | [], _, h => nomatch h
  | [p], _, h => .inr ⟨p, List.mem_cons_self, h⟩
  | p :: q :: r, c, h => by
    have h : c ∈ p ++ ([s] ++ TL.joinL [s] (q :: r)) := h
    rcases List.mem_append.mp h with h | h
    · exact .inr ⟨p, List.mem_cons_self, h⟩
    · rcases List.mem_append.mp h with h | h
      · exact .inl (List.mem_singleton.mp h)
      · rcases joinL_mem h with e | ⟨z, hz, e⟩
        · exact .inl e
        · exact .inr ⟨z, List.mem_cons_of_mem _ hz, e⟩
theorem areN_plain {x : Str} (h : areN x = true) : x.cps.toList.all plainC = true := by
  have back := blank_back x
  unfold areN at h
  generalize Txt.split x " " = ws at *
  rw [← back]
  refine List.all_eq_true.mpr fun c hc => decide_eq_true ?_
  have hc : c ∈ TL.tl (Txt.join blankS ws) := hc
  rw [TL.join_eq, TL.tl_join, show TL.tl blankS = [32] from blank_tl] at hc
  rcases joinL_mem hc with e | ⟨p, hp, hcp⟩
  · exact .inl e
  · obtain ⟨w, hw, rfl⟩ := List.mem_map.mp hp
    have := List.all_eq_true.mp h w hw
    unfold numW at this
    rw [Bool.and_eq_true, Bool.and_eq_true] at this
    exact .inr (isDig_all this.2.1 c hcp)
theorem tget_in {t : Tab} {n : Str} {v : Int} (h : tget t n = some v) : ∃ p ∈ t, p.2 = v := by
  unfold tget at h
  cases e : t.find? (fun p => decide (p.1 = n)) with
  | none => rw [e] at h; cases h
  | some p =>
    rw [e] at h
    exact ⟨p, List.mem_of_find?_eq_some e, Option.some.inj h⟩
theorem readRows_val {rows : List Str} {b : Int} {t : Tab} (h : readRows rows = .ok (b, t)) (n : Str) : 0 ≤ tval t n ∧ tval t n ≤ 1000000000000 := by
  have key : ∀ p ∈ t, 0 ≤ p.2 ∧ p.2 ≤ 1000000000000 := by
    cases eb : budRow (rows.headD "") with
    | none => rw [readRows_no eb] at h; cases h
    | some c =>
      cases es : sndsF 1 "" (rows.drop 1) with
      | error i => rw [readRows_bad eb es] at h; cases h
      | ok l =>
        rw [readRows_ok eb es] at h
        split at h
        · cases h
          exact fun p hp => ((sndsF_ok es).all p hp).2
        · cases h
  unfold tval
  cases e : tget t n with
  | none => exact ⟨Int.le_refl _, by decide⟩
  | some v =>
    obtain ⟨p, hp, rfl⟩ := tget_in e
    exact key p hp
/-! ### k61, one text, the def -/
structure PkgT (P : Program) (w : World) (K : PySem.W.Frag) (mg : Str → Option Value) (base : Heap) (C : Addr) (T : List (Addr × Str)) (BT : Addr) : Prop where
  rb : Cl P w K mg base (L2.CX P w) 4 "read_balances" 1 (sp_read_balances K BT)
  rl : Cl P w K mg base (L2.CX P w) 9 "read_link" 1 (sp_read_link K C T BT)
theorem show0 : Shows (.int 0) := (Sm.int (by decide)).shows
theorem shown0 : (PyData.int 0).shown = "0" := by decide +kernel
def sp_l_text_right (T : List (Addr × Str)) : Sp := fun vs H Q _ => ∃ (x : Str), vs = [.str x] ∧ ShortS x ∧ Tabs T H ∧ ∀ H', Kt T H H' → Q (.bl true) H'
theorem ok__law_text_right {f c pt C : Addr} {fd : FuncData} {k : Nat} {T : List (Addr × Str)} (F : Fun K "_law_text_right" "_law_text_right" s__law_text_right f fd) (LC : LinkC K C) (hcd : fd.code = .ref c) (TB : TabB base mg c pt) (hmT : (pt, qLam "_law_text_right") ∈ T) (huT : ∀ r ∈ T, r.1 = pt → r.2 = qLam "_law_text_right")
    (m_repr : mg "repr" = none) (m_len : mg "len" = none) (m_isinstance : mg "isinstance" = none) (m_int : mg "int" = none) (m_list : mg "list" = none)
    (X_l_all : ∃ BT CE CR CN CB CM : Addr, AllT K mg BT CE CR CN CB CM ∧ ClH P w K mg base 12 "_law_read" (TTread BT) ∧ PkgT P w K mg base C T BT)
    (C_l_are_numbers : Cl P w K mg base CX0 1 "_law_are_numbers" 1 (sp_l_are_numbers K)) (C_show_balances : Cl P w K mg base CX0 1 "show_balances" 1 (sp_show_balances K)) (C_show_link : Cl P w K mg base CX0 5 "show_link" 1 (sp_show_link K C)) (M_changes : ClM P w K mg base CX0 1 C "changes" (sp_Link_changes C)) :
    FnG P w K mg base CX0 (k + 14) f fd ["_law_text"] (sp_l_text_right T) := by
  obtain ⟨BT, CE, CR, CN, CB, CM, U, X_l_read, PX⟩ := X_l_all
  obtain ⟨X_read_balances, X_read_link⟩ := PX
  refine okC F hcd sc__law_text_right (fun vs H Q E h => ?_) (fun A outer s H vs Q E gd hr h => ?_)
  · obtain ⟨x, rfl, _⟩ := h
    rfl
  · obtain ⟨x, rfl, sh, hT, q⟩ := h
    refine ⟨_, (pss_cons (ps_set (i := 1) sc__law_text_right.nd rfl (.inl rfl) (pe_wk (pe_hand X_l_read (by rfl) TB rfl hmT huT (hr.mono (by omega)) gd (LamX.lamS_by (sc := defScope s__law_text_right) (by decide +kernel)) rfl (fun _ _ _ _ _ => rfl) (fun _ _ _ _ _ _ _ gd hr => (pe_clS X_read_balances (hr.mono (by omega)) gd (fun σ => passAt (takes_of rfl rfl rfl rfl) σ) (by rfl) (pa_cons (pv 0) pa_nil))))))
      (pss_cons (ps_set (i := 2) sc__law_text_right.nd rfl (.inl rfl) (pe_wk (pe_hand X_l_read (by rfl) TB rfl hmT huT (hr.mono (by omega)) gd (LamX.lamS_by (sc := defScope s__law_text_right) (by decide +kernel)) rfl (fun _ _ _ _ _ => rfl) (fun _ _ _ _ _ _ _ gd hr => (pe_clS X_read_link (hr.mono (by omega)) gd (fun σ => passAt (takes_of rfl rfl rfl rfl) σ) (by rfl) (pa_cons (pv 0) pa_nil))))))
      (pss_cons (ps_ifJ (pt_val (pe_cl C_l_are_numbers (hr.mono (by omega)) gd pass0 (by rfl) (pa_cons (pv 0) pa_nil)))
      (pss_one (ps_ifJ (PW.pt (pw_or (pt_not (pt_val (pe_callB (call_isiB (K := K) rfl) (by rfl) m_isinstance (by decide +kernel) (pa_cons (pv 1) (pa_cons (pe_bltn (v := .ty "list") (by rfl) m_list rfl rfl) pa_nil))))) (pw_or1 (pt_cmpR op_ne (pe_cl C_show_balances (hr.mono (by omega)) gd pass0 (by rfl) (pa_cons (pe_ix (ix_la (K := K) rfl) (pv 1) pe_int (fun _ _ => rfl)) pa_nil)) (pv 0) (nomark _)))))
      (pss_one (ps_ret pe_bl))
      pss_nil))
      (pss_one (ps_ifJ (pt_cmpR op_ne (pe_callB (call_reprX (K := K) rfl hr gd) (by rfl) m_repr (by decide +kernel) (pa_cons (pv 1) pa_nil)) pe_str (nomark _))
      (pss_one (ps_ret pe_bl))
      pss_nil)))
      (pss_cons (ps_ifJ (pt_val (pe_callB (call_isiB (K := K) rfl) (by rfl) m_isinstance (by decide +kernel) (pa_cons (pv 2) (pa_cons (pe_bltn (v := .ty "list") (by rfl) m_list rfl rfl) pa_nil))))
      (pss_one (ps_ret (pe_and (pe_cmpR op_eq (pe_cl C_show_link (hr.mono (by omega)) gd pass0 (by rfl) (pa_cons (pe_ix (ix_la (K := K) rfl) (pv 2) pe_int (fun _ _ => rfl)) pa_nil)) (pv 0) (nomark _)) (pe_one (pe_cmpR op_eq (pe_clM0 (E := fun _ _ _ _ => False) LC.cls M_changes (hr.mono (by omega)) gd passG (pe_ix (ix_la (K := K) rfl) (pv 2) pe_int (fun _ _ => rfl))) pe_int (nomark _))))))
      pss_nil)
      (pss_one (ps_ret (pe_and (pe_callB (call_isiB (K := K) rfl) (by rfl) m_isinstance (by decide +kernel) (pa_cons (pv 2) (pa_cons (pe_bltn (v := .ty "int") (by rfl) m_int rfl rfl) pa_nil))) (pe_one (pe_chain op_le op_le pe_int (pv 2) (pe_callB (call_len_seqK (K := K) rfl) (by rfl) m_len (by decide +kernel) (pa_cons (pe_split (pv 0) pe_str) pa_nil))))))))))), ?_⟩
    obtain ⟨l120, sh2⟩ := sh
    refine ⟨fun v1 H1 => Kt T H H1 ∧ ((∃ (ns : List Int) (L u : Addr), v1 = .ref L ∧ readB (some x) = some ns ∧ SqL K H1 L [.ref u] ∧ SqT K H1 u (ns.map V.int)) ∨ (v1 = .int 0 ∧ readB (some x) = none)), ⟨hT, fun H1 e1 hT1 => ?_⟩, ?_⟩
    · have x1 : Kt T H H1 := ⟨e1, fun _ => hT1⟩
      refine ⟨_, rfl, .str x, some x, rfl, ⟨rfl, by omega⟩, fun ns e u H2 k2 hu pl L H3 k3 nL hL => ?_, fun e ed H2 k2 ne => ⟨.int 0, ed, rfl, rfl, upd_same, fun H3 k3 => ⟨((x1.kp k2).kp (Kp.new ne)).kp k3, .inr ⟨rfl, e⟩⟩⟩⟩
      exact ⟨(x1.kp k2).kp k3, .inl ⟨ns, L, u, rfl, e, sqL hL, k3.tup0 hu⟩⟩
    rintro v1 H1 ⟨x1, w1⟩
    refine ⟨fun v2 H2 => Kt T H1 H2 ∧ ((∃ (L p q : Addr) (b : Int) (t : Tab), v2 = .ref L ∧ readL (some x) = .ok (b, t) ∧ SqL K H2 L [.ref p] ∧ LkAt C H2 p q ⟨b, t, []⟩ ∧ GoodT b t) ∨ (∃ i : Nat, v2 = .int (i : Int) ∧ readL (some x) = .error i)), ⟨x1.tab hT, fun H2 e2 hT2 => ?_⟩, ?_⟩
    · have x2 : Kt T H1 H2 := ⟨e2, fun _ => hT2⟩
      refine ⟨_, rfl, .str x, some x, rfl, ⟨rfl, by omega⟩, hT2, fun b t e p q H3 k3 np nq L3 g L H4 k4 nL hL => ?_, fun i e ed H3 k3 ne => ⟨.int (i : Int), ed, rfl, rfl, upd_same, fun H4 k4 => ⟨((x2.trans k3).kp (Kp.new ne)).kp k4, .inr ⟨i, rfl, e⟩⟩⟩⟩
      exact ⟨(x2.trans k3).kp k4, .inl ⟨L, p, q, b, t, rfl, e, sqL hL, L3.kp k4, g⟩⟩
    rintro v2 H2 ⟨x2, w2⟩
    -- the numbers
    refine ⟨fun σ H' => σ = [some (.str x), some v1, some v2] ∧ Kt T H2 H', ⟨_, rfl, x, rfl, by omega, fun H3 k3 => ⟨_, rfl, ?_⟩⟩, ?_⟩
    · have x3 : Kt T H1 H3 := x2.kp k3
      cases ea : areN x with
      | true =>
        refine (show if true = true then _ else _ from iteT ?_)
        have l5 : x.length ≤ 5 := sh2.resolve_right (by rw [areN_plain ea]; exact fun z => nomatch z)
        obtain ⟨ns, e1, e2, e3, e4⟩ := numsF_few ea (by omega)
        have eB : readB (some x) = some ns := e1
        rcases w1 with ⟨ns', L, u, rfl, e5, hL, hu⟩ | ⟨_, e5⟩
        · rw [eB] at e5
          cases e5
          have hL3 := x3.lst0 hL
          have hu3 := x3.tup0 hu
          refine ⟨fun σ H' => σ = [some (.str x), some (.ref L), some v2] ∧ Kt T H2 H', ⟨_, rfl, _, _, _, _, rfl, ty_lst hL3, (by decide +kernel : kitB "list" "list" = some true), _, rfl, ?_⟩, fun _ _ z => z⟩
          refine (show if (!true) = true then _ else _ from iteF ?_)
          refine ⟨_, rfl, L, _, 0, _, rfl, rfl, hL3, rfl, u, ns, rfl, hu3, by omega, e4, fun H4 k4 => ?_⟩
          rw [e2]
          refine ⟨_, rfl, rfl, _, rfl, ifNe rfl ?_⟩
          exact ⟨rfl, k3.kt.kp k4⟩
        · rw [eB] at e5
          cases e5
      | false =>
        refine (show if false = true then _ else _ from iteF ?_)
        have eB : readB (some x) = none := numsF_no ea
        rcases w1 with ⟨ns', L, u, rfl, e5, hL, hu⟩ | ⟨rfl, e5⟩
        · rw [eB] at e5
          cases e5
        · refine ⟨fun σ H' => σ = [some (.str x), some (.int 0), some v2] ∧ Kt T H2 H', ⟨_, rfl, _, _, (fun _ => False), rfl, .int 0, show0, ?_⟩, fun _ _ z => z⟩
          refine ⟨rfl, _, rfl, ifNe (by rw [shown0]) ?_⟩
          exact ⟨rfl, k3.kt⟩
    rintro σ H3 ⟨rfl, x3⟩
    -- the link
    rcases w2 with ⟨L, p, q0, b, t, rfl, er, hL, L2', g⟩ | ⟨i, rfl, er⟩
    · have hL3 := x3.lst0 hL
      have L3 := L2'.kt x3
      have hval := readRows_val er
      have es : linkS b t = x := by rw [readRows_show (line_ne x) er, line_back]
      refine ⟨fun _ _ => False, ⟨_, rfl, _, _, _, _, rfl, ty_lst hL3, (by decide +kernel : kitB "list" "list" = some true), _, rfl, ?_⟩, fun _ _ z => z.elim⟩
      refine (show if true = true then _ else _ from iteT ?_)
      refine ⟨_, rfl, L, _, 0, _, rfl, rfl, hL3, rfl, p, q0, _, rfl, L3, ⟨g, fun _ z => nomatch z⟩, fun n => ⟨(hval n).1, by have := (hval n).2; show tval t n < _; omega⟩, fun H4 k4 => ?_⟩
      refine ⟨_, rfl, rfl, _, rfl, ifYes (congrArg V.str es) ?_⟩
      refine ⟨_, rfl, L, _, 0, _, rfl, rfl, k4.lst0 hL3, rfl, at_z (L3.kp k4) z_changes ⟨p, q0, _, rfl, L3.kp k4, ?_⟩⟩
      exact ⟨rfl, q H4 (((x1.trans x2).trans x3).kp k4)⟩
    · have ri := readRows_at (line_ne x) er
      refine ⟨fun σ H' => σ = [some (.str x), some v1, some (.int (i : Int))] ∧ Kt T H2 H', ⟨_, rfl, _, _, _, _, rfl, .base (.int _), (by decide +kernel : kitB "int" "list" = some false), _, rfl, ?_⟩, ?_⟩
      · refine (show if false = true then _ else _ from iteF ?_)
        exact ⟨rfl, x3⟩
      rintro σ H4 ⟨rfl, x4⟩
      refine ⟨_, rfl, _, _, _, _, rfl, .base (.int _), (by decide +kernel : kitB "int" "int" = some true), _, rfl, ?_⟩
      refine (show if true = true then _ else _ from iteT ?_)
      refine ⟨_, rfl, _, _, rfl, rfl, _, rfl, ifYes (by omega) ?_⟩
      obtain ⟨b1, b2⟩ := line_len x
      refine ⟨_, rfl, ⟨_, rfl⟩, x, "\n", rfl, rfl, by decide +kernel, by rw [sizeLine_eq]; omega, fun l nl => ?_⟩
      refine ⟨l, _, rfl, .inl (sqL upd_same), _, _, rfl, rfl, ?_⟩
      show Q (.bl (decide ((i : Int) ≤ (((Txt.split x "\n").map V.str).length : Int)))) _
      rw [decide_eq_true (by rw [List.length_map]; omega)]
      exact q _ (((x1.trans x2).trans x4).kp (Kp.new nl))
def sp_law (K : PySem.W.Frag) (T : List (Addr × Str)) : Sp := fun vs H Q _ => ∃ (a : Addr) (ns : List Int), vs = [.ref a] ∧ SqL K H a (ns.map V.int) ∧ ns.length ≤ 63 ∧ Tabs T H ∧ ∀ H', Q (.bl true) H'
theorem few {n : Nat} (h : n ≤ 63) (m : Int) (hm : 1 ≤ m ∧ m ≤ 3) : 1 ≤ (if (if (n : Int) < m then (n : Int) else m) > 1 then (if (n : Int) < m then (n : Int) else m) else 1) ∧ (if (if (n : Int) < m then (n : Int) else m) > 1 then (if (n : Int) < m then (n : Int) else m) else 1) ≤ 3 := by
  split <;> split <;> omega
/-! ### the law k61 -/
theorem shown00 : (PyData.list [.int 0, .int 0]).shown = "[0, 0]" := by decide +kernel
theorem show00 : Shows (.list [.int 0, .int 0]) := (Sm.lst (n := 101) (e := 0) fun d hd => by
  simp only [List.mem_cons, List.not_mem_nil, or_false] at hd
  rcases hd with rfl | rfl <;> exact Sm.int (by decide)).shows
theorem ok_law {f c pt C : Addr} {fd : FuncData} {k : Nat} {T : List (Addr × Str)} (F : Fun K "law" "law" s_law f fd) (hcd : fd.code = .ref c) (TB : TabB base mg c pt) (hmT : (pt, qLam "law") ∈ T) (huT : ∀ r ∈ T, r.1 = pt → r.2 = qLam "law")
    (m_range : mg "range" = none) (m_max : mg "max" = none) (m_min : mg "min" = none) (m_len : mg "len" = none) (m_repr : mg "repr" = none)
    (X_l_all : ∃ BT CE CR CN CB CM : Addr, AllT K mg BT CE CR CN CB CM ∧ ClH P w K mg base 12 "_law_read" (TTread BT) ∧ PkgT P w K mg base C T BT)
    (C_l_hand : Cl P w K mg base CX0 1 "_law_hand" 2 (sp_l_hand K)) (C_l_nested : Cl P w K mg base CX0 3 "_law_nested" 1 (sp_l_nested K)) (C_l_short : Cl P w K mg base CX0 3 "_law_short" 1 (sp_l_short K)) (C_l_text_right : Cl P w K mg base CX0 14 "_law_text_right" 1 (sp_l_text_right T)) :
    FnG P w K mg base CX0 (k + 15) f fd ["_law_script"] (sp_law K T) := by
  obtain ⟨BT, CE, CR, CN, CB, CM, U, X_l_read, PX⟩ := X_l_all
  obtain ⟨X_read_balances, X_read_link⟩ := PX
  refine okC F hcd sc_law (fun vs H Q E h => ?_) (fun A outer s H vs Q E gd hr h => ?_)
  · obtain ⟨a, ns, rfl, _⟩ := h
    rfl
  · obtain ⟨S, ns, rfl, hS, hl, hT, q⟩ := h
    refine ⟨_, (pss_cons (ps_forW PassesOwn.never rfl (pi_range1 (by rfl) m_range (pa_cons (pe_callB (call_max2 rfl) (by rfl) m_max (by decide +kernel) (pa_cons pe_int (pa_cons (pe_callB (call_min2 rfl) (by rfl) m_min (by decide +kernel) (pa_cons pe_int (pa_cons (pe_callB (call_len_seqK (K := K) rfl) (by rfl) m_len (by decide +kernel) (pa_cons (pv 0) pa_nil)) pa_nil))) pa_nil))) pa_nil)) (pg_name (i := 1) sc_law.nd rfl (.inl rfl))
      (pss_cons (ps_set (i := 2) sc_law.nd rfl (.inl rfl) (pe_cl C_l_hand (hr.mono (by omega)) gd pass0 (by rfl) (pa_cons (pv 0) (pa_cons (pv 1) pa_nil))))
      (pss_one (ps_forW PassesOwn.never rfl (pi_range1 (by rfl) m_range (pa_cons pe_int pa_nil)) (pg_name (i := 3) sc_law.nd rfl (.inl rfl))
      (pss_cons (ps_set (i := 5) sc_law.nd rfl (.inr rfl) (pe_cl C_l_nested (hr.mono (by omega)) gd pass0 (by rfl) (pa_cons (pv 2) pa_nil)))
      (pss_cons (ps_set (i := 4) sc_law.nd rfl (.inl rfl) (pe_la (pa_cons (pe_hand X_l_read (by rfl) TB rfl hmT huT (hr.mono (by omega)) gd (LamX.lamS_by (sc := defScope s_law) (by decide +kernel)) rfl (fun _ _ _ _ _ => rfl) (fun _ _ _ _ _ _ _ gd hr => (pe_clS X_read_balances (hr.mono (by omega)) gd (fun σ => passAt (takes_of rfl rfl rfl rfl) σ) (by rfl) (pa_cons (pv 5) pa_nil)))) pa_nil)))
      (pss_cons (ps_expr (pe_bm PySem.F.plainAttrs_list PySem.F.slot_list_append PySem.F.type_list_append mt_app (pv 4) (pa_cons (pe_hand X_l_read (by rfl) TB rfl hmT huT (hr.mono (by omega)) gd (LamX.lamS_by (sc := defScope s_law) (by decide +kernel)) rfl (fun _ _ _ _ _ => rfl) (fun _ _ _ _ _ _ _ gd hr => (pe_clS X_read_link (hr.mono (by omega)) gd (fun σ => passAt (takes_of rfl rfl rfl rfl) σ) (by rfl) (pa_cons (pv 5) pa_nil)))) pa_nil)))
      (pss_cons (ps_if (pt_cmpR op_ne (pe_callB (call_reprX (K := K) rfl hr gd) (by rfl) m_repr (by decide +kernel) (pa_cons (pv 4) pa_nil)) pe_str (nomark _))
      (pss_one (ps_ret pe_bl))
      pss_nil)
      (pss_one (ps_if (pt_not (pt_val (pe_cl C_l_text_right (hr.mono (by omega)) gd pass0 (by rfl) (pa_cons (pe_cl C_l_short (hr.mono (by omega)) gd pass0 (by rfl) (pa_cons (pv 2) pa_nil)) pa_nil))))
      (pss_one (ps_ret pe_bl))
      pss_nil))))))))))
      (pss_one (ps_ret pe_bl))), ?_⟩
    have hf := few (n := (ns.map V.int).length) (by rw [List.length_map]; exact hl) 3 (by decide)
    refine ⟨_, rfl, S, _, rfl, .inl hS, _, _, rfl, _, _, rfl, _, rfl, by omega, by omega, _, _, _, walk_rg,
      fun i σ H1 => ∃ y1 y2 y3 y4 y5, σ = [some (.ref S), y1, y2, y3, y4, y5] ∧ Kt T H H1, ⟨_, _, _, _, _, rfl, Kt.refl⟩, fun _ _ _ _ _ => trivial, ?_, ?_⟩
    · rintro i x σ _ H1 hi ⟨y1, y2, y3, y4, y5, rfl, k1⟩ ⟨rfl, rfl⟩
      refine ⟨_, rfl, _, rfl, S, ns, _, rfl, k1.lst0 hS, by omega, by omega, fun h0 H2 n0 k2 hd2 => ?_⟩
      have z0 : Nt H h0 := k1.nt0 n0
      have k2 := k1.kp k2
      refine ⟨_, rfl, by decide, by decide, _, _, _, walk_rg, fun v σ H3 => ∃ y3 y4 y5, σ = [some (.ref S), some (.int (0 + (i : Int))), some (.ref h0), y3, y4, y5] ∧ Kt T H H3 ∧ Hand H3 h0 (v * 1000),
        ⟨_, _, _, rfl, k2, hd2.mono (by omega)⟩, fun _ _ _ _ _ => trivial, ?_, ?_⟩
      · rintro v x σ _ H3 hv ⟨y3, y4, y5, rfl, k3, hd3⟩ ⟨rfl, rfl⟩
        have hv : v < 10 := hv
        refine ⟨_, rfl, h0, _, rfl, hd3, by omega, fun u H4 k4 hd4 nu => ?_⟩
        have x4 : Kt T H H4 := k3.hand z0 hd3 k4
        refine ⟨x4.tab hT, fun H5 e5 hT5 => ?_⟩
        have x45 : Kt T H4 H5 := ⟨e5, fun _ => hT5⟩
        have x5 := x4.trans x45
        have nu5 := nu.kt x45
        have hd5 := hd4.kt x45
        refine ⟨_, rfl, u, none, rfl, nu5.or, (fun ns e => by cases e), fun _ ed H6 k6 ne => ⟨.int 0, ed, rfl, rfl, upd_same, fun H7 k7 => ?_⟩⟩
        have k57 := (k6.trans (Kp.new ne)).trans k7
        refine ⟨Nat.le_of_ble_eq_true rfl, fun L H8 n8 k8 h8 => ?_⟩
        have k58 := k57.trans k8
        have x8 := x5.kp k58
        have hd8 := hd5.kp0 k58
        have nu8 := nu5.kp k58
        have nLh : L ≠ h0 := fun z => (hd5.kp0 k57).ne n8 z.symm
        have nL0 : Nt H L := (x5.kp k57).nt0 n8
        refine ⟨_, rfl, .inl ⟨rfl, _, sqL h8⟩, x8.tab hT, fun H9 e9 hT9 => ?_⟩
        have x89 : Kt T H8 H9 := ⟨e9, fun _ => hT9⟩
        have x9 := x8.trans x89
        refine ⟨_, rfl, u, none, rfl, (nu8.kt x89).or, hT9, (fun b t e => by cases e), fun j e ed2 H10 k10 ne2 => ⟨.int (j : Int), ed2, rfl, rfl, upd_same, fun H11 k11 => ?_⟩⟩
        obtain rfl : j = 0 := by
          cases e
          rfl
        have k911 := (k10.kp (Kp.new ne2)).kp k11
        have x11 := x9.trans k911
        have h11 : H11 L = some (.lst [.int 0]) := (x89.trans k911).atL h8
        have hd11 := (hd8.kt x89).kt k911
        refine ⟨L, _, _, rfl, rfl, h11, Nat.lt_of_lt_of_le (by decide : 1 < 2) (by rw [sizeLine_eq]; decide), fun H12 m12 h12 => ?_⟩
        have x12 : Kt T H H12 := x11.md nL0 h11 m12
        have hd12 := hd11.md m12 nLh.symm
        have h12 : H12 L = some (.lst [.int 0, .int 0]) := h12
        refine ⟨_, rfl, _, .list [.int 0, .int 0], (fun _ => False), rfl, .lst h12 (fun z => z) (.cons (.int 0) (.cons (.int 0) .nil)), show00, ?_⟩
        refine ⟨rfl, _, rfl, ifNe (by rw [shown00]) ?_⟩
        refine ⟨_, rfl, h0, _, rfl, hd12, by omega, fun x H13 k13 hd13 sh => ?_⟩
        have x13 : Kt T H H13 := x12.hand z0 hd12 k13
        refine ⟨x, rfl, sh, x13.tab hT, fun H14 k14 => ⟨_, rfl, ?_⟩⟩
        refine (show if (!true) = true then _ else _ from iteF ?_)
        exact ⟨_, _, _, rfl, x13.trans k14, (hd13.kt k14).mono (by omega)⟩
      · rintro σ H3 ⟨y3, y4, y5, rfl, k3, hd3⟩
        exact ⟨_, _, _, _, _, rfl, k3⟩
    · rintro σ H1 ⟨y1, y2, y3, y4, y5, rfl, k1⟩
      exact q H1
end
theorem all_mk {l : PySem.W.OpenLaw} {w : World} {K : PySem.W.Frag} {h : Heap} {mg : Str → Option Value} {fa : Addr} (KI : K.In h) (G : h.Ns mainGlobals mg) (hfa : mg "law" = some (.ref fa))
    {xLink : Addr}
    (aLink : PySem.W.nsIn K mainGlobals "Link" = some (some (.ref xLink)))
    (pgLink : PySem.W.plainGet K xLink Str.empty = true)
    (hdLink : PySem.W.hasDictIn K xLink = true)
    (poLink : PySem.W.plainOver K xLink = true)
    (saLink : PySem.W.findIn K (.ref xLink) "__setattr__" = some (some (.builtin "object.__setattr__")))
    (mkLink : PySem.W.makesIn K xLink = true)
    (kcLink : PySem.W.keepIn K (.ref xLink) = true)
    (nLink_budget : PySem.W.findIn K (.ref xLink) "budget" = some none)
    (nLink_balances : PySem.W.findIn K (.ref xLink) "balances" = some none)
    (nLink_past : PySem.W.findIn K (.ref xLink) "past" = some none)
    {f0 : Addr} {od0 an0 : Option Addr} {sl0 : Array (Option Value)} {oc0 kV0 dc0 pm0 cd0 ct0 : Value}
    (a0 : PySem.W.nsIn K mainGlobals "is_integer" = some (some (.ref f0)))
    (l0 : K.lookup f0 = some ⟨oc0, od0, .func (PySem.W.fnOf "is_integer" "is_integer" (defArgs s_is_integer) (defBody s_is_integer) (defScope s_is_integer) .none kV0 dc0 pm0 an0 cd0 ct0), sl0⟩)
    (c0 : PySem.W.codeIn K cd0 "is_integer" = true) (k0 : PySem.W.keepIn K (.ref f0) = true)
    {f1 : Addr} {od1 an1 : Option Addr} {sl1 : Array (Option Value)} {oc1 kV1 dc1 pm1 cd1 ct1 : Value}
    (a1 : PySem.W.nsIn K mainGlobals "is_between" = some (some (.ref f1)))
    (l1 : K.lookup f1 = some ⟨oc1, od1, .func (PySem.W.fnOf "is_between" "is_between" (defArgs s_is_between) (defBody s_is_between) (defScope s_is_between) .none kV1 dc1 pm1 an1 cd1 ct1), sl1⟩)
    (c1 : PySem.W.codeIn K cd1 "is_between" = true) (k1 : PySem.W.keepIn K (.ref f1) = true)
    {f2 : Addr} {od2 an2 : Option Addr} {sl2 : Array (Option Value)} {oc2 kV2 dc2 pm2 cd2 ct2 : Value}
    (a2 : PySem.W.nsIn K mainGlobals "is_amount" = some (some (.ref f2)))
    (l2 : K.lookup f2 = some ⟨oc2, od2, .func (PySem.W.fnOf "is_amount" "is_amount" (defArgs s_is_amount) (defBody s_is_amount) (defScope s_is_amount) .none kV2 dc2 pm2 an2 cd2 ct2), sl2⟩)
    (c2 : PySem.W.codeIn K cd2 "is_amount" = true) (k2 : PySem.W.keepIn K (.ref f2) = true)
    {f3 : Addr} {od3 an3 : Option Addr} {sl3 : Array (Option Value)} {oc3 kV3 dc3 pm3 cd3 ct3 : Value}
    (a3 : PySem.W.nsIn K mainGlobals "is_budget" = some (some (.ref f3)))
    (l3 : K.lookup f3 = some ⟨oc3, od3, .func (PySem.W.fnOf "is_budget" "is_budget" (defArgs s_is_budget) (defBody s_is_budget) (defScope s_is_budget) .none kV3 dc3 pm3 an3 cd3 ct3), sl3⟩)
    (c3 : PySem.W.codeIn K cd3 "is_budget" = true) (k3 : PySem.W.keepIn K (.ref f3) = true)
    {f4 : Addr} {od4 an4 : Option Addr} {sl4 : Array (Option Value)} {oc4 kV4 dc4 pm4 cd4 ct4 : Value}
    (a4 : PySem.W.nsIn K mainGlobals "is_name" = some (some (.ref f4)))
    (l4 : K.lookup f4 = some ⟨oc4, od4, .func (PySem.W.fnOf "is_name" "is_name" (defArgs s_is_name) (defBody s_is_name) (defScope s_is_name) .none kV4 dc4 pm4 an4 cd4 ct4), sl4⟩)
    (c4 : PySem.W.codeIn K cd4 "is_name" = true) (k4 : PySem.W.keepIn K (.ref f4) = true)
    {f5 : Addr} {od5 an5 : Option Addr} {sl5 : Array (Option Value)} {oc5 kV5 dc5 pm5 cd5 ct5 : Value}
    (a5 : PySem.W.nsIn K mainGlobals "thresholds" = some (some (.ref f5)))
    (l5 : K.lookup f5 = some ⟨oc5, od5, .func (PySem.W.fnOf "thresholds" "thresholds" (defArgs s_thresholds) (defBody s_thresholds) (defScope s_thresholds) .none kV5 dc5 pm5 an5 cd5 ct5), sl5⟩)
    (c5 : PySem.W.codeIn K cd5 "thresholds" = true) (k5 : PySem.W.keepIn K (.ref f5) = true)
    {f6 : Addr} {od6 an6 : Option Addr} {sl6 : Array (Option Value)} {oc6 kV6 dc6 pm6 cd6 ct6 : Value}
    (a6 : PySem.W.nsIn K mainGlobals "sums" = some (some (.ref f6)))
    (l6 : K.lookup f6 = some ⟨oc6, od6, .func (PySem.W.fnOf "sums" "sums" (defArgs s_sums) (defBody s_sums) (defScope s_sums) .none kV6 dc6 pm6 an6 cd6 ct6), sl6⟩)
    (c6 : PySem.W.codeIn K cd6 "sums" = true) (k6 : PySem.W.keepIn K (.ref f6) = true)
    {f7 : Addr} {od7 an7 : Option Addr} {sl7 : Array (Option Value)} {oc7 kV7 dc7 pm7 cd7 ct7 : Value}
    (a7 : PySem.W.nsIn K mainGlobals "gap" = some (some (.ref f7)))
    (l7 : K.lookup f7 = some ⟨oc7, od7, .func (PySem.W.fnOf "gap" "gap" (defArgs s_gap) (defBody s_gap) (defScope s_gap) .none kV7 dc7 pm7 an7 cd7 ct7), sl7⟩)
    (c7 : PySem.W.codeIn K cd7 "gap" = true) (k7 : PySem.W.keepIn K (.ref f7) = true)
    {f8 : Addr} {od8 an8 : Option Addr} {sl8 : Array (Option Value)} {oc8 kV8 dc8 pm8 cd8 ct8 : Value}
    (a8 : PySem.W.nsIn K mainGlobals "poorest_first" = some (some (.ref f8)))
    (l8 : K.lookup f8 = some ⟨oc8, od8, .func (PySem.W.fnOf "poorest_first" "poorest_first" (defArgs s_poorest_first) (defBody s_poorest_first) (defScope s_poorest_first) .none kV8 dc8 pm8 an8 cd8 ct8), sl8⟩)
    (c8 : PySem.W.codeIn K cd8 "poorest_first" = true) (k8 : PySem.W.keepIn K (.ref f8) = true)
    {cc8 pp8 : Addr} {oo8 : Value} {op8 : Option Addr} {us8 : Array Value} {sq8 : Array (Option Value)}
    (q8 : cd8 = .ref cc8) (t8 : K.lookup cc8 = some ⟨oo8, op8, .fields us8, sq8⟩) (p8 : us8[11]? = some (.ref pp8)) (h8 : PySem.W.codeHdIn K cc8 pp8 = true) (n8 : K.lookup pp8 = none)
    (y8 : h.get? pp8 = some { cls := .none, data := .fields #[] })
    {f9 : Addr} {od9 an9 : Option Addr} {sl9 : Array (Option Value)} {oc9 kV9 dc9 pm9 cd9 ct9 : Value}
    (a9 : PySem.W.nsIn K mainGlobals "weak_set" = some (some (.ref f9)))
    (l9 : K.lookup f9 = some ⟨oc9, od9, .func (PySem.W.fnOf "weak_set" "weak_set" (defArgs s_weak_set) (defBody s_weak_set) (defScope s_weak_set) .none kV9 dc9 pm9 an9 cd9 ct9), sl9⟩)
    (c9 : PySem.W.codeIn K cd9 "weak_set" = true) (k9 : PySem.W.keepIn K (.ref f9) = true)
    {f10 : Addr} {od10 an10 : Option Addr} {sl10 : Array (Option Value)} {oc10 kV10 dc10 pm10 cd10 ct10 : Value}
    (a10 : PySem.W.nsIn K mainGlobals "require_amount" = some (some (.ref f10)))
    (l10 : K.lookup f10 = some ⟨oc10, od10, .func (PySem.W.fnOf "require_amount" "require_amount" (defArgs s_require_amount) (defBody s_require_amount) (defScope s_require_amount) .none kV10 dc10 pm10 an10 cd10 ct10), sl10⟩)
    (c10 : PySem.W.codeIn K cd10 "require_amount" = true) (k10 : PySem.W.keepIn K (.ref f10) = true)
    {f11 : Addr} {od11 an11 : Option Addr} {sl11 : Array (Option Value)} {oc11 kV11 dc11 pm11 cd11 ct11 : Value}
    (a11 : PySem.W.nsIn K mainGlobals "require_budget" = some (some (.ref f11)))
    (l11 : K.lookup f11 = some ⟨oc11, od11, .func (PySem.W.fnOf "require_budget" "require_budget" (defArgs s_require_budget) (defBody s_require_budget) (defScope s_require_budget) .none kV11 dc11 pm11 an11 cd11 ct11), sl11⟩)
    (c11 : PySem.W.codeIn K cd11 "require_budget" = true) (k11 : PySem.W.keepIn K (.ref f11) = true)
    {f12 : Addr} {od12 an12 : Option Addr} {sl12 : Array (Option Value)} {oc12 kV12 dc12 pm12 cd12 ct12 : Value}
    (a12 : PySem.W.nsIn K mainGlobals "weak_names" = some (some (.ref f12)))
    (l12 : K.lookup f12 = some ⟨oc12, od12, .func (PySem.W.fnOf "weak_names" "weak_names" (defArgs s_weak_names) (defBody s_weak_names) (defScope s_weak_names) .none kV12 dc12 pm12 an12 cd12 ct12), sl12⟩)
    (c12 : PySem.W.codeIn K cd12 "weak_names" = true) (k12 : PySem.W.keepIn K (.ref f12) = true)
    {f13 : Addr} {od13 an13 : Option Addr} {sl13 : Array (Option Value)} {oc13 kV13 dc13 pm13 cd13 ct13 : Value}
    (a13 : PySem.W.findIn K (.ref xLink) "require_known" = some (some (.ref f13))) (j13 : PySem.W.isFn K (.ref f13) = true)
    (l13 : K.lookup f13 = some ⟨oc13, od13, .func (PySem.W.fnOf "require_known" "Link.require_known" (defArgs s_Link_require_known) (defBody s_Link_require_known) (defScope s_Link_require_known) .none kV13 dc13 pm13 an13 cd13 ct13), sl13⟩)
    (c13 : PySem.W.codeIn K cd13 "Link.require_known" = true) (k13 : PySem.W.keepIn K (.ref f13) = true)
    {f14 : Addr} {od14 an14 : Option Addr} {sl14 : Array (Option Value)} {oc14 kV14 dc14 pm14 cd14 ct14 : Value}
    (a14 : PySem.W.findIn K (.ref xLink) "keep" = some (some (.ref f14))) (j14 : PySem.W.isFn K (.ref f14) = true)
    (l14 : K.lookup f14 = some ⟨oc14, od14, .func (PySem.W.fnOf "keep" "Link.keep" (defArgs s_Link_keep) (defBody s_Link_keep) (defScope s_Link_keep) .none kV14 dc14 pm14 an14 cd14 ct14), sl14⟩)
    (c14 : PySem.W.codeIn K cd14 "Link.keep" = true) (k14 : PySem.W.keepIn K (.ref f14) = true)
    {f15 : Addr} {od15 an15 : Option Addr} {sl15 : Array (Option Value)} {oc15 kV15 dc15 pm15 cd15 ct15 : Value}
    (a15 : PySem.W.findIn K (.ref xLink) "change" = some (some (.ref f15))) (j15 : PySem.W.isFn K (.ref f15) = true)
    (l15 : K.lookup f15 = some ⟨oc15, od15, .func (PySem.W.fnOf "change" "Link.change" (defArgs s_Link_change) (defBody s_Link_change) (defScope s_Link_change) .none kV15 dc15 pm15 an15 cd15 ct15), sl15⟩)
    (c15 : PySem.W.codeIn K cd15 "Link.change" = true) (k15 : PySem.W.keepIn K (.ref f15) = true)
    {f16 : Addr} {od16 an16 : Option Addr} {sl16 : Array (Option Value)} {oc16 kV16 dc16 pm16 cd16 ct16 : Value}
    (a16 : PySem.W.findIn K (.ref xLink) "__init__" = some (some (.ref f16))) (j16 : PySem.W.isFn K (.ref f16) = true)
    (l16 : K.lookup f16 = some ⟨oc16, od16, .func (PySem.W.fnOf "__init__" "Link.__init__" (defArgs s_Link___init__) (defBody s_Link___init__) (defScope s_Link___init__) .none kV16 dc16 pm16 an16 cd16 ct16), sl16⟩)
    (c16 : PySem.W.codeIn K cd16 "Link.__init__" = true) (k16 : PySem.W.keepIn K (.ref f16) = true)
    {f17 : Addr} {od17 an17 : Option Addr} {sl17 : Array (Option Value)} {oc17 kV17 dc17 pm17 cd17 ct17 : Value}
    (a17 : PySem.W.findIn K (.ref xLink) "enter" = some (some (.ref f17))) (j17 : PySem.W.isFn K (.ref f17) = true)
    (l17 : K.lookup f17 = some ⟨oc17, od17, .func (PySem.W.fnOf "enter" "Link.enter" (defArgs s_Link_enter) (defBody s_Link_enter) (defScope s_Link_enter) .none kV17 dc17 pm17 an17 cd17 ct17), sl17⟩)
    (c17 : PySem.W.codeIn K cd17 "Link.enter" = true) (k17 : PySem.W.keepIn K (.ref f17) = true)
    {f18 : Addr} {od18 an18 : Option Addr} {sl18 : Array (Option Value)} {oc18 kV18 dc18 pm18 cd18 ct18 : Value}
    (a18 : PySem.W.findIn K (.ref xLink) "names" = some (some (.ref f18))) (j18 : PySem.W.isFn K (.ref f18) = true)
    (l18 : K.lookup f18 = some ⟨oc18, od18, .func (PySem.W.fnOf "names" "Link.names" (defArgs s_Link_names) (defBody s_Link_names) (defScope s_Link_names) .none kV18 dc18 pm18 an18 cd18 ct18), sl18⟩)
    (c18 : PySem.W.codeIn K cd18 "Link.names" = true) (k18 : PySem.W.keepIn K (.ref f18) = true)
    {f19 : Addr} {od19 an19 : Option Addr} {sl19 : Array (Option Value)} {oc19 kV19 dc19 pm19 cd19 ct19 : Value}
    (a19 : PySem.W.findIn K (.ref xLink) "balance_of" = some (some (.ref f19))) (j19 : PySem.W.isFn K (.ref f19) = true)
    (l19 : K.lookup f19 = some ⟨oc19, od19, .func (PySem.W.fnOf "balance_of" "Link.balance_of" (defArgs s_Link_balance_of) (defBody s_Link_balance_of) (defScope s_Link_balance_of) .none kV19 dc19 pm19 an19 cd19 ct19), sl19⟩)
    (c19 : PySem.W.codeIn K cd19 "Link.balance_of" = true) (k19 : PySem.W.keepIn K (.ref f19) = true)
    {f20 : Addr} {od20 an20 : Option Addr} {sl20 : Array (Option Value)} {oc20 kV20 dc20 pm20 cd20 ct20 : Value}
    (a20 : PySem.W.findIn K (.ref xLink) "current_budget" = some (some (.ref f20))) (j20 : PySem.W.isFn K (.ref f20) = true)
    (l20 : K.lookup f20 = some ⟨oc20, od20, .func (PySem.W.fnOf "current_budget" "Link.current_budget" (defArgs s_Link_current_budget) (defBody s_Link_current_budget) (defScope s_Link_current_budget) .none kV20 dc20 pm20 an20 cd20 ct20), sl20⟩)
    (c20 : PySem.W.codeIn K cd20 "Link.current_budget" = true) (k20 : PySem.W.keepIn K (.ref f20) = true)
    {f21 : Addr} {od21 an21 : Option Addr} {sl21 : Array (Option Value)} {oc21 kV21 dc21 pm21 cd21 ct21 : Value}
    (a21 : PySem.W.findIn K (.ref xLink) "changes" = some (some (.ref f21))) (j21 : PySem.W.isFn K (.ref f21) = true)
    (l21 : K.lookup f21 = some ⟨oc21, od21, .func (PySem.W.fnOf "changes" "Link.changes" (defArgs s_Link_changes) (defBody s_Link_changes) (defScope s_Link_changes) .none kV21 dc21 pm21 an21 cd21 ct21), sl21⟩)
    (c21 : PySem.W.codeIn K cd21 "Link.changes" = true) (k21 : PySem.W.keepIn K (.ref f21) = true)
    {f22 : Addr} {od22 an22 : Option Addr} {sl22 : Array (Option Value)} {oc22 kV22 dc22 pm22 cd22 ct22 : Value}
    (a22 : PySem.W.findIn K (.ref xLink) "clone" = some (some (.ref f22))) (j22 : PySem.W.isFn K (.ref f22) = true)
    (l22 : K.lookup f22 = some ⟨oc22, od22, .func (PySem.W.fnOf "clone" "Link.clone" (defArgs s_Link_clone) (defBody s_Link_clone) (defScope s_Link_clone) .none kV22 dc22 pm22 an22 cd22 ct22), sl22⟩)
    (c22 : PySem.W.codeIn K cd22 "Link.clone" = true) (k22 : PySem.W.keepIn K (.ref f22) = true)
    {f23 : Addr} {od23 an23 : Option Addr} {sl23 : Array (Option Value)} {oc23 kV23 dc23 pm23 cd23 ct23 : Value}
    (a23 : PySem.W.nsIn K mainGlobals "read_number" = some (some (.ref f23)))
    (l23 : K.lookup f23 = some ⟨oc23, od23, .func (PySem.W.fnOf "read_number" "read_number" (defArgs s_read_number) (defBody s_read_number) (defScope s_read_number) .none kV23 dc23 pm23 an23 cd23 ct23), sl23⟩)
    (c23 : PySem.W.codeIn K cd23 "read_number" = true) (k23 : PySem.W.keepIn K (.ref f23) = true)
    {f24 : Addr} {od24 an24 : Option Addr} {sl24 : Array (Option Value)} {oc24 kV24 dc24 pm24 cd24 ct24 : Value}
    (a24 : PySem.W.nsIn K mainGlobals "read_amount" = some (some (.ref f24)))
    (l24 : K.lookup f24 = some ⟨oc24, od24, .func (PySem.W.fnOf "read_amount" "read_amount" (defArgs s_read_amount) (defBody s_read_amount) (defScope s_read_amount) .none kV24 dc24 pm24 an24 cd24 ct24), sl24⟩)
    (c24 : PySem.W.codeIn K cd24 "read_amount" = true) (k24 : PySem.W.keepIn K (.ref f24) = true)
    {f25 : Addr} {od25 an25 : Option Addr} {sl25 : Array (Option Value)} {oc25 kV25 dc25 pm25 cd25 ct25 : Value}
    (a25 : PySem.W.nsIn K mainGlobals "read_budget" = some (some (.ref f25)))
    (l25 : K.lookup f25 = some ⟨oc25, od25, .func (PySem.W.fnOf "read_budget" "read_budget" (defArgs s_read_budget) (defBody s_read_budget) (defScope s_read_budget) .none kV25 dc25 pm25 an25 cd25 ct25), sl25⟩)
    (c25 : PySem.W.codeIn K cd25 "read_budget" = true) (k25 : PySem.W.keepIn K (.ref f25) = true)
    {f26 : Addr} {od26 an26 : Option Addr} {sl26 : Array (Option Value)} {oc26 kV26 dc26 pm26 cd26 ct26 : Value}
    (a26 : PySem.W.nsIn K mainGlobals "read_numbers" = some (some (.ref f26)))
    (l26 : K.lookup f26 = some ⟨oc26, od26, .func (PySem.W.fnOf "read_numbers" "read_numbers" (defArgs s_read_numbers) (defBody s_read_numbers) (defScope s_read_numbers) .none kV26 dc26 pm26 an26 cd26 ct26), sl26⟩)
    (c26 : PySem.W.codeIn K cd26 "read_numbers" = true) (k26 : PySem.W.keepIn K (.ref f26) = true)
    {f27 : Addr} {od27 an27 : Option Addr} {sl27 : Array (Option Value)} {oc27 kV27 dc27 pm27 cd27 ct27 : Value}
    (a27 : PySem.W.nsIn K mainGlobals "show_balances" = some (some (.ref f27)))
    (l27 : K.lookup f27 = some ⟨oc27, od27, .func (PySem.W.fnOf "show_balances" "show_balances" (defArgs s_show_balances) (defBody s_show_balances) (defScope s_show_balances) .none kV27 dc27 pm27 an27 cd27 ct27), sl27⟩)
    (c27 : PySem.W.codeIn K cd27 "show_balances" = true) (k27 : PySem.W.keepIn K (.ref f27) = true)
    {f28 : Addr} {od28 an28 : Option Addr} {sl28 : Array (Option Value)} {oc28 kV28 dc28 pm28 cd28 ct28 : Value}
    (a28 : PySem.W.nsIn K mainGlobals "read_balances" = some (some (.ref f28)))
    (l28 : K.lookup f28 = some ⟨oc28, od28, .func (PySem.W.fnOf "read_balances" "read_balances" (defArgs s_read_balances) (defBody s_read_balances) (defScope s_read_balances) .none kV28 dc28 pm28 an28 cd28 ct28), sl28⟩)
    (c28 : PySem.W.codeIn K cd28 "read_balances" = true) (k28 : PySem.W.keepIn K (.ref f28) = true)
    {f29 : Addr} {od29 an29 : Option Addr} {sl29 : Array (Option Value)} {oc29 kV29 dc29 pm29 cd29 ct29 : Value}
    (a29 : PySem.W.nsIn K mainGlobals "show_link" = some (some (.ref f29)))
    (l29 : K.lookup f29 = some ⟨oc29, od29, .func (PySem.W.fnOf "show_link" "show_link" (defArgs s_show_link) (defBody s_show_link) (defScope s_show_link) .none kV29 dc29 pm29 an29 cd29 ct29), sl29⟩)
    (c29 : PySem.W.codeIn K cd29 "show_link" = true) (k29 : PySem.W.keepIn K (.ref f29) = true)
    {f30 : Addr} {od30 an30 : Option Addr} {sl30 : Array (Option Value)} {oc30 kV30 dc30 pm30 cd30 ct30 : Value}
    (a30 : PySem.W.nsIn K mainGlobals "read_budget_row" = some (some (.ref f30)))
    (l30 : K.lookup f30 = some ⟨oc30, od30, .func (PySem.W.fnOf "read_budget_row" "read_budget_row" (defArgs s_read_budget_row) (defBody s_read_budget_row) (defScope s_read_budget_row) .none kV30 dc30 pm30 an30 cd30 ct30), sl30⟩)
    (c30 : PySem.W.codeIn K cd30 "read_budget_row" = true) (k30 : PySem.W.keepIn K (.ref f30) = true)
    {f31 : Addr} {od31 an31 : Option Addr} {sl31 : Array (Option Value)} {oc31 kV31 dc31 pm31 cd31 ct31 : Value}
    (a31 : PySem.W.nsIn K mainGlobals "read_sender_row" = some (some (.ref f31)))
    (l31 : K.lookup f31 = some ⟨oc31, od31, .func (PySem.W.fnOf "read_sender_row" "read_sender_row" (defArgs s_read_sender_row) (defBody s_read_sender_row) (defScope s_read_sender_row) .none kV31 dc31 pm31 an31 cd31 ct31), sl31⟩)
    (c31 : PySem.W.codeIn K cd31 "read_sender_row" = true) (k31 : PySem.W.keepIn K (.ref f31) = true)
    {f32 : Addr} {od32 an32 : Option Addr} {sl32 : Array (Option Value)} {oc32 kV32 dc32 pm32 cd32 ct32 : Value}
    (a32 : PySem.W.nsIn K mainGlobals "read_senders" = some (some (.ref f32)))
    (l32 : K.lookup f32 = some ⟨oc32, od32, .func (PySem.W.fnOf "read_senders" "read_senders" (defArgs s_read_senders) (defBody s_read_senders) (defScope s_read_senders) .none kV32 dc32 pm32 an32 cd32 ct32), sl32⟩)
    (c32 : PySem.W.codeIn K cd32 "read_senders" = true) (k32 : PySem.W.keepIn K (.ref f32) = true)
    {f33 : Addr} {od33 an33 : Option Addr} {sl33 : Array (Option Value)} {oc33 kV33 dc33 pm33 cd33 ct33 : Value}
    (a33 : PySem.W.nsIn K mainGlobals "read_link" = some (some (.ref f33)))
    (l33 : K.lookup f33 = some ⟨oc33, od33, .func (PySem.W.fnOf "read_link" "read_link" (defArgs s_read_link) (defBody s_read_link) (defScope s_read_link) .none kV33 dc33 pm33 an33 cd33 ct33), sl33⟩)
    (c33 : PySem.W.codeIn K cd33 "read_link" = true) (k33 : PySem.W.keepIn K (.ref f33) = true)
    {f34 : Addr} {od34 an34 : Option Addr} {sl34 : Array (Option Value)} {oc34 kV34 dc34 pm34 cd34 ct34 : Value}
    (a34 : PySem.W.nsIn K mainGlobals "_law_take" = some (some (.ref f34)))
    (l34 : K.lookup f34 = some ⟨oc34, od34, .func (PySem.W.fnOf "_law_take" "_law_take" (defArgs s__law_take) (defBody s__law_take) (defScope s__law_take) .none kV34 dc34 pm34 an34 cd34 ct34), sl34⟩)
    (c34 : PySem.W.codeIn K cd34 "_law_take" = true) (k34 : PySem.W.keepIn K (.ref f34) = true)
    {f35 : Addr} {od35 an35 : Option Addr} {sl35 : Array (Option Value)} {oc35 kV35 dc35 pm35 cd35 ct35 : Value}
    (a35 : PySem.W.nsIn K mainGlobals "_law_of" = some (some (.ref f35)))
    (l35 : K.lookup f35 = some ⟨oc35, od35, .func (PySem.W.fnOf "_law_of" "_law_of" (defArgs s__law_of) (defBody s__law_of) (defScope s__law_of) .none kV35 dc35 pm35 an35 cd35 ct35), sl35⟩)
    (c35 : PySem.W.codeIn K cd35 "_law_of" = true) (k35 : PySem.W.keepIn K (.ref f35) = true)
    {f36 : Addr} {od36 an36 : Option Addr} {sl36 : Array (Option Value)} {oc36 kV36 dc36 pm36 cd36 ct36 : Value}
    (a36 : PySem.W.nsIn K mainGlobals "_law_hand" = some (some (.ref f36)))
    (l36 : K.lookup f36 = some ⟨oc36, od36, .func (PySem.W.fnOf "_law_hand" "_law_hand" (defArgs s__law_hand) (defBody s__law_hand) (defScope s__law_hand) .none kV36 dc36 pm36 an36 cd36 ct36), sl36⟩)
    (c36 : PySem.W.codeIn K cd36 "_law_hand" = true) (k36 : PySem.W.keepIn K (.ref f36) = true)
    {f37 : Addr} {od37 an37 : Option Addr} {sl37 : Array (Option Value)} {oc37 kV37 dc37 pm37 cd37 ct37 : Value}
    (a37 : PySem.W.nsIn K mainGlobals "_law_nested" = some (some (.ref f37)))
    (l37 : K.lookup f37 = some ⟨oc37, od37, .func (PySem.W.fnOf "_law_nested" "_law_nested" (defArgs s__law_nested) (defBody s__law_nested) (defScope s__law_nested) .none kV37 dc37 pm37 an37 cd37 ct37), sl37⟩)
    (c37 : PySem.W.codeIn K cd37 "_law_nested" = true) (k37 : PySem.W.keepIn K (.ref f37) = true)
    {f38 : Addr} {od38 an38 : Option Addr} {sl38 : Array (Option Value)} {oc38 kV38 dc38 pm38 cd38 ct38 : Value}
    (a38 : PySem.W.nsIn K mainGlobals "_law_short" = some (some (.ref f38)))
    (l38 : K.lookup f38 = some ⟨oc38, od38, .func (PySem.W.fnOf "_law_short" "_law_short" (defArgs s__law_short) (defBody s__law_short) (defScope s__law_short) .none kV38 dc38 pm38 an38 cd38 ct38), sl38⟩)
    (c38 : PySem.W.codeIn K cd38 "_law_short" = true) (k38 : PySem.W.keepIn K (.ref f38) = true)
    {f39 : Addr} {od39 an39 : Option Addr} {sl39 : Array (Option Value)} {oc39 kV39 dc39 pm39 cd39 ct39 : Value}
    (a39 : PySem.W.nsIn K mainGlobals "_law_read" = some (some (.ref f39)))
    (l39 : K.lookup f39 = some ⟨oc39, od39, .func (PySem.W.fnOf "_law_read" "_law_read" (defArgs s__law_read) (defBody s__law_read) (defScope s__law_read) .none kV39 dc39 pm39 an39 cd39 ct39), sl39⟩)
    (c39 : PySem.W.codeIn K cd39 "_law_read" = true) (k39 : PySem.W.keepIn K (.ref f39) = true)
    {f40 : Addr} {od40 an40 : Option Addr} {sl40 : Array (Option Value)} {oc40 kV40 dc40 pm40 cd40 ct40 : Value}
    (a40 : PySem.W.nsIn K mainGlobals "_law_are_numbers" = some (some (.ref f40)))
    (l40 : K.lookup f40 = some ⟨oc40, od40, .func (PySem.W.fnOf "_law_are_numbers" "_law_are_numbers" (defArgs s__law_are_numbers) (defBody s__law_are_numbers) (defScope s__law_are_numbers) .none kV40 dc40 pm40 an40 cd40 ct40), sl40⟩)
    (c40 : PySem.W.codeIn K cd40 "_law_are_numbers" = true) (k40 : PySem.W.keepIn K (.ref f40) = true)
    {f41 : Addr} {od41 an41 : Option Addr} {sl41 : Array (Option Value)} {oc41 kV41 dc41 pm41 cd41 ct41 : Value}
    (a41 : PySem.W.nsIn K mainGlobals "_law_text_right" = some (some (.ref f41)))
    (l41 : K.lookup f41 = some ⟨oc41, od41, .func (PySem.W.fnOf "_law_text_right" "_law_text_right" (defArgs s__law_text_right) (defBody s__law_text_right) (defScope s__law_text_right) .none kV41 dc41 pm41 an41 cd41 ct41), sl41⟩)
    (c41 : PySem.W.codeIn K cd41 "_law_text_right" = true) (k41 : PySem.W.keepIn K (.ref f41) = true)
    {cc41 pp41 : Addr} {oo41 : Value} {op41 : Option Addr} {us41 : Array Value} {sq41 : Array (Option Value)}
    (q41 : cd41 = .ref cc41) (t41 : K.lookup cc41 = some ⟨oo41, op41, .fields us41, sq41⟩) (p41 : us41[11]? = some (.ref pp41)) (h41 : PySem.W.codeHdIn K cc41 pp41 = true) (n41 : K.lookup pp41 = none)
    (y41 : h.get? pp41 = some { cls := .none, data := .fields #[] })
    {f42 : Addr} {od42 an42 : Option Addr} {sl42 : Array (Option Value)} {oc42 kV42 dc42 pm42 cd42 ct42 : Value}
    (a42 : PySem.W.nsIn K mainGlobals "law" = some (some (.ref f42)))
    (l42 : K.lookup f42 = some ⟨oc42, od42, .func (PySem.W.fnOf "law" "law" (defArgs s_law) (defBody s_law) (defScope s_law) .none kV42 dc42 pm42 an42 cd42 ct42), sl42⟩)
    (c42 : PySem.W.codeIn K cd42 "law" = true) (k42 : PySem.W.keepIn K (.ref f42) = true)
    {cc42 pp42 : Addr} {oo42 : Value} {op42 : Option Addr} {us42 : Array Value} {sq42 : Array (Option Value)}
    (q42 : cd42 = .ref cc42) (t42 : K.lookup cc42 = some ⟨oo42, op42, .fields us42, sq42⟩) (p42 : us42[11]? = some (.ref pp42)) (h42 : PySem.W.codeHdIn K cc42 pp42 = true) (n42 : K.lookup pp42 = none)
    (y42 : h.get? pp42 = some { cls := .none, data := .fields #[] })
    (d41_8 : (pp41 == pp8) = false)
    (d42_8 : (pp42 == pp8) = false)
    (d42_41 : (pp42 == pp41) = false)
    (z_isinstance : PySem.W.nsIn K mainGlobals "isinstance" = some none)
    (z_int : PySem.W.nsIn K mainGlobals "int" = some none)
    (z_bool : PySem.W.nsIn K mainGlobals "bool" = some none)
    (z_str : PySem.W.nsIn K mainGlobals "str" = some none)
    (z_len : PySem.W.nsIn K mainGlobals "len" = some none)
    (z_all : PySem.W.nsIn K mainGlobals "all" = some none)
    (z_range : PySem.W.nsIn K mainGlobals "range" = some none)
    (z_tuple : PySem.W.nsIn K mainGlobals "tuple" = some none)
    (z_sorted : PySem.W.nsIn K mainGlobals "sorted" = some none)
    (z_enumerate : PySem.W.nsIn K mainGlobals "enumerate" = some none)
    (z_list : PySem.W.nsIn K mainGlobals "list" = some none)
    (z_dict : PySem.W.nsIn K mainGlobals "dict" = some none)
    (z_abs : PySem.W.nsIn K mainGlobals "abs" = some none)
    (z_repr : PySem.W.nsIn K mainGlobals "repr" = some none)
    (z_max : PySem.W.nsIn K mainGlobals "max" = some none)
    (z_min : PySem.W.nsIn K mainGlobals "min" = some none)
    (o_MOST_CREDITS : ∃ t, mg "MOST_CREDITS" = some (.int 1000000000000 t))
    (o_MOST_BUDGET : ∃ t, mg "MOST_BUDGET" = some (.int 1000000 t))
    {tk_MOST_LETTERS : Tok} (g_MOST_LETTERS : PySem.W.nsIn K mainGlobals "MOST_LETTERS" = some (some (.int 8 tk_MOST_LETTERS)))
    {tk_LETTERS : Tok} (g_LETTERS : PySem.W.nsIn K mainGlobals "LETTERS" = some (some (.str "abcdefghijklmnopqrstuvwxyz" tk_LETTERS)))
    {tk_MOST_SENDERS : Tok} (g_MOST_SENDERS : PySem.W.nsIn K mainGlobals "MOST_SENDERS" = some (some (.int 40 tk_MOST_SENDERS)))
    {tk_MOST_DIGITS : Tok} (g_MOST_DIGITS : PySem.W.nsIn K mainGlobals "MOST_DIGITS" = some (some (.int 13 tk_MOST_DIGITS)))
    {tk_DIGITS : Tok} (g_DIGITS : PySem.W.nsIn K mainGlobals "DIGITS" = some (some (.str "0123456789" tk_DIGITS)))
    {xFu : Addr}
    {xE : Addr}
    {xNs : Addr}
    {xCm : Addr}
    {xNa gNa nNa : Addr} {nmNa qNa : Str} {bsNa bmNa subNa : List Value} {snNa : List Str} {abNa : Bool} {colNa : Option Bool} {ddNa odNa anNa : Option Addr} {u0Na u1Na u2Na u3Na u5Na : Option Value} {slNa : Array (Option Value)} {ocNa kVNa dcNa pmNa cdNa ctNa : Value}
    {xTa gTa nTa : Addr} {nmTa qTa : Str} {bsTa bmTa subTa : List Value} {snTa : List Str} {abTa : Bool} {colTa : Option Bool} {ddTa odTa anTa : Option Addr} {u0Ta u1Ta u2Ta u3Ta u5Ta : Option Value} {slTa : Array (Option Value)} {ocTa kVTa dcTa pmTa cdTa ctTa : Value}
    {xUn gUn nUn : Addr} {nmUn qUn : Str} {bsUn bmUn subUn : List Value} {snUn : List Str} {abUn : Bool} {colUn : Option Bool} {ddUn odUn anUn : Option Addr} {u0Un u1Un u2Un u3Un u5Un : Option Value} {slUn : Array (Option Value)} {ocUn kVUn dcUn pmUn cdUn ctUn : Value}
    {xAm gAm nAm : Addr} {nmAm qAm : Str} {bsAm bmAm subAm : List Value} {snAm : List Str} {abAm : Bool} {colAm : Option Bool} {ddAm odAm anAm : Option Addr} {u0Am u1Am u2Am u3Am u5Am : Option Value} {slAm : Array (Option Value)} {ocAm kVAm dcAm pmAm cdAm ctAm : Value}
    {xBu gBu nBu : Addr} {nmBu qBu : Str} {bsBu bmBu subBu : List Value} {snBu : List Str} {abBu : Bool} {colBu : Option Bool} {ddBu odBu anBu : Option Addr} {u0Bu u1Bu u2Bu u3Bu u5Bu : Option Value} {slBu : Array (Option Value)} {ocBu kVBu dcBu pmBu cdBu ctBu : Value}
    {xRe gRe nRe : Addr} {nmRe qRe : Str} {bsRe bmRe subRe : List Value} {snRe : List Str} {abRe : Bool} {colRe : Option Bool} {ddRe odRe anRe : Option Addr} {u0Re u1Re u2Re u3Re u5Re : Option Value} {slRe : Array (Option Value)} {ocRe kVRe dcRe pmRe cdRe ctRe : Value}
    {xTx gTx nTx : Addr} {nmTx qTx : Str} {bsTx bmTx subTx : List Value} {snTx : List Str} {abTx : Bool} {colTx : Option Bool} {ddTx odTx anTx : Option Addr} {u0Tx u1Tx u2Tx u3Tx u5Tx : Option Value} {slTx : Array (Option Value)} {ocTx kVTx dcTx pmTx cdTx ctTx : Value}
    (aE : PySem.W.nsIn K mainGlobals "CreditError" = some (some (.ref xE)))
    (aNs : PySem.W.nsIn K mainGlobals "NotSafe" = some (some (.ref xNs)))
    (aCm : PySem.W.nsIn K mainGlobals "BadCommand" = some (some (.ref xCm)))
    (aNa : PySem.W.nsIn K mainGlobals "BadName" = some (some (.ref xNa)))
    (aTa : PySem.W.nsIn K mainGlobals "TakenName" = some (some (.ref xTa)))
    (aUn : PySem.W.nsIn K mainGlobals "UnknownName" = some (some (.ref xUn)))
    (aAm : PySem.W.nsIn K mainGlobals "BadAmount" = some (some (.ref xAm)))
    (aBu : PySem.W.nsIn K mainGlobals "BadBudget" = some (some (.ref xBu)))
    (aRe : PySem.W.nsIn K mainGlobals "Refused" = some (some (.ref xRe)))
    (aTx : PySem.W.nsIn K mainGlobals "BadText" = some (some (.ref xTx)))
    (exE : PySem.W.subIn K (.ref xE) (.type "BaseException") = some true)
    (hdE : PySem.W.hasDictIn K xE = true)
    (tyE : PySem.W.typeIn K (.ref xE) = some (.type "type"))
    (xn_ : PySem.W.specialIn K (.builtin "object.__class__") "__get__" = some (some (.builtin "getset_descriptor.__get__")))
    (xu_ : PySem.W.takesIn K (.builtin "object.__class__") = some true)
    (lNa : K.lookup xNa = some (excClassObj nmNa qNa xNa nNa bsNa bmNa true snNa subNa abNa colNa ddNa u0Na u1Na u2Na u3Na u5Na "ValueError.__new__"))
    (vNa : PySem.HandSPX.refsVE bmNa = true)
    (saNa : PySem.W.findIn K (.ref xNa) "__setattr__" = some (some (.builtin "object.__setattr__")))
    (exNa : PySem.W.subIn K (.ref xNa) (.type "BaseException") = some true)
    (tyNa : PySem.W.typeIn K (.ref xNa) = some (.type "type"))
    (kcNa : PySem.W.keepIn K (.ref xNa) = true)
    (iNa : PySem.W.findIn K (.ref xNa) "__init__" = some (some (.ref gNa)))
    (tNa : PySem.W.typeIn K (.ref gNa) = some (.type "function"))
    (noNa : PySem.W.findIn K (.ref xNa) "value" = some none)
    (liNa : K.lookup gNa = some ⟨ocNa, odNa, .func (PySem.W.fnOf "__init__" "BadName.__init__" (defArgs i_BadName) (defBody i_BadName) (defScope i_BadName) .none kVNa dcNa pmNa anNa cdNa ctNa), slNa⟩)
    (ciNa : PySem.W.codeIn K cdNa "BadName.__init__" = true)
    (kiNa : PySem.W.keepIn K (.ref gNa) = true)
    (hgNa : PySem.W.findIn K (.ref xNa) "__getattribute__" = some (some (.builtin "BaseException.__getattribute__")))
    (hkNa : PySem.W.findIn K (.ref xNa) "__getattr__" = some none)
    (hdNa : PySem.W.hasDictIn K xNa = true)
    (haNa : PySem.W.findIn K (.ref xNa) "__class__" = some (some (.builtin "object.__class__")))
    (hmNa : PySem.W.mroIn K xNa (.type "object") = some true)
    (seNaE : PySem.W.subIn K (.ref xNa) (.ref xE) = some true)
    (lTa : K.lookup xTa = some (excClassObj nmTa qTa xTa nTa bsTa bmTa true snTa subTa abTa colTa ddTa u0Ta u1Ta u2Ta u3Ta u5Ta "ValueError.__new__"))
    (vTa : PySem.HandSPX.refsVE bmTa = true)
    (saTa : PySem.W.findIn K (.ref xTa) "__setattr__" = some (some (.builtin "object.__setattr__")))
    (exTa : PySem.W.subIn K (.ref xTa) (.type "BaseException") = some true)
    (tyTa : PySem.W.typeIn K (.ref xTa) = some (.type "type"))
    (kcTa : PySem.W.keepIn K (.ref xTa) = true)
    (iTa : PySem.W.findIn K (.ref xTa) "__init__" = some (some (.ref gTa)))
    (tTa : PySem.W.typeIn K (.ref gTa) = some (.type "function"))
    (noTa : PySem.W.findIn K (.ref xTa) "value" = some none)
    (liTa : K.lookup gTa = some ⟨ocTa, odTa, .func (PySem.W.fnOf "__init__" "TakenName.__init__" (defArgs i_TakenName) (defBody i_TakenName) (defScope i_TakenName) .none kVTa dcTa pmTa anTa cdTa ctTa), slTa⟩)
    (ciTa : PySem.W.codeIn K cdTa "TakenName.__init__" = true)
    (kiTa : PySem.W.keepIn K (.ref gTa) = true)
    (hgTa : PySem.W.findIn K (.ref xTa) "__getattribute__" = some (some (.builtin "BaseException.__getattribute__")))
    (hkTa : PySem.W.findIn K (.ref xTa) "__getattr__" = some none)
    (hdTa : PySem.W.hasDictIn K xTa = true)
    (haTa : PySem.W.findIn K (.ref xTa) "__class__" = some (some (.builtin "object.__class__")))
    (hmTa : PySem.W.mroIn K xTa (.type "object") = some true)
    (seTaE : PySem.W.subIn K (.ref xTa) (.ref xE) = some true)
    (lUn : K.lookup xUn = some (excClassObj nmUn qUn xUn nUn bsUn bmUn true snUn subUn abUn colUn ddUn u0Un u1Un u2Un u3Un u5Un "ValueError.__new__"))
    (vUn : PySem.HandSPX.refsVE bmUn = true)
    (saUn : PySem.W.findIn K (.ref xUn) "__setattr__" = some (some (.builtin "object.__setattr__")))
    (exUn : PySem.W.subIn K (.ref xUn) (.type "BaseException") = some true)
    (tyUn : PySem.W.typeIn K (.ref xUn) = some (.type "type"))
    (kcUn : PySem.W.keepIn K (.ref xUn) = true)
    (iUn : PySem.W.findIn K (.ref xUn) "__init__" = some (some (.ref gUn)))
    (tUn : PySem.W.typeIn K (.ref gUn) = some (.type "function"))
    (noUn : PySem.W.findIn K (.ref xUn) "value" = some none)
    (liUn : K.lookup gUn = some ⟨ocUn, odUn, .func (PySem.W.fnOf "__init__" "UnknownName.__init__" (defArgs i_UnknownName) (defBody i_UnknownName) (defScope i_UnknownName) .none kVUn dcUn pmUn anUn cdUn ctUn), slUn⟩)
    (ciUn : PySem.W.codeIn K cdUn "UnknownName.__init__" = true)
    (kiUn : PySem.W.keepIn K (.ref gUn) = true)
    (hgUn : PySem.W.findIn K (.ref xUn) "__getattribute__" = some (some (.builtin "BaseException.__getattribute__")))
    (hkUn : PySem.W.findIn K (.ref xUn) "__getattr__" = some none)
    (hdUn : PySem.W.hasDictIn K xUn = true)
    (haUn : PySem.W.findIn K (.ref xUn) "__class__" = some (some (.builtin "object.__class__")))
    (hmUn : PySem.W.mroIn K xUn (.type "object") = some true)
    (seUnE : PySem.W.subIn K (.ref xUn) (.ref xE) = some true)
    (lAm : K.lookup xAm = some (excClassObj nmAm qAm xAm nAm bsAm bmAm true snAm subAm abAm colAm ddAm u0Am u1Am u2Am u3Am u5Am "ValueError.__new__"))
    (vAm : PySem.HandSPX.refsVE bmAm = true)
    (saAm : PySem.W.findIn K (.ref xAm) "__setattr__" = some (some (.builtin "object.__setattr__")))
    (exAm : PySem.W.subIn K (.ref xAm) (.type "BaseException") = some true)
    (tyAm : PySem.W.typeIn K (.ref xAm) = some (.type "type"))
    (kcAm : PySem.W.keepIn K (.ref xAm) = true)
    (iAm : PySem.W.findIn K (.ref xAm) "__init__" = some (some (.ref gAm)))
    (tAm : PySem.W.typeIn K (.ref gAm) = some (.type "function"))
    (noAm : PySem.W.findIn K (.ref xAm) "value" = some none)
    (liAm : K.lookup gAm = some ⟨ocAm, odAm, .func (PySem.W.fnOf "__init__" "BadAmount.__init__" (defArgs i_BadAmount) (defBody i_BadAmount) (defScope i_BadAmount) .none kVAm dcAm pmAm anAm cdAm ctAm), slAm⟩)
    (ciAm : PySem.W.codeIn K cdAm "BadAmount.__init__" = true)
    (kiAm : PySem.W.keepIn K (.ref gAm) = true)
    (hgAm : PySem.W.findIn K (.ref xAm) "__getattribute__" = some (some (.builtin "BaseException.__getattribute__")))
    (hkAm : PySem.W.findIn K (.ref xAm) "__getattr__" = some none)
    (hdAm : PySem.W.hasDictIn K xAm = true)
    (haAm : PySem.W.findIn K (.ref xAm) "__class__" = some (some (.builtin "object.__class__")))
    (hmAm : PySem.W.mroIn K xAm (.type "object") = some true)
    (seAmE : PySem.W.subIn K (.ref xAm) (.ref xE) = some true)
    (lBu : K.lookup xBu = some (excClassObj nmBu qBu xBu nBu bsBu bmBu true snBu subBu abBu colBu ddBu u0Bu u1Bu u2Bu u3Bu u5Bu "ValueError.__new__"))
    (vBu : PySem.HandSPX.refsVE bmBu = true)
    (saBu : PySem.W.findIn K (.ref xBu) "__setattr__" = some (some (.builtin "object.__setattr__")))
    (exBu : PySem.W.subIn K (.ref xBu) (.type "BaseException") = some true)
    (tyBu : PySem.W.typeIn K (.ref xBu) = some (.type "type"))
    (kcBu : PySem.W.keepIn K (.ref xBu) = true)
    (iBu : PySem.W.findIn K (.ref xBu) "__init__" = some (some (.ref gBu)))
    (tBu : PySem.W.typeIn K (.ref gBu) = some (.type "function"))
    (noBu : PySem.W.findIn K (.ref xBu) "value" = some none)
    (liBu : K.lookup gBu = some ⟨ocBu, odBu, .func (PySem.W.fnOf "__init__" "BadBudget.__init__" (defArgs i_BadBudget) (defBody i_BadBudget) (defScope i_BadBudget) .none kVBu dcBu pmBu anBu cdBu ctBu), slBu⟩)
    (ciBu : PySem.W.codeIn K cdBu "BadBudget.__init__" = true)
    (kiBu : PySem.W.keepIn K (.ref gBu) = true)
    (hgBu : PySem.W.findIn K (.ref xBu) "__getattribute__" = some (some (.builtin "BaseException.__getattribute__")))
    (hkBu : PySem.W.findIn K (.ref xBu) "__getattr__" = some none)
    (hdBu : PySem.W.hasDictIn K xBu = true)
    (haBu : PySem.W.findIn K (.ref xBu) "__class__" = some (some (.builtin "object.__class__")))
    (hmBu : PySem.W.mroIn K xBu (.type "object") = some true)
    (seBuE : PySem.W.subIn K (.ref xBu) (.ref xE) = some true)
    (lRe : K.lookup xRe = some (excClassObj nmRe qRe xRe nRe bsRe bmRe true snRe subRe abRe colRe ddRe u0Re u1Re u2Re u3Re u5Re "ValueError.__new__"))
    (vRe : PySem.HandSPX.refsVE bmRe = true)
    (saRe : PySem.W.findIn K (.ref xRe) "__setattr__" = some (some (.builtin "object.__setattr__")))
    (exRe : PySem.W.subIn K (.ref xRe) (.type "BaseException") = some true)
    (tyRe : PySem.W.typeIn K (.ref xRe) = some (.type "type"))
    (kcRe : PySem.W.keepIn K (.ref xRe) = true)
    (iRe : PySem.W.findIn K (.ref xRe) "__init__" = some (some (.ref gRe)))
    (tRe : PySem.W.typeIn K (.ref gRe) = some (.type "function"))
    (noRe : PySem.W.findIn K (.ref xRe) "value" = some none)
    (liRe : K.lookup gRe = some ⟨ocRe, odRe, .func (PySem.W.fnOf "__init__" "Refused.__init__" (defArgs i_Refused) (defBody i_Refused) (defScope i_Refused) .none kVRe dcRe pmRe anRe cdRe ctRe), slRe⟩)
    (ciRe : PySem.W.codeIn K cdRe "Refused.__init__" = true)
    (kiRe : PySem.W.keepIn K (.ref gRe) = true)
    (hgRe : PySem.W.findIn K (.ref xRe) "__getattribute__" = some (some (.builtin "BaseException.__getattribute__")))
    (hkRe : PySem.W.findIn K (.ref xRe) "__getattr__" = some none)
    (hdRe : PySem.W.hasDictIn K xRe = true)
    (haRe : PySem.W.findIn K (.ref xRe) "__class__" = some (some (.builtin "object.__class__")))
    (hmRe : PySem.W.mroIn K xRe (.type "object") = some true)
    (seReE : PySem.W.subIn K (.ref xRe) (.ref xE) = some true)
    (lTx : K.lookup xTx = some (excClassObj nmTx qTx xTx nTx bsTx bmTx true snTx subTx abTx colTx ddTx u0Tx u1Tx u2Tx u3Tx u5Tx "ValueError.__new__"))
    (vTx : PySem.HandSPX.refsVE bmTx = true)
    (saTx : PySem.W.findIn K (.ref xTx) "__setattr__" = some (some (.builtin "object.__setattr__")))
    (exTx : PySem.W.subIn K (.ref xTx) (.type "BaseException") = some true)
    (tyTx : PySem.W.typeIn K (.ref xTx) = some (.type "type"))
    (kcTx : PySem.W.keepIn K (.ref xTx) = true)
    (iTx : PySem.W.findIn K (.ref xTx) "__init__" = some (some (.ref gTx)))
    (tTx : PySem.W.typeIn K (.ref gTx) = some (.type "function"))
    (noTx : PySem.W.findIn K (.ref xTx) "value" = some none)
    (liTx : K.lookup gTx = some ⟨ocTx, odTx, .func (PySem.W.fnOf "__init__" "BadText.__init__" (defArgs i_BadText) (defBody i_BadText) (defScope i_BadText) .none kVTx dcTx pmTx anTx cdTx ctTx), slTx⟩)
    (ciTx : PySem.W.codeIn K cdTx "BadText.__init__" = true)
    (kiTx : PySem.W.keepIn K (.ref gTx) = true)
    (hgTx : PySem.W.findIn K (.ref xTx) "__getattribute__" = some (some (.builtin "BaseException.__getattribute__")))
    (hkTx : PySem.W.findIn K (.ref xTx) "__getattr__" = some none)
    (hdTx : PySem.W.hasDictIn K xTx = true)
    (haTx : PySem.W.findIn K (.ref xTx) "__class__" = some (some (.builtin "object.__class__")))
    (hmTx : PySem.W.mroIn K xTx (.type "object") = some true)
    (seTxE : PySem.W.subIn K (.ref xTx) (.ref xE) = some true)
    (kTxTx : PySem.W.kitOne K (.ref xTx) (.ref xTx) = some true)
    (kATx : PySem.W.kitAny K (.ref xTx) [.ref xRe, .ref xNs, .ref xNa, .ref xCm] = some false)
    (aFu : PySem.W.nsIn K mainGlobals "FullLink" = some (some (.ref xFu)))
    (xxFu : PySem.W.excIn K xFu [.type "ValueError", .type "Exception", .type "BaseException", .type "object"] "ValueError.__new__" = true)
    (kcFu : PySem.W.keepIn K (.ref xFu) = true)
    (exFu : PySem.W.subIn K (.ref xFu) (.type "BaseException") = some true)
    (tyFu : PySem.W.typeIn K (.ref xFu) = some (.type "type"))
    (seRR : PySem.W.subIn K (.ref xRe) (.ref xRe) = some true)
    : ∃ (fd : FuncData) (cs : List (Addr × Addr)) (sp : Sp), (∀ t ∈ cs, h.get? t.2 = some { cls := .none, data := .fields #[] }) ∧ (∀ t ∈ cs, K.lookup t.2 = none) ∧ (∀ t ∈ cs, PySem.W.CodeHd h t.1 t.2) ∧ (∀ (s : Shared) (u : Value), BindsTo s fd ⟨[u], []⟩ [("_law_script", u)]) ∧
        (∀ (H : Hp) (a : Addr) (ns : List Int), ns.length ≤ 63 → (∀ t ∈ cs, H t.2 = some (.tbl #[])) → SqL K H a (ns.map V.int) → sp [.ref a] H (fun v _ => v = .bl true) fun _ _ _ => False) ∧
        ∀ base : Heap, K.In base → base.Ns mainGlobals mg → (∀ t ∈ cs, TabB base mg t.1 t.2) → FnG l.prog w K mg base CX0 15 fa fd ["_law_script"] sp := by
  have e := hfa.symm.trans (PySem.W.mg_of KI G a42)
  cases e
  have m_isinstance := PySem.W.mg_none_of KI G z_isinstance
  have m_int := PySem.W.mg_none_of KI G z_int
  have m_bool := PySem.W.mg_none_of KI G z_bool
  have m_str := PySem.W.mg_none_of KI G z_str
  have m_len := PySem.W.mg_none_of KI G z_len
  have m_all := PySem.W.mg_none_of KI G z_all
  have m_range := PySem.W.mg_none_of KI G z_range
  have m_tuple := PySem.W.mg_none_of KI G z_tuple
  have m_sorted := PySem.W.mg_none_of KI G z_sorted
  have m_enumerate := PySem.W.mg_none_of KI G z_enumerate
  have m_list := PySem.W.mg_none_of KI G z_list
  have m_dict := PySem.W.mg_none_of KI G z_dict
  have m_abs := PySem.W.mg_none_of KI G z_abs
  have m_repr := PySem.W.mg_none_of KI G z_repr
  have m_max := PySem.W.mg_none_of KI G z_max
  have m_min := PySem.W.mg_none_of KI G z_min
  obtain ⟨tk_MOST_CREDITS, mg_MOST_CREDITS⟩ := o_MOST_CREDITS
  obtain ⟨tk_MOST_BUDGET, mg_MOST_BUDGET⟩ := o_MOST_BUDGET
  have mg_MOST_LETTERS := PySem.W.mg_of KI G g_MOST_LETTERS
  have mg_LETTERS := PySem.W.mg_of KI G g_LETTERS
  have mg_MOST_SENDERS := PySem.W.mg_of KI G g_MOST_SENDERS
  have mg_MOST_DIGITS := PySem.W.mg_of KI G g_MOST_DIGITS
  have mg_DIGITS := PySem.W.mg_of KI G g_DIGITS
  have F0 := fun_mk (st := s_is_integer) l0 c0 k0
  have b0 := F0.binds (ps := ["thing"]) fun _ _ _ _ _ _ us hl => match us, hl with | [_], _ => rfl
  have F1 := fun_mk (st := s_is_between) l1 c1 k1
  have b1 := F1.binds (ps := ["thing", "least", "most"]) fun _ _ _ _ _ _ us hl => match us, hl with | [_, _, _], _ => rfl
  have F2 := fun_mk (st := s_is_amount) l2 c2 k2
  have b2 := F2.binds (ps := ["thing"]) fun _ _ _ _ _ _ us hl => match us, hl with | [_], _ => rfl
  have F3 := fun_mk (st := s_is_budget) l3 c3 k3
  have b3 := F3.binds (ps := ["thing"]) fun _ _ _ _ _ _ us hl => match us, hl with | [_], _ => rfl
  have F4 := fun_mk (st := s_is_name) l4 c4 k4
  have b4 := F4.binds (ps := ["thing"]) fun _ _ _ _ _ _ us hl => match us, hl with | [_], _ => rfl
  have F5 := fun_mk (st := s_thresholds) l5 c5 k5
  have b5 := F5.binds (ps := ["count", "budget"]) fun _ _ _ _ _ _ us hl => match us, hl with | [_, _], _ => rfl
  have F6 := fun_mk (st := s_sums) l6 c6 k6
  have b6 := F6.binds (ps := ["balances"]) fun _ _ _ _ _ _ us hl => match us, hl with | [_], _ => rfl
  have F7 := fun_mk (st := s_gap) l7 c7 k7
  have b7 := F7.binds (ps := ["balances", "budget"]) fun _ _ _ _ _ _ us hl => match us, hl with | [_, _], _ => rfl
  have F8 := fun_mk (st := s_poorest_first) l8 c8 k8
  have b8 := F8.binds (ps := ["balances", "senders"]) fun _ _ _ _ _ _ us hl => match us, hl with | [_, _], _ => rfl
  have F9 := fun_mk (st := s_weak_set) l9 c9 k9
  have b9 := F9.binds (ps := ["balances", "budget"]) fun _ _ _ _ _ _ us hl => match us, hl with | [_, _], _ => rfl
  have F10 := fun_mk (st := s_require_amount) l10 c10 k10
  have b10 := F10.binds (ps := ["amount"]) fun _ _ _ _ _ _ us hl => match us, hl with | [_], _ => rfl
  have F11 := fun_mk (st := s_require_budget) l11 c11 k11
  have b11 := F11.binds (ps := ["budget"]) fun _ _ _ _ _ _ us hl => match us, hl with | [_], _ => rfl
  have F12 := fun_mk (st := s_weak_names) l12 c12 k12
  have b12 := F12.binds (ps := ["budget", "balances"]) fun _ _ _ _ _ _ us hl => match us, hl with | [_, _], _ => rfl
  have F13 := fun_mk (st := s_Link_require_known) l13 c13 k13
  have b13 := F13.binds (ps := ["self", "name"]) fun _ _ _ _ _ _ us hl => match us, hl with | [_, _], _ => rfl
  have F14 := fun_mk (st := s_Link_keep) l14 c14 k14
  have b14 := F14.binds (ps := ["self", "budget", "balances"]) fun _ _ _ _ _ _ us hl => match us, hl with | [_, _, _], _ => rfl
  have F15 := fun_mk (st := s_Link_change) l15 c15 k15
  have b15 := F15.binds (ps := ["self", "budget", "balances"]) fun _ _ _ _ _ _ us hl => match us, hl with | [_, _, _], _ => rfl
  have F16 := fun_mk (st := s_Link___init__) l16 c16 k16
  have b16 := F16.binds (ps := ["self", "budget"]) fun _ _ _ _ _ _ us hl => match us, hl with | [_, _], _ => rfl
  have F17 := fun_mk (st := s_Link_enter) l17 c17 k17
  have b17 := F17.binds (ps := ["self", "name", "balance"]) fun _ _ _ _ _ _ us hl => match us, hl with | [_, _, _], _ => rfl
  have F18 := fun_mk (st := s_Link_names) l18 c18 k18
  have b18 := F18.binds (ps := ["self"]) fun _ _ _ _ _ _ us hl => match us, hl with | [_], _ => rfl
  have F19 := fun_mk (st := s_Link_balance_of) l19 c19 k19
  have b19 := F19.binds (ps := ["self", "name"]) fun _ _ _ _ _ _ us hl => match us, hl with | [_, _], _ => rfl
  have F20 := fun_mk (st := s_Link_current_budget) l20 c20 k20
  have b20 := F20.binds (ps := ["self"]) fun _ _ _ _ _ _ us hl => match us, hl with | [_], _ => rfl
  have F21 := fun_mk (st := s_Link_changes) l21 c21 k21
  have b21 := F21.binds (ps := ["self"]) fun _ _ _ _ _ _ us hl => match us, hl with | [_], _ => rfl
  have F22 := fun_mk (st := s_Link_clone) l22 c22 k22
  have b22 := F22.binds (ps := ["self"]) fun _ _ _ _ _ _ us hl => match us, hl with | [_], _ => rfl
  have F23 := fun_mk (st := s_read_number) l23 c23 k23
  have b23 := F23.binds (ps := ["word", "least", "most"]) fun _ _ _ _ _ _ us hl => match us, hl with | [_, _, _], _ => rfl
  have F24 := fun_mk (st := s_read_amount) l24 c24 k24
  have b24 := F24.binds (ps := ["word"]) fun _ _ _ _ _ _ us hl => match us, hl with | [_], _ => rfl
  have F25 := fun_mk (st := s_read_budget) l25 c25 k25
  have b25 := F25.binds (ps := ["word"]) fun _ _ _ _ _ _ us hl => match us, hl with | [_], _ => rfl
  have F26 := fun_mk (st := s_read_numbers) l26 c26 k26
  have b26 := F26.binds (ps := ["words"]) fun _ _ _ _ _ _ us hl => match us, hl with | [_], _ => rfl
  have F27 := fun_mk (st := s_show_balances) l27 c27 k27
  have b27 := F27.binds (ps := ["balances"]) fun _ _ _ _ _ _ us hl => match us, hl with | [_], _ => rfl
  have F28 := fun_mk (st := s_read_balances) l28 c28 k28
  have b28 := F28.binds (ps := ["text"]) fun _ _ _ _ _ _ us hl => match us, hl with | [_], _ => rfl
  have F29 := fun_mk (st := s_show_link) l29 c29 k29
  have b29 := F29.binds (ps := ["link"]) fun _ _ _ _ _ _ us hl => match us, hl with | [_], _ => rfl
  have F30 := fun_mk (st := s_read_budget_row) l30 c30 k30
  have b30 := F30.binds (ps := ["row"]) fun _ _ _ _ _ _ us hl => match us, hl with | [_], _ => rfl
  have F31 := fun_mk (st := s_read_sender_row) l31 c31 k31
  have b31 := F31.binds (ps := ["row"]) fun _ _ _ _ _ _ us hl => match us, hl with | [_], _ => rfl
  have F32 := fun_mk (st := s_read_senders) l32 c32 k32
  have b32 := F32.binds (ps := ["rows"]) fun _ _ _ _ _ _ us hl => match us, hl with | [_], _ => rfl
  have F33 := fun_mk (st := s_read_link) l33 c33 k33
  have b33 := F33.binds (ps := ["text"]) fun _ _ _ _ _ _ us hl => match us, hl with | [_], _ => rfl
  have F34 := fun_mk (st := s__law_take) l34 c34 k34
  have b34 := F34.binds (ps := ["_law_hand_here", "_law_many"]) fun _ _ _ _ _ _ us hl => match us, hl with | [_, _], _ => rfl
  have F35 := fun_mk (st := s__law_of) l35 c35 k35
  have b35 := F35.binds (ps := ["_law_hand_here", "_law_some"]) fun _ _ _ _ _ _ us hl => match us, hl with | [_, _], _ => rfl
  have F36 := fun_mk (st := s__law_hand) l36 c36 k36
  have b36 := F36.binds (ps := ["_law_script", "_law_k"]) fun _ _ _ _ _ _ us hl => match us, hl with | [_, _], _ => rfl
  have F37 := fun_mk (st := s__law_nested) l37 c37 k37
  have b37 := F37.binds (ps := ["_law_hand_here"]) fun _ _ _ _ _ _ us hl => match us, hl with | [_], _ => rfl
  have F38 := fun_mk (st := s__law_short) l38 c38 k38
  have b38 := F38.binds (ps := ["_law_hand_here"]) fun _ _ _ _ _ _ us hl => match us, hl with | [_], _ => rfl
  have F39 := fun_mk (st := s__law_read) l39 c39 k39
  have b39 := F39.binds (ps := ["_law_call"]) fun _ _ _ _ _ _ us hl => match us, hl with | [_], _ => rfl
  have F40 := fun_mk (st := s__law_are_numbers) l40 c40 k40
  have b40 := F40.binds (ps := ["_law_text"]) fun _ _ _ _ _ _ us hl => match us, hl with | [_], _ => rfl
  have F41 := fun_mk (st := s__law_text_right) l41 c41 k41
  have b41 := F41.binds (ps := ["_law_text"]) fun _ _ _ _ _ _ us hl => match us, hl with | [_], _ => rfl
  have F42 := fun_mk (st := s_law) l42 c42 k42
  have b42 := F42.binds (ps := ["_law_script"]) fun _ _ _ _ _ _ us hl => match us, hl with | [_], _ => rfl
  refine ⟨PySem.W.fnOf "law" "law" (defArgs s_law) (defBody s_law) (defScope s_law) .none kV42 dc42 pm42 an42 cd42 ct42, [(cc8, pp8), (cc41, pp41), (cc42, pp42)], (sp_law K [(pp8, qLam "poorest_first"), (pp41, qLam "_law_text_right"), (pp42, qLam "law")]), (List.forall_mem_cons.mpr ⟨y8, (List.forall_mem_cons.mpr ⟨y41, (List.forall_mem_cons.mpr ⟨y42, (List.forall_mem_nil _)⟩)⟩)⟩), (List.forall_mem_cons.mpr ⟨n8, (List.forall_mem_cons.mpr ⟨n41, (List.forall_mem_cons.mpr ⟨n42, (List.forall_mem_nil _)⟩)⟩)⟩), (List.forall_mem_cons.mpr ⟨PySem.W.codeHd_of_K KI h8, (List.forall_mem_cons.mpr ⟨PySem.W.codeHd_of_K KI h41, (List.forall_mem_cons.mpr ⟨PySem.W.codeHd_of_K KI h42, (List.forall_mem_nil _)⟩)⟩)⟩), fun s v => .of_eq rfl, fun H a ns hl hT hS => ⟨a, ns, rfl, hS, hl, ?_, fun _ => rfl⟩, fun base _ _ hTB => ?_⟩
  · exact (List.forall_mem_cons.mpr ⟨LamX.TabS.nil (hT (cc8, pp8) (List.mem_cons_self ..)), (List.forall_mem_cons.mpr ⟨LamX.TabS.nil (hT (cc41, pp41) (List.mem_cons_of_mem _ (List.mem_cons_self ..))), (List.forall_mem_cons.mpr ⟨LamX.TabS.nil (hT (cc42, pp42) (List.mem_cons_of_mem _ (List.mem_cons_of_mem _ (List.mem_cons_self ..)))), (List.forall_mem_nil _)⟩)⟩)⟩)
  generalize hTT : ([(pp8, qLam "poorest_first"), (pp41, qLam "_law_text_right"), (pp42, qLam "law")] : List (Addr × Str)) = T
  have tb8 := hTB (cc8, pp8) (List.mem_cons_self ..)
  have mt8 : (pp8, qLam "poorest_first") ∈ T := by rw [← hTT]; exact (List.mem_cons_self ..)
  have ut8 : ∀ r ∈ T, r.1 = pp8 → r.2 = qLam "poorest_first" := by rw [← hTT]; exact (List.forall_mem_cons.mpr ⟨fun _ => rfl, (List.forall_mem_cons.mpr ⟨fun z => absurd z (by simpa using d41_8), (List.forall_mem_cons.mpr ⟨fun z => absurd z (by simpa using d42_8), (List.forall_mem_nil _)⟩)⟩)⟩)
  have tb41 := hTB (cc41, pp41) (List.mem_cons_of_mem _ (List.mem_cons_self ..))
  have mt41 : (pp41, qLam "_law_text_right") ∈ T := by rw [← hTT]; exact (List.mem_cons_of_mem _ (List.mem_cons_self ..))
  have ut41 : ∀ r ∈ T, r.1 = pp41 → r.2 = qLam "_law_text_right" := by rw [← hTT]; exact (List.forall_mem_cons.mpr ⟨fun z => absurd z.symm (by simpa using d41_8), (List.forall_mem_cons.mpr ⟨fun _ => rfl, (List.forall_mem_cons.mpr ⟨fun z => absurd z (by simpa using d42_41), (List.forall_mem_nil _)⟩)⟩)⟩)
  have tb42 := hTB (cc42, pp42) (List.mem_cons_of_mem _ (List.mem_cons_of_mem _ (List.mem_cons_self ..)))
  have mt42 : (pp42, qLam "law") ∈ T := by rw [← hTT]; exact (List.mem_cons_of_mem _ (List.mem_cons_of_mem _ (List.mem_cons_self ..)))
  have ut42 : ∀ r ∈ T, r.1 = pp42 → r.2 = qLam "law" := by rw [← hTT]; exact (List.forall_mem_cons.mpr ⟨fun z => absurd z.symm (by simpa using d42_8), (List.forall_mem_cons.mpr ⟨fun z => absurd z.symm (by simpa using d42_41), (List.forall_mem_cons.mpr ⟨fun _ => rfl, (List.forall_mem_nil _)⟩)⟩)⟩)
  have FINa := fun_mk (st := i_BadName) liNa ciNa kiNa
  have bINa := FINa.binds (ps := ["self", "value"]) fun _ _ _ _ _ _ us hl => match us, hl with | [_, _], _ => rfl
  have oxNa : OexC K xNa := ⟨⟨nmNa, qNa, nNa, bsNa, bmNa, snNa, subNa, abNa, colNa, ddNa, u0Na, u1Na, u2Na, u3Na, u5Na, lNa, vNa⟩, saNa, exNa, tyNa, kcNa⟩
  have TNa : Told l.prog w K mg base "BadName" xNa := ⟨gNa, _, ⟨oxNa, PySem.W.mg_of KI G aNa, iNa, tNa, bINa, noNa⟩, init_BadName FINa oxNa noNa⟩
  have eCNa : ExcC K xNa := ⟨hgNa, hkNa, exNa, hdNa, haNa, xn_, xu_, hmNa⟩
  have teNaE := PySem.W.exm_ref exE hdE tyE seNaE
  have FITa := fun_mk (st := i_TakenName) liTa ciTa kiTa
  have bITa := FITa.binds (ps := ["self", "value"]) fun _ _ _ _ _ _ us hl => match us, hl with | [_, _], _ => rfl
  have oxTa : OexC K xTa := ⟨⟨nmTa, qTa, nTa, bsTa, bmTa, snTa, subTa, abTa, colTa, ddTa, u0Ta, u1Ta, u2Ta, u3Ta, u5Ta, lTa, vTa⟩, saTa, exTa, tyTa, kcTa⟩
  have TTa : Told l.prog w K mg base "TakenName" xTa := ⟨gTa, _, ⟨oxTa, PySem.W.mg_of KI G aTa, iTa, tTa, bITa, noTa⟩, init_TakenName FITa oxTa noTa⟩
  have eCTa : ExcC K xTa := ⟨hgTa, hkTa, exTa, hdTa, haTa, xn_, xu_, hmTa⟩
  have teTaE := PySem.W.exm_ref exE hdE tyE seTaE
  have FIUn := fun_mk (st := i_UnknownName) liUn ciUn kiUn
  have bIUn := FIUn.binds (ps := ["self", "value"]) fun _ _ _ _ _ _ us hl => match us, hl with | [_, _], _ => rfl
  have oxUn : OexC K xUn := ⟨⟨nmUn, qUn, nUn, bsUn, bmUn, snUn, subUn, abUn, colUn, ddUn, u0Un, u1Un, u2Un, u3Un, u5Un, lUn, vUn⟩, saUn, exUn, tyUn, kcUn⟩
  have TUn : Told l.prog w K mg base "UnknownName" xUn := ⟨gUn, _, ⟨oxUn, PySem.W.mg_of KI G aUn, iUn, tUn, bIUn, noUn⟩, init_UnknownName FIUn oxUn noUn⟩
  have eCUn : ExcC K xUn := ⟨hgUn, hkUn, exUn, hdUn, haUn, xn_, xu_, hmUn⟩
  have teUnE := PySem.W.exm_ref exE hdE tyE seUnE
  have FIAm := fun_mk (st := i_BadAmount) liAm ciAm kiAm
  have bIAm := FIAm.binds (ps := ["self", "value"]) fun _ _ _ _ _ _ us hl => match us, hl with | [_, _], _ => rfl
  have oxAm : OexC K xAm := ⟨⟨nmAm, qAm, nAm, bsAm, bmAm, snAm, subAm, abAm, colAm, ddAm, u0Am, u1Am, u2Am, u3Am, u5Am, lAm, vAm⟩, saAm, exAm, tyAm, kcAm⟩
  have TAm : Told l.prog w K mg base "BadAmount" xAm := ⟨gAm, _, ⟨oxAm, PySem.W.mg_of KI G aAm, iAm, tAm, bIAm, noAm⟩, init_BadAmount FIAm oxAm noAm⟩
  have eCAm : ExcC K xAm := ⟨hgAm, hkAm, exAm, hdAm, haAm, xn_, xu_, hmAm⟩
  have teAmE := PySem.W.exm_ref exE hdE tyE seAmE
  have FIBu := fun_mk (st := i_BadBudget) liBu ciBu kiBu
  have bIBu := FIBu.binds (ps := ["self", "value"]) fun _ _ _ _ _ _ us hl => match us, hl with | [_, _], _ => rfl
  have oxBu : OexC K xBu := ⟨⟨nmBu, qBu, nBu, bsBu, bmBu, snBu, subBu, abBu, colBu, ddBu, u0Bu, u1Bu, u2Bu, u3Bu, u5Bu, lBu, vBu⟩, saBu, exBu, tyBu, kcBu⟩
  have TBu : Told l.prog w K mg base "BadBudget" xBu := ⟨gBu, _, ⟨oxBu, PySem.W.mg_of KI G aBu, iBu, tBu, bIBu, noBu⟩, init_BadBudget FIBu oxBu noBu⟩
  have eCBu : ExcC K xBu := ⟨hgBu, hkBu, exBu, hdBu, haBu, xn_, xu_, hmBu⟩
  have teBuE := PySem.W.exm_ref exE hdE tyE seBuE
  have FIRe := fun_mk (st := i_Refused) liRe ciRe kiRe
  have bIRe := FIRe.binds (ps := ["self", "value"]) fun _ _ _ _ _ _ us hl => match us, hl with | [_, _], _ => rfl
  have oxRe : OexC K xRe := ⟨⟨nmRe, qRe, nRe, bsRe, bmRe, snRe, subRe, abRe, colRe, ddRe, u0Re, u1Re, u2Re, u3Re, u5Re, lRe, vRe⟩, saRe, exRe, tyRe, kcRe⟩
  have TRe : Told l.prog w K mg base "Refused" xRe := ⟨gRe, _, ⟨oxRe, PySem.W.mg_of KI G aRe, iRe, tRe, bIRe, noRe⟩, init_Refused FIRe oxRe noRe⟩
  have eCRe : ExcC K xRe := ⟨hgRe, hkRe, exRe, hdRe, haRe, xn_, xu_, hmRe⟩
  have teReE := PySem.W.exm_ref exE hdE tyE seReE
  have FITx := fun_mk (st := i_BadText) liTx ciTx kiTx
  have bITx := FITx.binds (ps := ["self", "value"]) fun _ _ _ _ _ _ us hl => match us, hl with | [_, _], _ => rfl
  have oxTx : OexC K xTx := ⟨⟨nmTx, qTx, nTx, bsTx, bmTx, snTx, subTx, abTx, colTx, ddTx, u0Tx, u1Tx, u2Tx, u3Tx, u5Tx, lTx, vTx⟩, saTx, exTx, tyTx, kcTx⟩
  have TTx : Told l.prog w K mg base "BadText" xTx := ⟨gTx, _, ⟨oxTx, PySem.W.mg_of KI G aTx, iTx, tTx, bITx, noTx⟩, init_BadText FITx oxTx noTx⟩
  have eCTx : ExcC K xTx := ⟨hgTx, hkTx, exTx, hdTx, haTx, xn_, xu_, hmTx⟩
  have teTxE := PySem.W.exm_ref exE hdE tyE seTxE
  have y_Fu : ExA K mg "FullLink" xFu := ⟨xxFu, PySem.W.mg_of KI G aFu, kcFu, exFu, tyFu⟩
  obtain ⟨C, eC⟩ : ∃ C : Addr, C = xLink := ⟨_, rfl⟩
  obtain ⟨X, eX⟩ : ∃ X : LkX, X = ⟨xNa, xTa, xUn, xAm, xBu, xFu, xFu, xRe, xFu, xFu⟩ := ⟨_, rfl⟩
  have LC : LinkC K C := by
    subst eC
    exact ⟨⟨pgLink, hdLink, poLink, saLink⟩, nLink_budget, nLink_balances, nLink_past⟩
  subst eC
  have t_BadName : Told l.prog w K mg base "BadName" X.name := by subst eX; exact TNa
  have t_TakenName : Told l.prog w K mg base "TakenName" X.taken := by subst eX; exact TTa
  have t_UnknownName : Told l.prog w K mg base "UnknownName" X.unknown := by subst eX; exact TUn
  have t_BadAmount : Told l.prog w K mg base "BadAmount" X.amount := by subst eX; exact TAm
  have t_BadBudget : Told l.prog w K mg base "BadBudget" X.budget := by subst eX; exact TBu
  have t_Refused : Told l.prog w K mg base "Refused" X.refused := by subst eX; exact TRe
  have x_FullLink : ExA K mg "FullLink" X.full := by subst eX; exact y_Fu
  obtain ⟨BT, eBT⟩ : ∃ BT : Addr, BT = xTx := ⟨_, rfl⟩
  have t_BadText : Told l.prog w K mg base "BadText" BT := by subst eBT; exact TTx
  have h_BadText : ToldH l.prog w K mg base "BadText" BT := by subst eBT; exact ⟨gTx, _, ⟨oxTx, PySem.W.mg_of KI G aTx, iTx, tTx, bITx, noTx⟩, inith_BadText FITx oxTx noTx⟩
  have x_Refused : mg "Refused" = some (.ref X.refused) := by subst eX; exact PySem.W.mg_of KI G aRe
  have r_Refused : PySem.W.exmOne K (.ref X.refused) (.ref X.refused) = some true := by subst eX; exact PySem.W.exm_ref exRe hdRe tyRe seRR
  have C_is_integer : Cl l.prog w K mg base CX0 1 "is_integer" 1 (sp_is_integer K) := ⟨⟨_, _, _, ok_is_integer (k := 0) F0 m_isinstance m_int m_bool, PySem.W.mg_of KI G a0, k0, b0⟩⟩
  have C_is_between : Cl l.prog w K mg base CX0 2 "is_between" 3 (sp_is_between K) := ⟨⟨_, _, _, ok_is_between (k := 0) F1 C_is_integer, PySem.W.mg_of KI G a1, k1, b1⟩⟩
  have C_is_amount : Cl l.prog w K mg base CX0 3 "is_amount" 1 (sp_is_amount K) := ⟨⟨_, _, _, ok_is_amount (k := 0) F2 mg_MOST_CREDITS C_is_between, PySem.W.mg_of KI G a2, k2, b2⟩⟩
  have C_is_budget : Cl l.prog w K mg base CX0 3 "is_budget" 1 (sp_is_budget K) := ⟨⟨_, _, _, ok_is_budget (k := 0) F3 mg_MOST_BUDGET C_is_between, PySem.W.mg_of KI G a3, k3, b3⟩⟩
  have C_is_name : Cl l.prog w K mg base CX0 1 "is_name" 1 (sp_is_name K) := ⟨⟨_, _, _, ok_is_name (k := 0) F4 m_isinstance m_str m_len m_all mg_MOST_LETTERS mg_LETTERS, PySem.W.mg_of KI G a4, k4, b4⟩⟩
  have C_thresholds : Cl l.prog w K mg base CX0 1 "thresholds" 2 (sp_thresholds K) := ⟨⟨_, _, _, ok_thresholds (k := 0) F5 m_range m_tuple, PySem.W.mg_of KI G a5, k5, b5⟩⟩
  have C_sums : Cl l.prog w K mg base CX0 1 "sums" 1 (sp_sums K) := ⟨⟨_, _, _, ok_sums (k := 0) F6 m_sorted m_tuple, PySem.W.mg_of KI G a6, k6, b6⟩⟩
  have C_gap : Cl l.prog w K mg base CX0 2 "gap" 2 (sp_gap K) := ⟨⟨_, _, _, ok_gap (k := 0) F7 m_enumerate m_len C_thresholds C_sums, PySem.W.mg_of KI G a7, k7, b7⟩⟩
  have C_poorest_first : Cl l.prog w K mg base CX0 4 "poorest_first" 2 (sp_poorest_first K T) := ⟨⟨_, _, _, ok_poorest_first (k := 0) F8 q8 tb8 mt8 ut8 m_sorted, PySem.W.mg_of KI G a8, k8, b8⟩⟩
  have C_weak_set : Cl l.prog w K mg base CX0 5 "weak_set" 2 (sp_weak_set K T) := ⟨⟨_, _, _, ok_weak_set (k := 0) F9 m_list m_range m_len m_tuple m_sorted C_gap C_poorest_first, PySem.W.mg_of KI G a9, k9, b9⟩⟩
  have C_require_amount : Cl l.prog w K mg base (L2.CX l.prog w) 4 "require_amount" 1 (sp_require_amount K X) := ⟨⟨_, _, _, ok_require_amount (k := 0) F10 t_BadAmount C_is_amount, PySem.W.mg_of KI G a10, k10, b10⟩⟩
  have C_require_budget : Cl l.prog w K mg base (L2.CX l.prog w) 4 "require_budget" 1 (sp_require_budget K X) := ⟨⟨_, _, _, ok_require_budget (k := 0) F11 t_BadBudget C_is_budget, PySem.W.mg_of KI G a11, k11, b11⟩⟩
  have C_weak_names : Cl l.prog w K mg base CX0 6 "weak_names" 2 (sp_weak_names K T) := ⟨⟨_, _, _, ok_weak_names (k := 0) F12 m_sorted m_tuple C_weak_set, PySem.W.mg_of KI G a12, k12, b12⟩⟩
  have M_require_known : ClM l.prog w K mg base (L2.CX l.prog w) 3 C "require_known" (sp_Link_require_known K C X) := ⟨⟨_, _, _, ok_Link_require_known (k := 0) F13 LC t_UnknownName C_is_name, ⟨a13, j13, k13⟩, b13⟩⟩
  have M_keep : ClM l.prog w K mg base CX0 1 C "keep" (sp_Link_keep C T) := ⟨⟨_, _, _, ok_Link_keep (k := 0) F14 LC, ⟨a14, j14, k14⟩, b14⟩⟩
  have M_change : ClM l.prog w K mg base (L2.CX l.prog w) 7 C "change" (sp_Link_change K C T X) := ⟨⟨_, _, _, ok_Link_change (k := 0) F15 LC t_Refused C_weak_names M_keep, ⟨a15, j15, k15⟩, b15⟩⟩
  have N_Link : ClN l.prog w K mg base (L2.CX l.prog w) 5 "Link" C (sp_Link___init__ K C X) := ⟨PySem.W.mg_of KI G aLink, ⟨_, _, _, ok_Link___init__ (k := 0) F16 LC C_require_budget, ⟨mkLink, a16, j16, kcLink⟩, b16⟩⟩
  have M_enter : ClM l.prog w K mg base (L2.CX l.prog w) 8 C "enter" (sp_op K C T X 2 (op2 enterF)) := ⟨⟨_, _, _, ok_Link_enter (k := 0) F17 LC m_len mg_MOST_SENDERS t_BadName t_TakenName x_FullLink C_is_name C_require_amount M_change, ⟨a17, j17, k17⟩, b17⟩⟩
  have M_names : ClM l.prog w K mg base CX0 1 C "names" (sp_Link_names K C) := ⟨⟨_, _, _, ok_Link_names (k := 0) F18 LC m_tuple m_sorted, ⟨a18, j18, k18⟩, b18⟩⟩
  have M_balance_of : ClM l.prog w K mg base (L2.CX l.prog w) 4 C "balance_of" (sp_Link_balance_of K C X) := ⟨⟨_, _, _, ok_Link_balance_of (k := 0) F19 LC M_require_known, ⟨a19, j19, k19⟩, b19⟩⟩
  have M_current_budget : ClM l.prog w K mg base CX0 1 C "current_budget" (sp_Link_current_budget C) := ⟨⟨_, _, _, ok_Link_current_budget (k := 0) F20 LC, ⟨a20, j20, k20⟩, b20⟩⟩
  have M_changes : ClM l.prog w K mg base CX0 1 C "changes" (sp_Link_changes C) := ⟨⟨_, _, _, ok_Link_changes (k := 0) F21 LC m_len, ⟨a21, j21, k21⟩, b21⟩⟩
  have M_clone : ClM l.prog w K mg base CX0 7 C "clone" (sp_Link_clone C) := ⟨⟨_, _, _, ok_Link_clone (k := 0) F22 LC m_dict N_Link, ⟨a22, j22, k22⟩, b22⟩⟩
  have C_read_number : Cl l.prog w K mg base CX0 1 "read_number" 3 (sp_read_number K) := ⟨⟨_, _, _, ok_read_number (k := 0) F23 m_len m_all m_int mg_MOST_DIGITS mg_DIGITS, PySem.W.mg_of KI G a23, k23, b23⟩⟩
  have C_read_amount : Cl l.prog w K mg base CX0 2 "read_amount" 1 (sp_read_amount K) := ⟨⟨_, _, _, ok_read_amount (k := 0) F24 mg_MOST_CREDITS C_read_number, PySem.W.mg_of KI G a24, k24, b24⟩⟩
  have C_read_budget : Cl l.prog w K mg base CX0 2 "read_budget" 1 (sp_read_budget K) := ⟨⟨_, _, _, ok_read_budget (k := 0) F25 mg_MOST_BUDGET C_read_number, PySem.W.mg_of KI G a25, k25, b25⟩⟩
  have C_read_numbers : Cl l.prog w K mg base CX0 3 "read_numbers" 1 (sp_read_numbers K) := ⟨⟨_, _, _, ok_read_numbers (k := 0) F26 m_len m_tuple mg_MOST_SENDERS C_read_amount, PySem.W.mg_of KI G a26, k26, b26⟩⟩
  have C_show_balances : Cl l.prog w K mg base CX0 1 "show_balances" 1 (sp_show_balances K) := ⟨⟨_, _, _, ok_show_balances (k := 0) F27 m_str, PySem.W.mg_of KI G a27, k27, b27⟩⟩
  have C_read_balances : Cl l.prog w K mg base (L2.CX l.prog w) 4 "read_balances" 1 (sp_read_balances K BT) := ⟨⟨_, _, _, ok_read_balances (k := 0) F28 m_isinstance m_str t_BadText C_read_numbers, PySem.W.mg_of KI G a28, k28, b28⟩⟩
  have C_show_link : Cl l.prog w K mg base CX0 5 "show_link" 1 (sp_show_link K C) := ⟨⟨_, _, _, ok_show_link (k := 0) F29 LC M_names M_current_budget M_balance_of, PySem.W.mg_of KI G a29, k29, b29⟩⟩
  have C_read_budget_row : Cl l.prog w K mg base CX0 3 "read_budget_row" 1 (sp_read_budget_row K) := ⟨⟨_, _, _, ok_read_budget_row (k := 0) F30 m_len C_read_budget, PySem.W.mg_of KI G a30, k30, b30⟩⟩
  have C_read_sender_row : Cl l.prog w K mg base CX0 3 "read_sender_row" 1 (sp_read_sender_row K) := ⟨⟨_, _, _, ok_read_sender_row (k := 0) F31 m_len C_is_name C_read_amount, PySem.W.mg_of KI G a31, k31, b31⟩⟩
  have C_read_senders : Cl l.prog w K mg base (L2.CX l.prog w) 4 "read_senders" 1 (sp_read_senders K BT) := ⟨⟨_, _, _, ok_read_senders (k := 0) F32 m_enumerate mg_MOST_SENDERS t_BadText C_read_sender_row, PySem.W.mg_of KI G a32, k32, b32⟩⟩
  have M_change_N : ClM l.prog w K mg base (L2N.CX l.prog w) 7 C "change" (sp_change_N K C T X) := ⟨⟨_, _, _, ntw_Link_change (k := 0) F15 LC t_Refused C_weak_names M_keep, ⟨a15, j15, k15⟩, b15⟩⟩
  have M_enter_N : ClM l.prog w K mg base (L2N.CX l.prog w) 8 C "enter" (sp_enter_N K C T X) := ⟨⟨_, _, _, ntw_Link_enter (k := 0) F17 LC m_len mg_MOST_SENDERS C_is_name C_require_amount M_change_N, ⟨a17, j17, k17⟩, b17⟩⟩
  have C_read_link : Cl l.prog w K mg base (L2.CX l.prog w) 9 "read_link" 1 (sp_read_link K C T BT) := ⟨⟨_, _, _, ok_read_link (k := 0) F33 LC m_isinstance m_str m_len t_BadText h_BadText x_Refused r_Refused C_read_budget_row C_read_senders N_Link M_enter_N M_clone, PySem.W.mg_of KI G a33, k33, b33⟩⟩
  have C_l_take : Cl l.prog w K mg base CX0 1 "_law_take" 2 (sp_l_take K) := ⟨⟨_, _, _, ok__law_take (k := 0) F34 , PySem.W.mg_of KI G a34, k34, b34⟩⟩
  have C_l_of : Cl l.prog w K mg base CX0 2 "_law_of" 2 (sp_l_of K) := ⟨⟨_, _, _, ok__law_of (k := 0) F35 m_len C_l_take, PySem.W.mg_of KI G a35, k35, b35⟩⟩
  have C_l_hand : Cl l.prog w K mg base CX0 1 "_law_hand" 2 (sp_l_hand K) := ⟨⟨_, _, _, ok__law_hand (k := 0) F36 m_len m_abs m_int, PySem.W.mg_of KI G a36, k36, b36⟩⟩
  have C_l_nested : Cl l.prog w K mg base CX0 3 "_law_nested" 1 (sp_l_nested K) := ⟨⟨_, _, _, ok__law_nested (k := 0) F37 m_range C_l_take C_l_of, PySem.W.mg_of KI G a37, k37, b37⟩⟩
  have C_l_short : Cl l.prog w K mg base CX0 3 "_law_short" 1 (sp_l_short K) := ⟨⟨_, _, _, ok__law_short (k := 0) F38 m_range C_l_take C_l_of, PySem.W.mg_of KI G a38, k38, b38⟩⟩
  have C_l_are_numbers : Cl l.prog w K mg base CX0 1 "_law_are_numbers" 1 (sp_l_are_numbers K) := ⟨⟨_, _, _, ok__law_are_numbers (k := 0) F40 m_all m_str m_int, PySem.W.mg_of KI G a40, k40, b40⟩⟩
  have XO : OneT K BT xE xRe xNs xNa xCm := by subst eBT; exact ⟨eCTx, teTxE, noTx, kTxTx, kATx⟩
  have UT : AllT K mg BT xE xRe xNs xNa xCm := ⟨PySem.W.mg_of KI G aE, by subst eBT; exact PySem.W.mg_of KI G aTx, PySem.W.mg_of KI G aRe, PySem.W.mg_of KI G aNs, PySem.W.mg_of KI G aNa, PySem.W.mg_of KI G aCm, XO⟩
  have X_l_read : ClH l.prog w K mg base 12 "_law_read" (TTread BT) := ⟨⟨_, _, _, _, _, F39, PySem.W.mg_of KI G a39, b39, sc__law_read, rfl, .inl rfl, by decide, by decide, hands__law_read UT m_isinstance⟩⟩
  have X_l_all : ∃ BT CE CR CN CB CM : Addr, AllT K mg BT CE CR CN CB CM ∧ ClH l.prog w K mg base 12 "_law_read" (TTread BT) ∧ PkgT l.prog w K mg base C T BT := ⟨BT, xE, xRe, xNs, xNa, xCm, UT, X_l_read, ⟨C_read_balances, C_read_link⟩⟩
  have C_l_text_right : Cl l.prog w K mg base CX0 14 "_law_text_right" 1 (sp_l_text_right T) := ⟨⟨_, _, _, ok__law_text_right (k := 0) F41 LC q41 tb41 mt41 ut41 m_repr m_len m_isinstance m_int m_list X_l_all C_l_are_numbers C_show_balances C_show_link M_changes, PySem.W.mg_of KI G a41, k41, b41⟩⟩
  exact ok_law (k := 0) F42 q42 tb42 mt42 ut42 m_range m_max m_min m_len m_repr X_l_all C_l_hand C_l_nested C_l_short C_l_text_right
end Cf
open PySem PySem.W PyProof.Rows
set_option maxHeartbeats 0 in
theorem PySem.Challenge.cw_creditfloor_k61_texts_of_any_kind_holds : PySem.Challenge.rw_creditfloor_k61_texts_of_any_kind.Holds := by
  w_on; o_law; k_head; (case hw => w_witness2)
  k_fill
  refine Cf.walkL (l := PySem.Challenge.rw_creditfloor_k61_texts_of_any_kind) (n := 63) (k := 15) (x := "_law_script") rfl (by decide) rfl ⟨rfl, by decide, by decide⟩ (fun w h Y => PySem.W.km_in_of Y) ?F
  case F =>
    intro w mg fa h Y LL KX G hmg
    refine' Cf.all_mk KX G hmg ?aLink ?pgLink ?hdLink ?poLink ?saLink ?mkLink ?kcLink ?nLink_budget ?nLink_balances ?nLink_past ?a0 ?l0 ?c0 ?k0 ?a1 ?l1 ?c1 ?k1 ?a2 ?l2 ?c2 ?k2 ?a3 ?l3 ?c3 ?k3 ?a4 ?l4 ?c4 ?k4 ?a5 ?l5 ?c5 ?k5 ?a6 ?l6 ?c6 ?k6 ?a7 ?l7 ?c7 ?k7 ?a8 ?l8 ?c8 ?k8 ?q8 ?t8 ?p8 ?h8 ?n8 ?y8 ?a9 ?l9 ?c9 ?k9 ?a10 ?l10 ?c10 ?k10 ?a11 ?l11 ?c11 ?k11 ?a12 ?l12 ?c12 ?k12 ?a13 ?j13 ?l13 ?c13 ?k13 ?a14 ?j14 ?l14 ?c14 ?k14 ?a15 ?j15 ?l15 ?c15 ?k15 ?a16 ?j16 ?l16 ?c16 ?k16 ?a17 ?j17 ?l17 ?c17 ?k17 ?a18 ?j18 ?l18 ?c18 ?k18 ?a19 ?j19 ?l19 ?c19 ?k19 ?a20 ?j20 ?l20 ?c20 ?k20 ?a21 ?j21 ?l21 ?c21 ?k21 ?a22 ?j22 ?l22 ?c22 ?k22 ?a23 ?l23 ?c23 ?k23 ?a24 ?l24 ?c24 ?k24 ?a25 ?l25 ?c25 ?k25 ?a26 ?l26 ?c26 ?k26 ?a27 ?l27 ?c27 ?k27 ?a28 ?l28 ?c28 ?k28 ?a29 ?l29 ?c29 ?k29 ?a30 ?l30 ?c30 ?k30 ?a31 ?l31 ?c31 ?k31 ?a32 ?l32 ?c32 ?k32 ?a33 ?l33 ?c33 ?k33 ?a34 ?l34 ?c34 ?k34 ?a35 ?l35 ?c35 ?k35 ?a36 ?l36 ?c36 ?k36 ?a37 ?l37 ?c37 ?k37 ?a38 ?l38 ?c38 ?k38 ?a39 ?l39 ?c39 ?k39 ?a40 ?l40 ?c40 ?k40 ?a41 ?l41 ?c41 ?k41 ?q41 ?t41 ?p41 ?h41 ?n41 ?y41 ?a42 ?l42 ?c42 ?k42 ?q42 ?t42 ?p42 ?h42 ?n42 ?y42 ?d41_8 ?d42_8 ?d42_41 ?z_isinstance ?z_int ?z_bool ?z_str ?z_len ?z_all ?z_range ?z_tuple ?z_sorted ?z_enumerate ?z_list ?z_dict ?z_abs ?z_repr ?z_max ?z_min ?o_MOST_CREDITS ?o_MOST_BUDGET ?g_MOST_LETTERS ?g_LETTERS ?g_MOST_SENDERS ?g_MOST_DIGITS ?g_DIGITS ?aE ?aNs ?aCm ?aNa ?aTa ?aUn ?aAm ?aBu ?aRe ?aTx ?exE ?hdE ?tyE ?xn_ ?xu_ ?lNa ?vNa ?saNa ?exNa ?tyNa ?kcNa ?iNa ?tNa ?noNa ?liNa ?ciNa ?kiNa ?hgNa ?hkNa ?hdNa ?haNa ?hmNa ?seNaE ?lTa ?vTa ?saTa ?exTa ?tyTa ?kcTa ?iTa ?tTa ?noTa ?liTa ?ciTa ?kiTa ?hgTa ?hkTa ?hdTa ?haTa ?hmTa ?seTaE ?lUn ?vUn ?saUn ?exUn ?tyUn ?kcUn ?iUn ?tUn ?noUn ?liUn ?ciUn ?kiUn ?hgUn ?hkUn ?hdUn ?haUn ?hmUn ?seUnE ?lAm ?vAm ?saAm ?exAm ?tyAm ?kcAm ?iAm ?tAm ?noAm ?liAm ?ciAm ?kiAm ?hgAm ?hkAm ?hdAm ?haAm ?hmAm ?seAmE ?lBu ?vBu ?saBu ?exBu ?tyBu ?kcBu ?iBu ?tBu ?noBu ?liBu ?ciBu ?kiBu ?hgBu ?hkBu ?hdBu ?haBu ?hmBu ?seBuE ?lRe ?vRe ?saRe ?exRe ?tyRe ?kcRe ?iRe ?tRe ?noRe ?liRe ?ciRe ?kiRe ?hgRe ?hkRe ?hdRe ?haRe ?hmRe ?seReE ?lTx ?vTx ?saTx ?exTx ?tyTx ?kcTx ?iTx ?tTx ?noTx ?liTx ?ciTx ?kiTx ?hgTx ?hkTx ?hdTx ?haTx ?hmTx ?seTxE ?kTxTx ?kATx ?aFu ?xxFu ?kcFu ?exFu ?tyFu ?seRR
    (case aLink => k_is); (case pgLink => k_is); (case hdLink => k_is); (case poLink => k_is); (case saLink => k_is); (case mkLink => k_is); (case kcLink => k_is); (case nLink_budget => k_is); (case nLink_balances => k_is); (case nLink_past => k_is); (case a0 => k_is); (case l0 => k_is); (case c0 => k_is); (case k0 => k_is); (case a1 => k_is); (case l1 => k_is); (case c1 => k_is); (case k1 => k_is); (case a2 => k_is); (case l2 => k_is); (case c2 => k_is); (case k2 => k_is); (case a3 => k_is); (case l3 => k_is); (case c3 => k_is); (case k3 => k_is); (case a4 => k_is); (case l4 => k_is); (case c4 => k_is); (case k4 => k_is); (case a5 => k_is); (case l5 => k_is); (case c5 => k_is); (case k5 => k_is); (case a6 => k_is); (case l6 => k_is); (case c6 => k_is); (case k6 => k_is); (case a7 => k_is); (case l7 => k_is); (case c7 => k_is); (case k7 => k_is); (case a8 => k_is); (case l8 => k_is); (case c8 => k_is); (case k8 => k_is); (case q8 => rfl); (case t8 => k_is); (case p8 => rfl); (case h8 => kernel_rfl); (case n8 => kernel_rfl); (case y8 => exact PySem.W.km_tabs_of Y _ (by k_mem)); (case a9 => k_is); (case l9 => k_is); (case c9 => k_is); (case k9 => k_is); (case a10 => k_is); (case l10 => k_is); (case c10 => k_is); (case k10 => k_is); (case a11 => k_is); (case l11 => k_is); (case c11 => k_is); (case k11 => k_is); (case a12 => k_is); (case l12 => k_is); (case c12 => k_is); (case k12 => k_is); (case a13 => k_is); (case j13 => k_is); (case l13 => k_is); (case c13 => k_is); (case k13 => k_is); (case a14 => k_is); (case j14 => k_is); (case l14 => k_is); (case c14 => k_is); (case k14 => k_is); (case a15 => k_is); (case j15 => k_is); (case l15 => k_is); (case c15 => k_is); (case k15 => k_is); (case a16 => k_is); (case j16 => k_is); (case l16 => k_is); (case c16 => k_is); (case k16 => k_is); (case a17 => k_is); (case j17 => k_is); (case l17 => k_is); (case c17 => k_is); (case k17 => k_is); (case a18 => k_is); (case j18 => k_is); (case l18 => k_is); (case c18 => k_is); (case k18 => k_is); (case a19 => k_is); (case j19 => k_is); (case l19 => k_is); (case c19 => k_is); (case k19 => k_is); (case a20 => k_is); (case j20 => k_is); (case l20 => k_is); (case c20 => k_is); (case k20 => k_is); (case a21 => k_is); (case j21 => k_is); (case l21 => k_is); (case c21 => k_is); (case k21 => k_is); (case a22 => k_is); (case j22 => k_is); (case l22 => k_is); (case c22 => k_is); (case k22 => k_is); (case a23 => k_is); (case l23 => k_is); (case c23 => k_is); (case k23 => k_is); (case a24 => k_is); (case l24 => k_is); (case c24 => k_is); (case k24 => k_is); (case a25 => k_is); (case l25 => k_is); (case c25 => k_is); (case k25 => k_is); (case a26 => k_is); (case l26 => k_is); (case c26 => k_is); (case k26 => k_is); (case a27 => k_is); (case l27 => k_is); (case c27 => k_is); (case k27 => k_is); (case a28 => k_is); (case l28 => k_is); (case c28 => k_is); (case k28 => k_is); (case a29 => k_is); (case l29 => k_is); (case c29 => k_is); (case k29 => k_is); (case a30 => k_is); (case l30 => k_is); (case c30 => k_is); (case k30 => k_is); (case a31 => k_is); (case l31 => k_is); (case c31 => k_is); (case k31 => k_is); (case a32 => k_is); (case l32 => k_is); (case c32 => k_is); (case k32 => k_is); (case a33 => k_is); (case l33 => k_is); (case c33 => k_is); (case k33 => k_is); (case a34 => k_is); (case l34 => k_is); (case c34 => k_is); (case k34 => k_is); (case a35 => k_is); (case l35 => k_is); (case c35 => k_is); (case k35 => k_is); (case a36 => k_is); (case l36 => k_is); (case c36 => k_is); (case k36 => k_is); (case a37 => k_is); (case l37 => k_is); (case c37 => k_is); (case k37 => k_is); (case a38 => k_is); (case l38 => k_is); (case c38 => k_is); (case k38 => k_is); (case a39 => k_is); (case l39 => k_is); (case c39 => k_is); (case k39 => k_is); (case a40 => k_is); (case l40 => k_is); (case c40 => k_is); (case k40 => k_is); (case a41 => k_is); (case l41 => k_is); (case c41 => k_is); (case k41 => k_is); (case q41 => rfl); (case t41 => k_is); (case p41 => rfl); (case h41 => kernel_rfl); (case n41 => kernel_rfl); (case y41 => exact PySem.W.km_tabs_of Y _ (by k_mem)); (case a42 => k_is); (case l42 => k_is); (case c42 => k_is); (case k42 => k_is); (case q42 => rfl); (case t42 => k_is); (case p42 => rfl); (case h42 => kernel_rfl); (case n42 => kernel_rfl); (case y42 => exact PySem.W.km_tabs_of Y _ (by k_mem)); (case d41_8 => decide); (case d42_8 => decide); (case d42_41 => decide); (case z_isinstance => k_is); (case z_int => k_is); (case z_bool => k_is); (case z_str => k_is); (case z_len => k_is); (case z_all => k_is); (case z_range => k_is); (case z_tuple => k_is); (case z_sorted => k_is); (case z_enumerate => k_is); (case z_list => k_is); (case z_dict => k_is); (case z_abs => k_is); (case z_repr => k_is); (case z_max => k_is); (case z_min => k_is); (case o_MOST_CREDITS => exact Cf.loose_int LL (by k_mem)); (case o_MOST_BUDGET => exact Cf.loose_int LL (by k_mem)); (case g_MOST_LETTERS => k_is); (case g_LETTERS => k_is); (case g_MOST_SENDERS => k_is); (case g_MOST_DIGITS => k_is); (case g_DIGITS => k_is); (case aE => k_is); (case aNs => k_is); (case aCm => k_is); (case aNa => k_is); (case aTa => k_is); (case aUn => k_is); (case aAm => k_is); (case aBu => k_is); (case aRe => k_is); (case aTx => k_is); (case exE => k_is); (case hdE => k_is); (case tyE => k_is); (case xn_ => k_is); (case xu_ => k_is); (case lNa => k_is); (case vNa => first | rfl | decide +kernel); (case saNa => k_is); (case exNa => k_is); (case tyNa => k_is); (case kcNa => k_is); (case iNa => k_is); (case tNa => k_is); (case noNa => k_is); (case liNa => k_is); (case ciNa => k_is); (case kiNa => k_is); (case hgNa => k_is); (case hkNa => k_is); (case hdNa => k_is); (case haNa => k_is); (case hmNa => k_is); (case seNaE => first | rfl | k_is); (case lTa => k_is); (case vTa => first | rfl | decide +kernel); (case saTa => k_is); (case exTa => k_is); (case tyTa => k_is); (case kcTa => k_is); (case iTa => k_is); (case tTa => k_is); (case noTa => k_is); (case liTa => k_is); (case ciTa => k_is); (case kiTa => k_is); (case hgTa => k_is); (case hkTa => k_is); (case hdTa => k_is); (case haTa => k_is); (case hmTa => k_is); (case seTaE => first | rfl | k_is); (case lUn => k_is); (case vUn => first | rfl | decide +kernel); (case saUn => k_is); (case exUn => k_is); (case tyUn => k_is); (case kcUn => k_is); (case iUn => k_is); (case tUn => k_is); (case noUn => k_is); (case liUn => k_is); (case ciUn => k_is); (case kiUn => k_is); (case hgUn => k_is); (case hkUn => k_is); (case hdUn => k_is); (case haUn => k_is); (case hmUn => k_is); (case seUnE => first | rfl | k_is); (case lAm => k_is); (case vAm => first | rfl | decide +kernel); (case saAm => k_is); (case exAm => k_is); (case tyAm => k_is); (case kcAm => k_is); (case iAm => k_is); (case tAm => k_is); (case noAm => k_is); (case liAm => k_is); (case ciAm => k_is); (case kiAm => k_is); (case hgAm => k_is); (case hkAm => k_is); (case hdAm => k_is); (case haAm => k_is); (case hmAm => k_is); (case seAmE => first | rfl | k_is); (case lBu => k_is); (case vBu => first | rfl | decide +kernel); (case saBu => k_is); (case exBu => k_is); (case tyBu => k_is); (case kcBu => k_is); (case iBu => k_is); (case tBu => k_is); (case noBu => k_is); (case liBu => k_is); (case ciBu => k_is); (case kiBu => k_is); (case hgBu => k_is); (case hkBu => k_is); (case hdBu => k_is); (case haBu => k_is); (case hmBu => k_is); (case seBuE => first | rfl | k_is); (case lRe => k_is); (case vRe => first | rfl | decide +kernel); (case saRe => k_is); (case exRe => k_is); (case tyRe => k_is); (case kcRe => k_is); (case iRe => k_is); (case tRe => k_is); (case noRe => k_is); (case liRe => k_is); (case ciRe => k_is); (case kiRe => k_is); (case hgRe => k_is); (case hkRe => k_is); (case hdRe => k_is); (case haRe => k_is); (case hmRe => k_is); (case seReE => first | rfl | k_is); (case lTx => k_is); (case vTx => first | rfl | decide +kernel); (case saTx => k_is); (case exTx => k_is); (case tyTx => k_is); (case kcTx => k_is); (case iTx => k_is); (case tTx => k_is); (case noTx => k_is); (case liTx => k_is); (case ciTx => k_is); (case kiTx => k_is); (case hgTx => k_is); (case hkTx => k_is); (case hdTx => k_is); (case haTx => k_is); (case hmTx => k_is); (case seTxE => first | rfl | k_is); (case kTxTx => first | k_is | kernel_rfl | rfl); (case kATx => first | k_is | kernel_rfl | rfl); (case aFu => k_is); (case xxFu => k_exc); (case kcFu => k_is); (case exFu => k_is); (case tyFu => k_is); (case seRR => first | rfl | k_is)
