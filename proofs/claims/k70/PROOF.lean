import PyProof.Rows.All
import Wide.All
import OpenK.AllK
import Wide.FinOn
import HandS.ForMost
import HandS.IsInst
import PyProof.ReprRoads
import HandS.Walk
import HandS.Text
import PyProof.StrOps2
import PyProof.ReprText
import KE.GoesMore
import HandS.Iter
import HandS.DictComp
import HandS.More
import HandS.Property
import HandS.TupMul
import HandS.ExcInit
import HandS.ExcField
import HandS.WordsExc
import HandS.ExcOwn
import HandS.TryOnly
import HandS.Zip
import KE.KDictList
import PyProof.NeData
import HandS.Style
import KE.KStateDown
import HandS.Defaults
import HandS.Head0
import HandS.Head1
import HandS.Head2
import HandS.HeadEnd
import HandS.HeadHook1
import HandS.HeadHook2
import HandS.HeadHook3
import HandS.WordsDict
import HandS.TupAny
import HandS.CallLocal
import HandS.Deep
import HandS.Star
import HandS.ExcIs
import KE.KExcIs
import PyProof.ConsumeS
import PyProof.SumAny
import HandS.Sort
import HandS.Strs
import HandS.TupSets
import KE.KeyNested
import KE.KDictKeyed
import KE.SortData
import KE.SortLaws
import KE.KEqNest
import KE.DataCmp
import PyProof.EqKinds
import PyProof.P3In
import HandS.Conv
import KE.KRevSl
import PySem.Challenge.RW_openlanes_k70_rows_known
set_option Elab.async false
set_option linter.all false
set_option maxRecDepth 100000
set_option maxHeartbeats 4000000
/-! Own rules: defs that may show data (no display is under way), and the law's end for them. -/
namespace Ol
open PySem PySem.Spec PyProof.Rows L2

/-- a def's promise where no display is under way -/
structure FnG (P : Program) (w : World) (K : PySem.W.Frag)
    (mg : Str → Option Value) (base : Heap) (k : Nat)
    (f : Addr) (fd : FuncData) (ps : List Str) (sp : Sp) : Prop where
  len : ∀ vs H Q E, sp vs H Q E → vs.length = ps.length
  go : ∀ (A : Around) (outer : List Env) (s : Shared) (H : Hp)
    (args : Args) (us : List Value) (vs : List V) (Q : VK) (E : XK),
    A.guards = some [] → Room k A → Env0 P w K mg base A outer s H →
    BindsTo s fd args (ps.zip us) → Vals vs us → sp vs H Q E →
    codeAny (model P w) A (.call (.ref f) args)
      (CR CX0 outer P w H s Q E) s

section
variable {P : Program} {w : World} {K : PySem.W.Frag}
  {mg : Str → Option Value} {base : Heap} {k : Nat}

theorem FnG.of {f : Addr} {fd : FuncData} {ps : List Str} {sp : Sp}
    (F : FnOk P w K mg base CX0 k f fd ps sp) : FnG P w K mg base k f fd ps sp :=
  ⟨F.len, fun A o s H as us vs Q E _ r => F.run A o s H as us vs Q E r⟩

/-- the rule for a def, its body's context has no display under way -/
theorem okG {x qual : Str} {st : Stmt} {f : Addr} {fd : FuncData}
    {N ps : List Str} {sp : Sp} (F : Fun K x qual st f fd)
    (S : FnScope N ps (defScope st))
    (len : ∀ vs H Q E, sp vs H Q E → vs.length = ps.length)
    (body : ∀ (cdv : Value) (A : Around) (outer : List Env) (s : Shared)
      (H : Hp) (vs : List V) (Q : VK) (E : XK),
      (A.deeper (envOfC qual (defScope st) s.heap.objs.size f cdv)).guards = some [] →
      Room k (A.deeper (envOfC qual (defScope st) s.heap.objs.size f cdv)) →
      sp vs H Q E → ∃ t,
        PSs (cxOf CX0 P w K mg base N qual (defScope st) f cdv A outer s H E).nox
          (defBody st) t ∧
        t { nx := fun _ H' => Q .non H', rt := Q } (start N vs) H) :
    FnG P w K mg base (k + 1) f fd ps sp := by
  obtain ⟨oc, od, kV, doc, pm, an, cdv, ct, osl, rfl, lk, hcd⟩ := F.ex
  refine ⟨len, ?_⟩
  intro A outer s H args us vs Q E hG room e0 hb rv hsp
  have hlen := len _ _ _ _ hsp
  have kin : K.In s.heap :=
    e0.mod.kin.keeps (fun b o e => (e0.bs b o e).1)
  have nol : s.heap.NoLimit :=
    e0.mod.nolimit.keeps (fun b o e => (e0.bs b o e).1)
  have kinds : ∀ y ∈ ps.zip us,
      (defScope st).names.lookup y.1 = some .local ∨
      ((defScope st).names.lookup y.1 = some .cell ∧
        ((cellsFrom (s.heap.objs.size + 1) (defScope st).names []).lookup y.1).isSome = true) := by
    rintro ⟨n, v⟩ hy
    cases S.par n (List.of_mem_zip hy).1 with
    | inl q => exact Or.inl q
    | inr q => exact Or.inr ⟨q, PySem.W.cellsFrom_some _ _ _ (Or.inl q)⟩
  refine codeAny_call_function room.depth (kin _ _ lk) rfl S.co S.gen rfl
    (PySem.W.codeRec_of kin hcd) (hb _ _ _ _ ?_)
  refine wpAny_newFunctionEnv_cells S.kind kinds ?_
  intro env he s1 x
  subst he
  refine ⟨nol.keeps x.toInCall.keep, codeAny_func ?_⟩
  have hG' : (A.deeper (envOfC qual (defScope st) s.heap.objs.size f cdv)).guards = some [] := by
    exact hG
  obtain ⟨t, ht0, hq⟩ := body cdv A outer s H vs Q E hG' (room.deeper _) hsp
  have ht := ht0.nox
  have I := inv_start (CX := CX0) (E := E) S room.hd e0 hlen rv x
  have out : ∀ {σ' : L2.St} {H' : Hp} {v : V} {u : Value} {s' : Shared},
      Inv (cxOf CX0 P w K mg base N qual (defScope st) f cdv A outer s H E) [] σ' H' s' →
      RelV v u → Q v H' → CE outer P w H s Q u s' :=
    fun J r q => ⟨_, _, J.os, J.bare, J.base, J.hok, r, q⟩
  refine wpAny_mono (ht.run [] s1 (start N vs) H _ I hq) ?_ (fun _ _ z => z)
  intro fl s' hs
  cases fl with
  | next =>
    obtain ⟨_, _, J, q⟩ := hs
    exact out (v := V.non) (u := Value.none) J rfl q
  | ret u =>
    obtain ⟨_, _, _, J, r, q⟩ := hs
    exact out J r q
  | brk => exact hs.choose_spec.choose_spec.2.elim
  | cont => exact hs.choose_spec.choose_spec.2.elim
end

section
variable {X : Cx} {k : Nat} {f : Addr} {fd : FuncData} {ps : List Str}
  {sp : Sp} {E : XK} {x : Str} {e : Expr} {es : List Expr} {t : TA}
  {p pos : Pos} {ds : List Value} {dvs : List V}
/-- f(..) of such a def -/
theorem pe_callG (F : FnG X.prog X.w X.K X.mg X.base k f fd ps sp)
    (hG : X.A.guards = some []) (hr : Room k X.A) (hg : Gl X x)
    (hm : X.mg x = some (.ref f)) (hk : PySem.W.keepIn X.K (.ref f) = true)
    (hb : Binds X.K fd ps []) (ha : PA X (e :: es) t)
    (hdb : (x == ("__debug__" : Str)) = false := by decide)
    (he : starEach (e :: es) X.env = (false, eval e X.env) :: starEach es X.env := by rfl)
    (hpl : (backTo pos (starEach es X.env)).any (·.1) = false := by rfl) :
    PE X (.Call (.Name x p) (e :: es) [] pos) (tCall sp [] E0 t) := by
  constructor
  intro pins s σ H Q I h
  apply wpAny_Call_Name_kw
  apply ld_glob I hg hm (hd := hdb)
  refine PySem.W.callWith_K (h₀ := X.base) I.ok.mod.kin hk ?_ he hpl
  refine thn (ha.run pos pins s σ H _ I h) ?_
  rintro us s1 ⟨vs, H1, I1, r, q⟩
  refine ⟨I1.kIn, ?_⟩
  have q' : sp vs H1 Q E0 := by
    have z : sp (vs ++ []) H1 Q E0 := q
    rwa [List.append_nil] at z
  have hl : us.length = ps.length := by
    rw [← r.length]
    exact F.len _ _ _ _ q'
  have hbs := hb s1 us I1.kIn (by simpa using hl)
  rw [List.append_nil] at hbs
  refine wpAny_call (codeAny_mono (F.go X.A X.stack s1 H1 ⟨us, []⟩ us vs Q E0 hG hr I1.env0 hbs r q') ?_)
  intro res s2 hres
  cases res with
  | error z => exact False.elim hres
  | ok fl =>
    cases fl with
    | ret u => exact I1.after hres
    | next => exact False.elim hres
    | brk => exact False.elim hres
    | cont => exact False.elim hres
end
end Ol

set_option Elab.async false
set_option linter.all false
set_option maxRecDepth 100000
set_option maxHeartbeats 4000000
namespace Ol
open PySem PySem.Spec PyProof.Rows L2

/-- the table of modules is set aside: no list stands there -/
def Sys (H : Hp) : Prop := ∃ o u, H sysModules = some (.frz o u)

/-- every tracked object is locked -/
def Lockd (H : Hp) : Prop := ∀ b u, H b = some u → ∃ o v, u = .frz o v

section
variable {P : Program} {w : World} {K : PySem.W.Frag} {mg mb : Str → Option Value}
  {k : Nat} {fa a : Addr} {fd : FuncData} {x : Str} {sp : Sp} {s1 : Shared}

/-- the call of the law from a heap in which some objects are locked -/
theorem enterG (H : Hp) (hL : Lockd H) (ok : HOk P w H s1.heap)
    (hK : ∀ b, H b ≠ none → K.lookup b = none)
    (hN : ∀ b m, s1.heap.Ns b m → (b = 0 ∨ b = 3 ∨ b = cStatics) → H b = none)
    (kin : K.In s1.heap) (hns : s1.heap.Ns mainGlobals mg) (hb : s1.heap.Ns builtinsNs mb)
    (hbb : ∀ y : Str, y ≠ "__name__" → mb y = bootBuiltins y)
    (hlim : s1.heap.NoLimit) (hg : s1.gens = #[]) (hr : Room k callerA)
    (F : ∀ base : Heap, K.In base → base.Ns mainGlobals mg → FnG P w K mg base k fa fd [x] sp)
    (bind : ∀ (s : Shared) (u : Value), BindsTo s fd ⟨[u], []⟩ [(x, u)])
    (hsp : sp [.ref a] H (fun v _ => v = .bl true) E0) :
    codeAny (model P w) callerA (.call (.ref fa) ⟨[.ref a], []⟩)
      (fun r s' => r = .ok (.ret (.bool true)) ∧ OldK s1.heap s'.heap ∧
        s'.os = s1.os ∧ AllBare s'.gens) s1 := by
  have ns : ∀ {b : Addr} {m : Str → Option Value}, s1.heap.Ns b m →
      (b = 0 ∨ b = 3 ∨ b = cStatics) → (hidT s1.heap H).Ns b m := by
    intro b m h c
    have n := hN b m h c
    obtain ⟨o, es, ep, e, r⟩ := h
    exact ⟨o, es, ep, hidT_get e n, r⟩
  have kb : K.In (hidT s1.heap H) := by
    intro b o e
    refine hidT_get (kin b o e) ?_
    cases q : H b with
    | none => rfl
    | some u =>
      have z := hK b (by rw [q]; exact fun t => nomatch t)
      rw [z] at e
      cases e
  have gl : (hidT s1.heap H).Ns mainGlobals mg := ns hns (Or.inr (Or.inl rfl))
  have md : Mod K mg (hidT s1.heap H) := by
    refine ⟨kb, gl, ⟨mb, ns hb (Or.inl rfl), hbb⟩, ?_⟩
    obtain ⟨mc, h1, h2⟩ := hlim
    exact ⟨mc, ns h1 (Or.inr (Or.inr rfl)), h2⟩
  have e0 : Env0 P w K mg (hidT s1.heap H) callerA [] s1 H := by
    refine ⟨rfl, md, fun b o e => of_hidT e, Nat.le_of_eq (hidT_size _ _), trivial, ?_, ok, .of_eq hg⟩
    intro b hb
    cases hb
  have run := (F _ kb gl).go callerA [] s1 H ⟨[.ref a], []⟩ [.ref a] [.ref a]
    (fun v _ => v = .bl true) E0 rfl hr e0 (bind s1 (.ref a)) (.cons rfl .nil) hsp
  refine codeAny_mono run ?_
  intro r s' h
  match r, h with
  | .error e, h => exact h.elim
  | .ok .next, h => exact h.elim
  | .ok .brk, h => exact h.elim
  | .ok .cont, h => exact h.elim
  | .ok (.ret u), h =>
    obtain ⟨v, H', os, bare, un, ok', rv, q⟩ := h
    have q' : v = .bl true := q
    subst q'
    have eu : u = Value.bool true := rv
    subst eu
    refine ⟨rfl, OldK.of_keep ?_, os, bare⟩
    intro b o e
    cases q : H b with
    | none => exact un.keep b o e q (fun z => nomatch z) (fun z => nomatch z)
    | some u =>
      obtain ⟨ob, v, rfl⟩ := hL b u q
      have q2 := un.frzs b ob v q
      have e1 : s1.heap.get? b = some ob := (ok b _ q).1
      have e2 : s'.heap.get? b = some ob := (ok' b _ q2).1
      rw [e] at e1
      cases e1
      exact e2

/-- the law's heap at its entry: the script locked (or of the module), the table of modules locked -/
theorem law_callG {vs : List Value} {ns : List Int}
    (kin : K.In s1.heap) (kS : K.lookup sysModules = none)
    (hS : ∃ o, s1.heap.get? sysModules = some o)
    (hns : s1.heap.Ns mainGlobals mg) (hb : s1.heap.Ns builtinsNs mb)
    (hbb : ∀ y : Str, y ≠ "__name__" → mb y = bootBuiltins y)
    (hlim : s1.heap.NoLimit) (hg : s1.gens = #[])
    (ha : s1.heap.get? a = some { cls := .type "list", data := .seq vs.toArray })
    (hi : IntsAre vs ns) (hl : ns.length ≤ sizeLine) (hr : Room k callerA)
    (F : ∀ base : Heap, K.In base → base.Ns mainGlobals mg → FnG P w K mg base k fa fd [x] sp)
    (bind : ∀ (s : Shared) (u : Value), BindsTo s fd ⟨[u], []⟩ [(x, u)])
    (hsp : ∀ H : Hp, Sys H → SqL K H a (ns.map V.int) → sp [.ref a] H (fun v _ => v = .bl true) E0) :
    codeAny (model P w) callerA (.call (.ref fa) ⟨[.ref a], []⟩)
      (fun r s' => r = .ok (.ret (.bool true)) ∧ OldK s1.heap s'.heap ∧
        s'.os = s1.os ∧ AllBare s'.gens) s1 := by
  have rv := vals_ints hi
  obtain ⟨o1, ho1⟩ := hS
  -- no namespace is locked
  have dat : ∀ b m, s1.heap.Ns b m → b ≠ a := by
    rintro b m ⟨o, es, ep, e, d, _⟩ rfl
    rw [ha] at e
    cases e
    have d' : Data.seq vs.toArray _ = Data.dict es ep := d
    cases d'
  have nsys : ∀ b : Addr, (b = 0 ∨ b = 3 ∨ b = cStatics) → b ≠ sysModules := by
    rintro b (rfl | rfl | rfl) <;> decide
  have okS : ∀ H : Hp, ObjOk P w H s1.heap sysModules (.frz o1 (.ext fun _ => True)) :=
    fun H => ⟨ho1, trivial, ⟨o1, ho1⟩, fun _ _ _ _ => trivial⟩
  cases hk : K.lookup a with
  | some o =>
    have e := kin a o hk
    rw [ha] at e
    cases e
    have hL : SqL K (fun b => if b = sysModules then some (.frz o1 (.ext fun _ => True)) else none) a (ns.map V.int) := by
      refine Or.inr ⟨_, vs.toArray, _, hk, rfl, rfl, rfl, ?_, by simpa using rv⟩
      rw [List.size_toArray, hi.length]
      exact hl
    refine enterG (fun b => if b = sysModules then some (.frz o1 (.ext fun _ => True)) else none)
      ?_ ?_ ?_ ?_ kin hns hb hbb hlim hg hr F bind (hsp _ ⟨o1, _, if_pos rfl⟩ hL)
    · intro b u q
      by_cases c : b = sysModules
      · have q' := (if_pos c).symm.trans q
        cases q'
        exact ⟨_, _, rfl⟩
      · have q' := (if_neg c).symm.trans q
        cases q'
    · intro b u q
      by_cases c : b = sysModules
      · have q' := (if_pos c).symm.trans q
        cases q'
        subst c
        exact okS _
      · have q' := (if_neg c).symm.trans q
        cases q'
    · intro b q
      by_cases c : b = sysModules
      · subst c
        exact kS
      · exact absurd (if_neg c) q
    · intro b m _ c
      exact if_neg (nsys b c)
  | none =>
    let H0 : Hp := fun b => if b = a then some (.frz { cls := .type "list", data := .seq vs.toArray } (.lst (ns.map V.int)))
      else if b = sysModules then some (.frz o1 (.ext fun _ => True)) else none
    have at_a : H0 a = some (.frz { cls := .type "list", data := .seq vs.toArray } (.lst (ns.map V.int))) := if_pos rfl
    have sysH : Sys H0 := by
      by_cases c : sysModules = a
      · exact ⟨_, _, if_pos c⟩
      · exact ⟨o1, _, (if_neg c).trans (if_pos rfl)⟩
    refine enterG H0 ?_ ?_ ?_ ?_ kin hns hb hbb hlim hg hr F bind (hsp _ sysH (Or.inl (Or.inr ⟨_, at_a⟩)))
    · intro b u q
      by_cases c : b = a
      · have q' := (if_pos c).symm.trans q
        cases q'
        exact ⟨_, _, rfl⟩
      · by_cases c2 : b = sysModules
        · have q' := ((if_neg c).trans (if_pos c2)).symm.trans q
          cases q'
          exact ⟨_, _, rfl⟩
        · have q' := ((if_neg c).trans (if_neg c2)).symm.trans q
          cases q'
    · intro b u q
      by_cases c : b = a
      · have q' := (if_pos c).symm.trans q
        cases q'
        subst c
        exact ⟨ha, by rw [List.length_map]; exact hl, vs, _, rv, ha⟩
      · by_cases c2 : b = sysModules
        · have q' := ((if_neg c).trans (if_pos c2)).symm.trans q
          cases q'
          subst c2
          exact okS _
        · have q' := ((if_neg c).trans (if_neg c2)).symm.trans q
          cases q'
    · intro b q
      by_cases c : b = a
      · rw [c]
        exact hk
      · by_cases c2 : b = sysModules
        · rw [c2]
          exact kS
        · exact absurd ((if_neg c).trans (if_neg c2)) q
    · intro b m h c
      exact (if_neg (dat b m h)).trans (if_neg (nsys b c))
end

/-- the end of a law's row, by a promise of FnG -/
theorem walkG {l : PySem.W.OpenLaw} {n k : Nat} {q : Program} {loose : List Str}
    {XP : (Str → Option Value) → Heap → Prop} {YP : World → Heap → Prop} {d : DefRec}
    {K : Params → PySem.W.Frag} {sp : World → Sp} {x : Str}
    (hn : l.most = some n) (him : importsNone q = true) (hn2 : n ≤ sizeLine) (hdf : d.params.defaults = []) (hr : Room k callerA)
    (hY : ∀ (w : World) (h : Heap), YP w h → (K w.params).In h)
    (kS : ∀ w : World, (K w.params).lookup sysModules = none)
    (F : ∀ (w : World) (mg : Str → Option Value) (fa : Addr) (h : Heap),
      (K w.params).In h → h.Ns mainGlobals mg → mg d.name = some (.ref fa) →
      ∃ fd : FuncData, (∀ (s : Shared) (u : Value), BindsTo s fd ⟨[u], []⟩ [(x, u)]) ∧
        ∀ base : Heap, (K w.params).In base → base.Ns mainGlobals mg →
          FnG l.prog w (K w.params) mg base k fa fd [x] (sp w))
    (hsp : ∀ (w : World) (H : Hp) (a : Addr) (ns : List Int), ns.length ≤ n → Sys H →
      SqL (K w.params) H a (ns.map V.int) → sp w [.ref a] H (fun v _ => v = .bl true) E0) :
    PySem.W.WalkO q loose XP YP l.row.toRowW d [] (fun f vs => PySem.call f vs) := by
  refine Att.attach_call hn hdf ?_
  intro w s0 s1 mg mb fa o pm cd doc a vs ns G Y ho hd hcd hmg hobj hints hlen hg
  have kin := hY w _ Y
  obtain ⟨fd, hb, hF⟩ := F w mg fa _ kin G.T.g hmg
  have hS : ∃ o, s1.heap.get? sysModules = some o := by
    obtain ⟨mm, ⟨o, es, ep, e, _⟩, _⟩ := (G.T.seer him).mods
    exact ⟨o, e⟩
  exact law_callG kin (kS w) hS G.T.g G.T.b G.T.builtins G.T.nolimit hg hobj hints
    (Nat.le_trans hlen hn2) hr hF hb (fun H h1 h2 => hsp w H a ns hlen h1 h2)
end Ol

set_option Elab.async false
set_option linter.all false
set_option maxRecDepth 100000
set_option maxHeartbeats 4000000
namespace Ol
open PySem PySem.Spec PyProof.Rows L2

/-- a key of a dict as data -/
def keyD : Key → PyData
  | .inl i => .int i
  | .inr x => .str x

/-! ### data of any depth, dicts with ints and texts as keys too -/
mutual
inductive Dq (H : Hp) : V → PyData → Prop
  | non : Dq H .non .none
  | bl (b : Bool) : Dq H (.bl b) (.bool b)
  | int (i : Int) : Dq H (.int i) (.int i)
  | str (x : Str) : Dq H (.str x) (.str x)
  | lst {a : Addr} {xs : List V} {ds : List PyData} :
      H a = some (.lst xs) → DqAll H xs ds → Dq H (.ref a) (.list ds)
  | tup {a : Addr} {xs : List V} {ds : List PyData} :
      H a = some (.tup xs) → DqAll H xs ds → Dq H (.ref a) (.tuple ds)
  | dct {a : Addr} {kvs : List (Key × V)} {ds : List PyData} :
      H a = some (.dK kvs) → DqAll H (kvs.map (·.2)) ds →
      Dq H (.ref a) (.dict ((kvs.map fun kv => keyD kv.1).zip ds))
inductive DqAll (H : Hp) : List V → List PyData → Prop
  | nil : DqAll H [] []
  | cons {v : V} {vs : List V} {d : PyData} {ds : List PyData} :
      Dq H v d → DqAll H vs ds → DqAll H (v :: vs) (d :: ds)
end

theorem DqAll.len {H : Hp} : ∀ {vs : List V} {ds : List PyData}, DqAll H vs ds → vs.length = ds.length
  | [], _, h => by cases h; rfl
  | v :: vs, _, h => by
    cases h with
    | cons _ t => rw [List.length_cons, List.length_cons, t.len]

/-- what is tracked in H stands in H' as well -/
def Ext (H H' : Hp) : Prop := ∀ b o, H b = some o → H' b = some o

mutual
theorem Dq.up {H H' : Hp} (e : Ext H H') : ∀ {v : V} {d : PyData}, Dq H v d → Dq H' v d
  | _, _, .non => .non
  | _, _, .bl b => .bl b
  | _, _, .int i => .int i
  | _, _, .str x => .str x
  | _, _, .lst h t => .lst (e _ _ h) (DqAll.up e t)
  | _, _, .tup h t => .tup (e _ _ h) (DqAll.up e t)
  | _, _, .dct h t => .dct (e _ _ h) (DqAll.up e t)
theorem DqAll.up {H H' : Hp} (e : Ext H H') : ∀ {vs : List V} {ds : List PyData}, DqAll H vs ds → DqAll H' vs ds
  | _, _, .nil => .nil
  | _, _, .cons h t => .cons (Dq.up e h) (DqAll.up e t)
end

section
variable {X : Cx} {pins : List (Addr × Obj)} {σ : L2.St} {H : Hp} {s : Shared}

theorem keys_reads {h : Heap} {knd : List (Key × Value)} : ∀ {kvs : List (Key × V)} {es : List DictEntry} {vs : List (Key × Value)},
    L2.KV kvs vs → Pairs (mixKind X.prog X.w) es vs →
    ReadsAll h (es.map (·.key)) (kvs.map fun kv => keyD kv.1) [] ∧ Vals (kvs.map (·.2)) (es.map (·.val))
  | [], es, _, r, p => by
    cases r
    cases p
    exact ⟨.nil, .nil⟩
  | kv :: kvs, es, _, r, p => by
    cases r with
    | cons r1 r2 =>
      cases p with
      | cons p1 p2 p3 =>
        obtain ⟨q1, q2⟩ := keys_reads (h := h) (knd := knd) r2 p3
        refine ⟨?_, .cons ?_ q2⟩
        case refine_2 =>
          have z := r1.2
          rw [← p2] at z
          exact z
        have e1 := r1.1
        rw [← e1] at p1
        rcases keyIs_shape p1 with ⟨i, t, e, e'⟩ | ⟨x, t, e, e'⟩
        · have z := ReadsAll.cons (Reads.int (h := h) i t) q1
          rw [List.map_cons, List.map_cons, e, e']
          exact z
        · have z := ReadsAll.cons (Reads.str (h := h) x t) q1
          rw [List.map_cons, List.map_cons, e, e']
          exact z

theorem zip_fst {α β : Type} : ∀ {xs : List α} {ys : List β}, xs.length = ys.length → (xs.zip ys).map (·.1) = xs
  | [], _, _ => by simp
  | x :: xs, [], h => by simp at h
  | x :: xs, y :: ys, h => by
    rw [List.zip_cons_cons, List.map_cons, zip_fst (by simpa using h)]
theorem zip_snd {α β : Type} : ∀ {xs : List α} {ys : List β}, xs.length = ys.length → (xs.zip ys).map (·.2) = ys
  | [], [], _ => by simp
  | [], y :: ys, h => by simp at h
  | x :: xs, [], h => by simp at h
  | x :: xs, y :: ys, h => by
    rw [List.zip_cons_cons, List.map_cons, zip_snd (by simpa using h)]

mutual
theorem Dq.reads (I : Inv X pins σ H s) (S : Sys H) : ∀ {v : V} {d : PyData} {u : Value}, Dq H v d → RelV v u →
    ∃ as, Reads s.heap u d as ∧ sysModules ∉ as
  | _, _, _, .non, r => by
    cases r
    exact ⟨_, Reads.none, nofun⟩
  | _, _, _, .bl b, r => by
    cases r
    exact ⟨_, Reads.bool b, nofun⟩
  | _, _, _, .int i, r => by
    obtain ⟨t, rfl⟩ := r
    exact ⟨_, Reads.int i t, nofun⟩
  | _, _, _, .str x, r => by
    obtain ⟨t, rfl⟩ := r
    exact ⟨_, Reads.str x t, nofun⟩
  | _, _, _, .lst (a := a) (xs := xs) h t, r => by
    cases r
    obtain ⟨_, its, n, rv, e⟩ := I.hok a _ h
    obtain ⟨as, q, n1⟩ := DqAll.reads I S t rv
    refine ⟨_, Reads.list e rfl rfl q, ?_⟩
    intro m
    rcases List.mem_cons.mp m with m | m
    · obtain ⟨o, u, hs⟩ := S
      rw [m, h] at hs
      cases hs
    · exact n1 m
  | _, _, _, .tup (a := a) (xs := xs) h t, r => by
    cases r
    obtain ⟨_, its, rv, o, e, c, n, d⟩ := I.hok a _ h
    obtain ⟨as, q, n1⟩ := DqAll.reads I S t rv
    exact ⟨_, Reads.tuple e c d q, n1⟩
  | _, _, _, .dct (a := a) (kvs := kvs) (ds := ds) h t, r => by
    cases r
    obtain ⟨_, na, vs, rel, o, es, ep, e, ex, hd, _, pr, _⟩ := I.hok a _ h
    obtain ⟨q1, q2⟩ := keys_reads (X := X) (h := s.heap) (knd := vs) rel pr
    obtain ⟨bs, q3, n1⟩ := DqAll.reads I S t q2
    have hl : (kvs.map fun kv => keyD kv.1).length = ds.length := by
      rw [List.length_map, ← t.len, List.length_map]
    refine ⟨_, Reads.dict (kvs := (kvs.map fun kv => keyD kv.1).zip ds) e ex.1 hd (as := []) (bs := bs) ?_ ?_, ?_⟩
    · rw [zip_fst hl]
      exact q1
    · rw [zip_snd hl]
      exact q3
    · intro m
      rcases List.mem_cons.mp m with m | m
      · rw [← m] at na
        exact absurd na (by decide)
      · exact n1 (by simpa using m)
theorem DqAll.reads (I : Inv X pins σ H s) (S : Sys H) : ∀ {vs : List V} {ds : List PyData} {us : List Value}, DqAll H vs ds → Vals vs us →
    ∃ as, ReadsAll s.heap us ds as ∧ sysModules ∉ as
  | _, _, _, .nil, r => by
    cases r
    exact ⟨_, ReadsAll.nil, nofun⟩
  | _, _, _, .cons h t, r => by
    cases r with
    | cons r1 r2 =>
      obtain ⟨as, q1, n1⟩ := Dq.reads I S h r1
      obtain ⟨bs, q2, n2⟩ := DqAll.reads I S t r2
      refine ⟨_, ReadsAll.cons q1 q2, ?_⟩
      intro m
      rcases List.mem_append.mp m with m | m
      · exact n1 m
      · exact n2 m
end
end

/-- repr(x) of data -/
def rRepr : List V → Hp → VK → Prop := fun vs H Q => ∃ v d, vs = [v] ∧ Sys H ∧ Dq H v d ∧
  d.showable = true ∧ d.depth ≤ 40 ∧ d.shown.length ≤ sizeLine ∧ Q (.str d.shown) H

theorem call_reprD {X : Cx} {k : Nat} (hG : X.A.guards = some []) (hr : Room k X.A) : CallR X (.builtin "repr") rRepr := by
  intro pins s σ H vs us Q I r h
  obtain ⟨v, d, rfl, S, hd, hs, hdp, hz, q⟩ := h
  obtain ⟨u, rfl, ru⟩ := vals1 r
  have hu := hr.units
  obtain ⟨as, rd, n1⟩ := Dq.reads I S hd ru
  have leaf : ∀ {x : Str}, x = d.shown → EP X pins σ Q (.str x s.toks) { s with toks := s.toks + 1 } := by
    rintro x rfl
    exact ⟨.str _, H, I.tok _, ⟨_, rfl⟩, q⟩
  cases hd with
  | non =>
    cases ru
    exact PySem.P.repr_of_none (leaf (by simp only [PyData.shown]))
  | bl b =>
    cases ru
    exact PySem.P.repr_of_bool (leaf (by simp only [PyData.shown]))
  | int i =>
    obtain ⟨t, rfl⟩ := ru
    exact PySem.P.repr_of_int (by simpa [PyData.showable] using hs) (leaf (by simp only [PyData.shown]))
  | str x =>
    obtain ⟨t, rfl⟩ := ru
    exact PySem.P.repr_of_str (leaf (by simp only [PyData.shown])) (by simpa only [PyData.shown] using hz)
  | lst h t =>
    cases ru
    exact repr_of_reads' rd hs (fun _ => n1) hG (by omega) (fun _ _ e => e)
      (fun h' u tk hk => ⟨.str _, H, I.kept (t' := tk) hk, ⟨u, rfl⟩, q⟩) hz
  | tup h t =>
    cases ru
    exact repr_of_reads' rd hs (fun _ => n1) hG (by omega) (fun _ _ e => e)
      (fun h' u tk hk => ⟨.str _, H, I.kept (t' := tk) hk, ⟨u, rfl⟩, q⟩) hz
  | dct h t =>
    cases ru
    exact repr_of_reads' rd hs (fun _ => n1) hG (by omega) (fun _ _ e => e)
      (fun h' u tk hk => ⟨.str _, H, I.kept (t' := tk) hk, ⟨u, rfl⟩, q⟩) hz
end Ol

set_option Elab.async false
set_option linter.all false
set_option maxRecDepth 100000
set_option maxHeartbeats 4000000
namespace Ol
open PySem PySem.Spec PyProof.Rows L2

theorem Ext.refl (H : Hp) : Ext H H := fun _ _ e => e
theorem Ext.trans {H H1 H2 : Hp} (a : Ext H H1) (b : Ext H1 H2) : Ext H H2 := fun c o e => b c o (a c o e)
theorem Ext.new {H : Hp} {p : Addr} {o : HO} (h : H p = none) : Ext H (upd H p o) := fun b u e => by
  rw [upd_ne (ne_of_none e h)]
  exact e
/-- what was not tracked at the start may change -/
theorem Ext.mut {H H' : Hp} {p : Addr} {o : HO} (e : Ext H H') (h : H p = none) : Ext H (upd H' p o) := fun b u eb => by
  rw [upd_ne (ne_of_none eb h)]
  exact e b u eb
theorem Ext.free {H H' : Hp} (e : Ext H H') {p : Addr} (h : H' p = none) : H p = none := by
  cases q : H p with
  | none => rfl
  | some o =>
    rw [e p o q] at h
    cases h

/-- xs[j] read, for xs[j] += e -/
def rGetL (K : PySem.W.Frag) : V → V → Hp → VK → Prop := fun x y H Q => ∃ (p : Addr) (xs : List V) (j : Nat) (v : V),
  x = .ref p ∧ y = .int (j : Int) ∧ SqL K H p xs ∧ xs[j]? = some v ∧ Q v H
theorem get_list {X : Cx} : PGet X (rGetL X.K) := by
  intro pins s σ H o i ov iv Q I ro ri h
  obtain ⟨p, xs, j, v, rfl, rfl, hq, hj, q⟩ := h
  cases ro
  obtain ⟨t, rfl⟩ := ri
  obtain ⟨its, r, pl, hz⟩ := I.list hq
  obtain ⟨u, eu, ru⟩ := r.get hj
  have hlt : j < xs.length := (List.getElem?_eq_some_iff.mp hj).1
  have h63 := line63
  refine wpAny_getItem_list (x := u) pl.isList (by omega) (by omega) (by simpa using eu) ?_
  exact ⟨v, H, I, ru, q⟩

/-- one statement, then the rest of a block, with what holds between -/
theorem cutB {X : Cx} {s : Stmt} {r : List Stmt} {D : Ends} {σ : L2.St} {H : Hp} (W : L2.St → Hp → Prop)
    (h2 : ∃ t2, PSs X r t2 ∧ ∀ σ' H', W σ' H' → t2 D σ' H')
    (h1 : ∃ t1, PS X s t1 ∧ ∀ nx : L2.St → Hp → Prop, (∀ σ' H', W σ' H' → nx σ' H') → t1 { D with nx := nx } σ H) :
    ∃ t, PSs X (s :: r) t ∧ t D σ H := by
  obtain ⟨t2, d2, k2⟩ := h2
  obtain ⟨t1, d1, k1⟩ := h1
  exact ⟨_, pss_cons d1 d2, k1 _ k2⟩

/-- no built-in name is taken by the module -/
structure BT (mg : Str → Option Value) : Prop where
  n_len : mg "len" = none
  n_int : mg "int" = none
  n_abs : mg "abs" = none
  n_range : mg "range" = none
  n_repr : mg "repr" = none
  n_isinstance : mg "isinstance" = none
  n_all : mg "all" = none
  n_tuple : mg "tuple" = none
  n_list : mg "list" = none
  n_str : mg "str" = none
  n_bool : mg "bool" = none
  n_dict : mg "dict" = none
  n_sorted : mg "sorted" = none

/-! ### the bag: a list of three ints and the cells; its ints are set aside -/
def bagL (b0 b1 b2 : Int) (c : Addr) : List V := [.int b0, .int b1, .int b2, .ref c]
structure BagI (b0 b1 b2 : Int) : Prop where
  h0 : 0 ≤ b0
  h1 : 0 ≤ b1
  h1' : b1 < 2147483647
  h2 : 0 ≤ b2
def bagP (a c : Addr) : Heap → Prop := fun h => ∃ (b0 b1 b2 : Int) (t0 t1 t2 : Tok) (n : Nat),
  h.get? a = some { cls := .type "list", data := .seq #[.int b0 t0, .int b1 t1, .int b2 t2, .ref c] n } ∧ BagI b0 b1 b2
def Bag (H : Hp) (a : Addr) : Prop := ∃ (c : Addr) (ns : List Int), H a = some (.ext (bagP a c)) ∧
  H c = some (.lst (ns.map V.int)) ∧ (∀ n ∈ ns, 0 ≤ n)
theorem Bag.up {H H' : Hp} {a : Addr} (e : Ext H H') : Bag H a → Bag H' a
  | ⟨c, ns, h1, h2, h3⟩ => ⟨c, ns, e _ _ h1, e _ _ h2, h3⟩

/-- a draw, the bag's ints told -/
def spTake0 : Sp := fun vs H Q _ => ∃ (a c : Addr) (b0 b1 b2 : Int) (ns : List Int) (m : Int),
  vs = [.ref a, .int m] ∧ H a = some (.lst (bagL b0 b1 b2 c)) ∧ H c = some (.lst (ns.map V.int)) ∧ (∀ n ∈ ns, 0 ≤ n) ∧
  BagI b0 b1 b2 ∧ 0 < m ∧ m < 1073741824 ∧
  ∀ (r x0 x1 x2 : Int), 0 ≤ r → r < m → BagI x0 x1 x2 → Q (.int r) (upd H a (.lst (bagL x0 x1 x2 c)))
/-- a draw, the bag set aside -/
def spTake : Sp := fun vs H Q _ => ∃ (a : Addr) (m : Int), vs = [.ref a, .int m] ∧ Bag H a ∧ 0 < m ∧ m < 1073741824 ∧
  ∀ r : Int, 0 ≤ r → r < m → Q (.int r) H

section
variable {P : Program} {w : World} {K : PySem.W.Frag} {mg : Str → Option Value} {base : Heap}

theorem hide {k : Nat} {f : Addr} {fd : FuncData} {ps : List Str} (F : FnOk P w K mg base CX0 k f fd ps spTake0) :
    FnOk P w K mg base CX0 k f fd ps spTake := by
  refine ⟨?_, ?_⟩
  · rintro vs H Q E ⟨a, m, rfl, ⟨c, ns, h1, h2, h3⟩, hm, hm2, q⟩
    have hca : c ≠ a := ne_of h2 h1 (fun z => nomatch z)
    exact F.len [.ref a, .int m] (upd H a (.lst (bagL 0 0 0 c))) (fun _ _ => True) E0
      ⟨a, c, 0, 0, 0, ns, m, rfl, upd_same, by rw [upd_ne hca]; exact h2, h3, ⟨by decide, by decide, by decide, by decide⟩, hm, hm2, fun _ _ _ _ _ _ _ => trivial⟩
  · rintro A outer s H args us vs Q E hr e0 hb rv ⟨a, m, rfl, ⟨c, ns, h1, h2, h3⟩, hm, hm2, q⟩
    have hca : c ≠ a := ne_of h2 h1 (fun z => nomatch z)
    obtain ⟨⟨b0, b1, b2, t0, t1, t2, n, eo, bi⟩, _, _⟩ := e0.hok a _ h1
    have mu : Mut (H a) := by
      rw [h1]
      trivial
    have nw : ObjOk P w (upd H a (.lst (bagL b0 b1 b2 c))) s.heap a (.lst (bagL b0 b1 b2 c)) :=
      ⟨by show 4 ≤ sizeLine; decide, [.int b0 t0, .int b1 t1, .int b2 t2, .ref c], n, .cons ⟨t0, rfl⟩ (.cons ⟨t1, rfl⟩ (.cons ⟨t2, rfl⟩ (.cons rfl .nil))), eo⟩
    have ok1 : HOk P w (upd H a (.lst (bagL b0 b1 b2 c))) s.heap := HOk.write e0.hok mu (Or.inl rfl) (fun _ _ _ z => z) ⟨_, eo⟩ nw
    have un1 : Un (frs outer) [] H (upd H a (.lst (bagL b0 b1 b2 c))) s.heap s.heap := Un.write mu (Or.inl rfl) (fun _ _ _ z => z) ⟨_, eo⟩
    have none1 : ∀ b, H b = none → upd H a (.lst (bagL b0 b1 b2 c)) b = none := fun b z => by
      rw [upd_ne (fun y => by rw [y, h1] at z; cases z)]
      exact z
    have e1 : Env0 P w K mg base A outer s (upd H a (.lst (bagL b0 b1 b2 c))) :=
      ⟨e0.frames, e0.mod, fun b o z => ⟨(e0.bs b o z).1, none1 b (e0.bs b o z).2⟩, e0.bsz, e0.funs, fun b z => none1 b (e0.frf b z), ok1, e0.bare⟩
    have run := F.run A outer s (upd H a (.lst (bagL b0 b1 b2 c))) args us [.ref a, .int m]
      (fun v H' => ∃ (r x0 x1 x2 : Int), v = .int r ∧ 0 ≤ r ∧ r < m ∧ BagI x0 x1 x2 ∧ H' = upd (upd H a (.lst (bagL b0 b1 b2 c))) a (.lst (bagL x0 x1 x2 c)))
      E hr e1 hb rv ⟨a, c, b0, b1, b2, ns, m, rfl, upd_same, by rw [upd_ne hca]; exact h2, h3, bi, hm, hm2, fun r x0 x1 x2 g1 g2 g3 => ⟨r, x0, x1, x2, rfl, g1, g2, g3, rfl⟩⟩
    refine codeAny_mono run ?_
    intro res s' h
    match res, h with
    | .error _, h => exact h.elim
    | .ok .next, h => exact h.elim
    | .ok .brk, h => exact h.elim
    | .ok .cont, h => exact h.elim
    | .ok (.ret u), h =>
      obtain ⟨v, H', os, bare, un, hok', rv', r, x0, x1, x2, rfl, g1, g2, g3, eH⟩ := h
      have hb' : H' a = some (.lst (bagL x0 x1 x2 c)) := by rw [eH, upd_same]
      have back : upd H' a (.ext (bagP a c)) = H := by
        rw [eH, upd_upd, upd_upd]
        funext b
        by_cases z : b = a
        · rw [z, upd_same, h1]
        · rw [upd_ne z]
      have mu' : Mut (H' a) := by
        rw [hb']
        trivial
      obtain ⟨_, its, n', r', eo'⟩ := hok' a _ hb'
      have shape : ∃ y0 y1 y2, its = [.int x0 y0, .int x1 y1, .int x2 y2, .ref c] := by
        cases r' with
        | cons q0 r' => cases r' with
          | cons q1 r' => cases r' with
            | cons q2 r' => cases r' with
              | cons q3 r' =>
                cases r'
                obtain ⟨y0, rfl⟩ := q0
                obtain ⟨y1, rfl⟩ := q1
                obtain ⟨y2, rfl⟩ := q2
                cases q3
                exact ⟨y0, y1, y2, rfl⟩
      obtain ⟨y0, y1, y2, rfl⟩ := shape
      have nw' : ObjOk P w (upd H' a (.ext (bagP a c))) s'.heap a (.ext (bagP a c)) := by
        refine ⟨⟨x0, x1, x2, y0, y1, y2, n', eo', g3⟩, ⟨_, eo'⟩, ?_⟩
        rintro g g' ⟨z0, z1, z2, w0, w1, w2, n2, e2, i2⟩ hk
        exact ⟨z0, z1, z2, w0, w1, w2, n2, hk _ e2, i2⟩
      have ok2 := HOk.write hok' mu' (Or.inl rfl) (fun _ _ _ z => z) ⟨_, eo'⟩ nw'
      have un2 : Un (frs outer) [] H' (upd H' a (.ext (bagP a c))) s'.heap s'.heap := Un.write mu' (Or.inl rfl) (fun _ _ _ z => z) ⟨_, eo'⟩
      rw [back] at ok2 un2
      exact ⟨.int r, H, os, bare, (un1.trans un).trans un2, ok2, rv', q r g1 g2⟩
end
end Ol

set_option Elab.async false
set_option linter.all false
set_option maxRecDepth 100000
set_option maxHeartbeats 4000000
namespace Ol
open PySem PySem.Spec PyProof.Rows L2

/-- what of H' is new over H -/
def nw (H H' : Hp) : Hp := fun b => match H b with
  | none => H' b
  | some _ => none
theorem nw_none {H H' : Hp} {b : Addr} (h : H b = none) : nw H H' b = H' b := by
  unfold nw
  rw [h]
theorem nw_some {H H' : Hp} {b : Addr} {o : HO} (h : H b = some o) : nw H H' b = none := by
  unfold nw
  rw [h]
theorem nw_ext {H H' : Hp} : Ext (nw H H') H' := fun b o e => by
  cases h : H b with
  | none => rwa [nw_none h] at e
  | some u =>
    rw [nw_some h] at e
    cases e
theorem nw_up {H H1 H2 : Hp} (e : Ext H1 H2) : Ext (nw H H1) (nw H H2) := fun b o q => by
  cases h : H b with
  | none =>
    rw [nw_none h] at q ⊢
    exact e b o q
  | some u =>
    rw [nw_some h] at q
    cases q
theorem nw_base {H0 H H' : Hp} (e : Ext H0 H) : Ext (nw H H') (nw H0 H') := fun b o q => by
  cases h : H b with
  | none => 
    rw [nw_none h] at q
    rw [nw_none (e.free h)]
    exact q
  | some u =>
    rw [nw_some h] at q
    cases q
theorem nw_dom {H0 H H' : Hp} (e : ∀ b, H b = none → H0 b = none) : Ext (nw H H') (nw H0 H') := fun b o q => by
  cases h : H b with
  | none =>
    rw [nw_none h] at q
    rw [nw_none (e b h)]
    exact q
  | some u =>
    rw [nw_some h] at q
    cases q
/-- from new over a later heap to new over an earlier one -/
theorem nw_mono {H0 H H1 H2 : Hp} (e : Ext H0 H) (f : Ext H1 H2) : Ext (nw H H1) (nw H0 H2) := (nw_base e).trans (nw_up f)
theorem nw_at {H H' : Hp} {p : Addr} {o : HO} (h : H p = none) : nw H (upd H' p o) p = some o := by rw [nw_none h, upd_same]
theorem nw_mut {H H' : Hp} {p : Addr} {o u : HO} (h : H p = some u) : Ext (nw H H') (nw H (upd H' p o)) := fun b z q => by
  cases g : H b with
  | none =>
    rw [nw_none g] at q ⊢
    rw [upd_ne (fun y => by rw [y, h] at g; cases g)]
    exact q
  | some _ =>
    rw [nw_some g] at q
    cases q

/-- a list comprehension without a test: its items are new things of which R holds -/
theorem lc_ext {J : It} {n : Nat} {G : Hp → Prop} {Y : Nat → Hp → V → Hp → Prop} (w : Walk J n G Y) {j : Nat} {te : TE} {σ : L2.St} {H1 : Hp} {D : Addr} {Qd : Hp → Prop}
    (R : Nat → V → Hp → Prop) (up : ∀ i v H H', Ext H H' → R i v H → R i v H') (hD : H1 D = none) (hn : n ≤ sizeLine) 
    (hG : ∀ H, Ext H1 H → G H)
    (hs : ∀ i x H H', i < n → Ext H1 H → Y i H x H' → Ext H H' ∧ ∀ Q : VK, (∀ y H4, Ext H' H4 → R i y (nw H' H4) → Q y H4) → te ((wipe σ [j]).set j (some x)) H' Q)
    (hd : ∀ H xs, Ext H1 H → H D = some (.lst xs) → xs.length = n → (∀ i y, xs[i]? = some y → R i y (nw H1 H)) → Qd H) :
    ∃ W : Nat → Nat → Hp → Prop, (∃ m, W 0 m (upd H1 D (.lst []))) ∧ ∀ i m H, W i m H →
      (J.stop i H ∧ Qd H) ∨ (J.go i H ∧ ∃ Nx : Hp → Prop, (∀ H', Nx H' → ∃ m', m' < m ∧ W (i + 1) m' H') ∧ ∀ x H', J.yld i H x H' → gName j x (wipe σ [j]) H' fun σ2 H2 => wipe σ2 [j] = wipe σ [j] ∧ tYes σ2 H2 fun b H3 =>
        if b = true then te σ2 H3 fun y H4 => ∃ acc, H4 D = some (.lst acc) ∧ acc.length < sizeLine ∧ Nx (upd H4 D (.lst (acc ++ [y]))) else Nx H3) := by
  let Hs : Hp := upd H1 D (.lst [])
  have hsD : Hs D = some (.lst []) := upd_same
  have e1 : Ext H1 Hs := Ext.new hD
  refine lc_it w (fun i H => ∃ xs, Ext H1 H ∧ H D = some (.lst xs) ∧ xs.length = i ∧ ∀ k y, xs[k]? = some y → R k y (nw Hs H))
    ⟨[], e1, hsD, rfl, fun k y z => by simp at z⟩ (by rintro i H _ ⟨xs, e, _⟩; exact hG H e) ?_ ?_
  · rintro i x H H' hi ⟨xs, e, hx, hl, hr⟩ y
    obtain ⟨e2, ht⟩ := hs i x H H' hi e y
    have hw : wipe ((wipe σ [j]).set j (some x)) [j] = wipe σ [j] := by
      show ((σ.set j none).set j (some x)).set j none = σ.set j none
      rw [List.set_set, List.set_set]
    refine ⟨hw, ?_⟩
    unfold tYes
    dsimp only
    rw [if_pos rfl]
    refine ht _ ?_
    intro v H4 e4 rv
    refine ⟨xs, e4 _ _ (e2 _ _ hx), by omega, xs ++ [v], ?_, upd_same, by rw [List.length_append, hl]; rfl, ?_⟩
    · exact Ext.mut ((e.trans e2).trans e4) hD
    · intro k u hk
      have toN : Ext (nw Hs H4) (nw Hs (upd H4 D (.lst (xs ++ [v])))) := nw_mut hsD
      by_cases hkl : k < xs.length
      · rw [List.getElem?_append_left hkl] at hk
        exact up _ _ _ _ ((nw_up (e2.trans e4)).trans toN) (hr k u hk)
      · have hk2 : k = xs.length := by
          have z := (List.getElem?_eq_some_iff.mp hk).1
          rw [List.length_append] at z
          simp at z
          omega
        subst hk2
        rw [List.getElem?_append_right (Nat.le_refl _), Nat.sub_self] at hk
        have hv : v = u := Option.some.inj hk
        subst hv
        rw [hl]
        have hsub : ∀ b, H' b = none → Hs b = none := by
          intro b q
          have q1 : H b = none := e2.free q
          have z : b ≠ D := fun z => by rw [z, hx] at q1; cases q1
          rw [show Hs b = H1 b from upd_ne z]
          exact e.free q1
        exact up _ _ _ _ ((nw_dom hsub).trans toN) rv
  · rintro H ⟨xs, e, hx, hl, hr⟩
    exact hd H xs e hx hl fun i y z => up _ _ _ _ (nw_base e1) (hr i y z)
end Ol

set_option Elab.async false
set_option linter.all false
set_option maxRecDepth 100000
set_option maxHeartbeats 4000000
namespace Ol
open PySem PySem.Spec PyProof.Rows L2

/-! ### comprehensions that leave the heap but for their list -/
theorem lc_det {J : It} {n : Nat} {G : Hp → Prop} {Y : Nat → Hp → V → Hp → Prop} (w : Walk J n G Y) {j : Nat} {tt : TT} {te : TE} {σ : L2.St} {H1 : Hp} {D : Addr} {Qd : Hp → Prop}
    (f : Nat → V) (p : Nat → Bool) (g : Nat → V) (hD : H1 D = none) (hn : n ≤ sizeLine)
    (hY : ∀ i H x H', i < n → Y i H x H' → H' = H ∧ x = f i) (hG : ∀ H, Ext H1 H → G H)
    (ht : ∀ i H, i < n → Ext H1 H → ∀ Q : Bool → Hp → Prop, Q (p i) H → tt ((wipe σ [j]).set j (some (f i))) H Q)
    (he : ∀ i H, i < n → p i = true → Ext H1 H → ∀ Q : VK, Q (g i) H → te ((wipe σ [j]).set j (some (f i))) H Q)
    (hd : Qd (upd H1 D (.lst (((List.range n).filter p).map g)))) :
    ∃ W : Nat → Nat → Hp → Prop, (∃ m, W 0 m (upd H1 D (.lst []))) ∧ ∀ i m H, W i m H →
      (J.stop i H ∧ Qd H) ∨ (J.go i H ∧ ∃ Nx : Hp → Prop, (∀ H', Nx H' → ∃ m', m' < m ∧ W (i + 1) m' H') ∧ ∀ x H', J.yld i H x H' → gName j x (wipe σ [j]) H' fun σ2 H2 => wipe σ2 [j] = wipe σ [j] ∧ tt σ2 H2 fun b H3 =>
        if b = true then te σ2 H3 fun y H4 => ∃ acc, H4 D = some (.lst acc) ∧ acc.length < sizeLine ∧ Nx (upd H4 D (.lst (acc ++ [y]))) else Nx H3) := by
  have ex : ∀ o, Ext H1 (upd H1 D o) := fun o => Ext.new hD
  refine lc_it w (fun i H => H = upd H1 D (.lst (((List.range i).filter p).map g))) rfl (by rintro i H _ rfl; exact hG _ (ex _)) ?_ (by rintro H rfl; exact hd)
  rintro i x H H' hi rfl y
  obtain ⟨rfl, rfl⟩ := hY i _ _ _ hi y
  have hw : wipe ((wipe σ [j]).set j (some (f i))) [j] = wipe σ [j] := by
    show ((σ.set j none).set j (some (f i))).set j none = σ.set j none
    rw [List.set_set, List.set_set]
  refine ⟨hw, ht i _ hi (ex _) _ ?_⟩
  cases hp : p i with
  | true =>
    rw [if_pos rfl]
    refine he i _ hi hp (ex _) _ ?_
    refine ⟨_, upd_same, ?_, ?_⟩
    · rw [List.length_map]
      have h1 := List.length_filter_le p (List.range i)
      rw [List.length_range] at h1
      omega
    · rw [upd_upd, List.range_succ, List.filter_append, List.map_append]
      rw [show [i].filter p = [i] by rw [List.filter_cons, if_pos hp, List.filter_nil]]
      rfl
  | false =>
    rw [if_neg Bool.false_ne_true, List.range_succ, List.filter_append]
    rw [show [i].filter p = [] by rw [List.filter_cons, if_neg (by rw [hp]; exact Bool.false_ne_true), List.filter_nil]]
    rw [List.append_nil]

/-- sign i of a text -/
def sg (x : Str) (i : Nat) : V := .str ⟨#[x.cps.toList.getD i 0]⟩
theorem its_sg {x : Str} : ∀ (i : Nat) (H : Hp) (v : V) (H' : Hp), i < x.cps.size → (H' = H ∧ ∃ c, x.cps[i]? = some c ∧ v = V.str ⟨#[c]⟩) → H' = H ∧ v = sg x i := by
  rintro i H v H' hi ⟨rfl, c, hc, rfl⟩
  refine ⟨rfl, ?_⟩
  unfold sg
  rw [List.getD_eq_getElem?_getD, Array.getElem?_toList, hc]
  rfl
theorem map_range_getD {α : Type} (h : Nat → α) : ∀ l : List Nat, (List.range l.length).map (fun i => h (l.getD i 0)) = l.map h
  | [] => rfl
  | a :: l => by
    rw [List.length_cons, List.range_succ_eq_map, List.map_cons, List.map_map, List.map_cons]
    congr 1
    exact map_range_getD h l
theorem filter_map_getD (p : Nat → Bool) : ∀ l : List Nat, ((List.range l.length).filter fun i => p (l.getD i 0)).map (fun i => l.getD i 0) = l.filter p
  | [] => rfl
  | a :: l => by
    rw [List.length_cons, List.range_succ_eq_map, List.filter_cons, List.filter_cons, List.filter_map]
    have ih := filter_map_getD p l
    by_cases h : p a = true
    · rw [if_pos h, if_pos (show p ((a :: l).getD 0 0) = true from h), List.map_cons, List.map_map]
      congr 1
    · rw [if_neg h, if_neg (show ¬ p ((a :: l).getD 0 0) = true from h), List.map_map]
      exact ih

/-! ### data, and what the package asks of any value -/
def tyD : PyData → String
  | .none => "NoneType"
  | .bool _ => "bool"
  | .int _ => "int"
  | .str _ => "str"
  | .list _ => "list"
  | .tuple _ => "tuple"
  | .dict _ => "dict"
theorem ty_of {K : PySem.W.Frag} {H : Hp} {v : V} {d : PyData} (h : Dq H v d) : TyX K H v (.type (tyD d)) := by
  cases h with
  | non => exact .base .non
  | bl b => exact .base (.bl b)
  | int i => exact .base (.int i)
  | str x => exact .base (.str x)
  | lst h _ => exact .base (.lst h)
  | tup h _ => exact .base (.tup h)
  | dct h _ => exact .base (.dK h)
def kI : PyData → Bool
  | .int _ => true
  | .bool _ => true
  | _ => false
def kB : PyData → Bool
  | .bool _ => true
  | _ => false
def kS : PyData → Bool
  | .str _ => true
  | _ => false
def kT : PyData → Bool
  | .tuple _ => true
  | _ => false
def kL : PyData → Bool
  | .list _ => true
  | _ => false
def kD : PyData → Bool
  | .dict _ => true
  | _ => false
section
variable {K : PySem.W.Frag}
theorem ki_int (d : PyData) : PySem.W.kitOne K (.type (tyD d)) (.type "int") = some (kI d) := by
  cases d <;> (simp only [tyD, kI]; exact kit_ty (by decide +kernel))
theorem ki_bool (d : PyData) : PySem.W.kitOne K (.type (tyD d)) (.type "bool") = some (kB d) := by
  cases d <;> (simp only [tyD, kB]; exact kit_ty (by decide +kernel))
theorem ki_str (d : PyData) : PySem.W.kitOne K (.type (tyD d)) (.type "str") = some (kS d) := by
  cases d <;> (simp only [tyD, kS]; exact kit_ty (by decide +kernel))
theorem ki_tuple (d : PyData) : PySem.W.kitOne K (.type (tyD d)) (.type "tuple") = some (kT d) := by
  cases d <;> (simp only [tyD, kT]; exact kit_ty (by decide +kernel))
theorem ki_list (d : PyData) : PySem.W.kitOne K (.type (tyD d)) (.type "list") = some (kL d) := by
  cases d <;> (simp only [tyD, kL]; exact kit_ty (by decide +kernel))
theorem ki_dict (d : PyData) : PySem.W.kitOne K (.type (tyD d)) (.type "dict") = some (kD d) := by
  cases d <;> (simp only [tyD, kD]; exact kit_ty (by decide +kernel))
end
def isIntD : PyData → Bool
  | .int _ => true
  | _ => false
theorem isIntD_eq (d : PyData) : isIntD d = (kI d && !kB d) := by cases d <;> rfl
def isNumD : PyData → Bool
  | .int i => decide (0 ≤ i)
  | _ => false
def abc : Str := "abcdefghijklmnopqrstuvwxyz"
def isNameS (x : Str) : Bool := decide (1 ≤ x.length ∧ x.length ≤ 8) && x.cps.toList.all fun c => decide (c ∈ abc.cps.toList)
def isNameD : PyData → Bool
  | .str x => isNameS x
  | _ => false
def isWordS (x : Str) : Bool := decide (x = "close" ∨ x = "ended" ∨ x = "send" ∨ x = "take")
def isWordD : PyData → Bool
  | .str x => isWordS x
  | _ => false
def isElseD : PyData → Bool
  | .str x => decide (x = "else")
  | _ => false
def isArmD : PyData → Bool
  | .tuple [a, b] => isElseD a && isNumD b
  | .tuple [a, b, c] => isWordD a && (isNameD b && isNumD c)
  | _ => false
theorem dq_int {H : Hp} {v : V} {d : PyData} (h : Dq H v d) (e : isIntD d = true) : ∃ i, v = .int i ∧ d = .int i := by
  cases h with
  | int i => exact ⟨i, rfl, rfl⟩
  | _ => cases e
theorem dq_str {H : Hp} {v : V} {d : PyData} (h : Dq H v d) (e : kS d = true) : ∃ x, v = .str x ∧ d = .str x := by
  cases h with
  | str x => exact ⟨x, rfl, rfl⟩
  | _ => cases e
theorem dq_tup {H : Hp} {v : V} {d : PyData} (h : Dq H v d) (e : kT d = true) : ∃ a xs ds, v = .ref a ∧ d = .tuple ds ∧ H a = some (.tup xs) ∧ DqAll H xs ds := by
  cases h with
  | tup h t => exact ⟨_, _, _, rfl, rfl, h, t⟩
  | _ => cases e

/-- a def that tells something of any data (of which C holds) -/
def spPred (C : PyData → Prop) (p : PyData → Bool) : Sp := fun vs H Q _ => ∃ v d, vs = [v] ∧ Dq H v d ∧ C d ∧
  ∀ H', Ext H H' → Q (.bl (p d)) H'
/-- a plain text of bounded length -/
def Tx (x : Str) : Prop := x.length ≤ 1000 ∧ ∀ c ∈ x.cps.toList, c < 128
def Ok1 (d : PyData) : Prop := ∀ x, d = .str x → Tx x
def OkT (d : PyData) : Prop := ∀ ds e, d = .tuple ds → e ∈ ds → Ok1 e
def Any (_ : PyData) : Prop := True

/-- the signs of a text asked one by one -/
theorem signs_all (x : Str) (p : Nat → Bool) : ((List.range x.cps.size).filter (fun _ => true)).map (fun i => V.bl (p (x.cps.toList.getD i 0))) = (x.cps.toList.map p).map V.bl := by
  rw [List.filter_eq_self.mpr (fun _ _ => rfl)]
  have h := map_range_getD (fun c => V.bl (p c)) x.cps.toList
  rw [Array.length_toList] at h
  rw [h, List.map_map]
  rfl
theorem signs_filter (x : Str) (p : Nat → Bool) : ((List.range x.cps.size).filter (fun i => p (x.cps.toList.getD i 0))).map (sg x) = (x.cps.toList.filter p).map fun c => V.str ⟨#[c]⟩ := by
  have h := filter_map_getD p x.cps.toList
  rw [Array.length_toList] at h
  rw [← h, List.map_map]
  rfl
theorem kS_not {d : PyData} (h : (!kS d) = true) : isNameD d = false := by
  cases d with
  | str x => cases h
  | _ => rfl
theorem kS_yes {d : PyData} (h : ¬ (!kS d) = true) : kS d = true := by
  cases e : kS d with
  | true => rfl
  | false => rw [e] at h; exact absurd rfl h
theorem isNameS_short {x : Str} (h : ¬ (1 ≤ x.length ∧ x.length ≤ 8)) : isNameS x = false := by
  unfold isNameS
  rw [decide_eq_false h, Bool.false_and]
theorem isNameS_long {x : Str} (h : 1 ≤ x.length ∧ x.length ≤ 8) : isNameS x = x.cps.toList.all fun c => decide (c ∈ abc.cps.toList) := by
  unfold isNameS
  rw [decide_eq_true h, Bool.true_and]
theorem all_id_map (p : Nat → Bool) : ∀ l : List Nat, (l.map p).all id = l.all p
  | [] => rfl
  | a :: l => by rw [List.map_cons, List.all_cons, List.all_cons, all_id_map p l]; rfl
theorem filter_empty_all (p : Nat → Bool) : ∀ l : List Nat, (l.filter fun c => !p c).isEmpty = l.all p
  | [] => rfl
  | a :: l => by
    rw [List.filter_cons, List.all_cons, ← filter_empty_all p l]
    cases p a <;> rfl
end Ol

set_option Elab.async false
set_option linter.all false
set_option maxRecDepth 100000
set_option maxHeartbeats 4000000
namespace Ol
open PySem PySem.Spec PyProof.Rows L2

/-- a def of the module, found by its name, and its promise -/
structure Ca (P : Program) (w : World) (K : PySem.W.Frag) (mg : Str → Option Value) (base : Heap)
    (k : Nat) (x : Str) (ps : List Str) (sp : Sp) : Prop where
  has : ∃ (f : Addr) (fd : FuncData), FnOk P w K mg base CX0 k f fd ps sp ∧ mg x = some (.ref f) ∧
    PySem.W.keepIn K (.ref f) = true ∧ Binds K fd ps []
/-- the same where no display is under way -/
structure Cg (P : Program) (w : World) (K : PySem.W.Frag) (mg : Str → Option Value) (base : Heap)
    (k : Nat) (x : Str) (ps : List Str) (sp : Sp) : Prop where
  has : ∃ (f : Addr) (fd : FuncData), FnG P w K mg base k f fd ps sp ∧ mg x = some (.ref f) ∧
    PySem.W.keepIn K (.ref f) = true ∧ Binds K fd ps []
section
variable {X : Cx} {k : Nat} {ps : List Str} {sp : Sp} {x : Str} {e : Expr} {es : List Expr} {t : TA} {p pos : Pos}
theorem pe_ca (C : Ca X.prog X.w X.K X.mg X.base k x ps sp) (hr : Room k X.A) (hg : Gl X x) (ha : PA X (e :: es) t)
    (hdb : (x == ("__debug__" : Str)) = false := by decide)
    (he : starEach (e :: es) X.env = (false, eval e X.env) :: starEach es X.env := by rfl)
    (hpl : (backTo pos (starEach es X.env)).any (·.1) = false := by rfl) :
    PE X (.Call (.Name x p) (e :: es) [] pos) (tCall sp [] E0 t) := by
  obtain ⟨f, fd, F, g, kp, b⟩ := C.has
  exact pe_call F hr hg g kp b .nil pass0 ha hdb he hpl
theorem pe_cg (C : Cg X.prog X.w X.K X.mg X.base k x ps sp) (hG : X.A.guards = some []) (hr : Room k X.A) (hg : Gl X x) (ha : PA X (e :: es) t)
    (hdb : (x == ("__debug__" : Str)) = false := by decide)
    (he : starEach (e :: es) X.env = (false, eval e X.env) :: starEach es X.env := by rfl)
    (hpl : (backTo pos (starEach es X.env)).any (·.1) = false := by rfl) :
    PE X (.Call (.Name x p) (e :: es) [] pos) (tCall sp [] E0 t) := by
  obtain ⟨f, fd, F, g, kp, b⟩ := C.has
  exact pe_callG F hG hr hg g kp b ha hdb he hpl
end

/-- == and != of data -/
def rEqQ : R2 := fun x y H Q => ∃ d e, Sys H ∧ Dq H x d ∧ Dq H y e ∧ SeqAt.shaped d = true ∧ SeqAt.shaped e = true ∧ Q (.bl (PyData.eqv d e)) H
def rNeQ : R2 := fun x y H Q => ∃ d e, Sys H ∧ Dq H x d ∧ Dq H y e ∧ SeqAt.shaped d = true ∧ SeqAt.shaped e = true ∧ Q (.bl (!PyData.eqv d e)) H
theorem op_eqQ {X : Cx} {k : Nat} (hr : Room k X.A) : OpR X (compareOp .Eq) rEqQ := by
  intro pins s σ H x y v u Q I rx ry h
  obtain ⟨d, e, S, hd, he, sd, se, q⟩ := h
  obtain ⟨as, r1, _⟩ := Dq.reads I S hd rx
  obtain ⟨bs, r2, _⟩ := Dq.reads I S he ry
  exact SeqAt.compareEq_shaped r1 r2 sd se hr.units ⟨.bl _, H, I, rfl, q⟩
theorem op_neQ {X : Cx} {k : Nat} (hr : Room k X.A) : OpR X (compareOp .NotEq) rNeQ := by
  intro pins s σ H x y v u Q I rx ry h
  obtain ⟨d, e, S, hd, he, sd, se, q⟩ := h
  obtain ⟨as, r1, _⟩ := Dq.reads I S hd rx
  obtain ⟨bs, r2, _⟩ := Dq.reads I S he ry
  exact SeqAt.compareNe_shaped r1 r2 sd se hr.units ⟨.bl _, H, I, rfl, q⟩

/-- data that may be shown -/
structure Fits (d : PyData) : Prop where
  sh : d.showable = true
  dep : d.depth ≤ 40
  len : d.shown.length ≤ sizeLine

/-- f(x, y) of two equal data gives True -/
def spAlike : Sp := fun vs H Q _ => ∃ v u d, vs = [v, u] ∧ Sys H ∧ Dq H v d ∧ Dq H u d ∧ SeqAt.shaped d = true ∧ Fits d ∧
  ∀ H', Ext H H' → Q (.bl true) H'
end Ol

set_option Elab.async false
set_option linter.all false
set_option maxRecDepth 100000
set_option maxHeartbeats 4000000
namespace Ol
open PySem PySem.Spec PyProof.Rows L2

/-- a new bag of a script's cells -/
def spBag0 (K : PySem.W.Frag) : Sp := fun vs H Q _ => ∃ (a : Addr) (ns : List Int), vs = [.ref a] ∧ SqL K H a (ns.map V.int) ∧ ns.length ≤ 1000 ∧
  ∀ (p c : Addr) (cs : List Int) (H' : Hp), H p = none → Ext H H' → H' p = some (.lst (bagL 0 1234567891 0 c)) → H' c = some (.lst (cs.map V.int)) → (∀ n ∈ cs, 0 ≤ n) → c ≠ p → Q (.ref p) H'
def spBag (K : PySem.W.Frag) : Sp := fun vs H Q _ => ∃ (a : Addr) (ns : List Int), vs = [.ref a] ∧ SqL K H a (ns.map V.int) ∧ ns.length ≤ 1000 ∧
  ∀ (p : Addr) (H' : Hp), Ext H H' → Bag H' p → Q (.ref p) H'
section
variable {P : Program} {w : World} {K : PySem.W.Frag} {mg : Str → Option Value} {base : Heap}
theorem hideBag {k : Nat} {f : Addr} {fd : FuncData} {ps : List Str} (F : FnOk P w K mg base CX0 k f fd ps (spBag0 K)) :
    FnOk P w K mg base CX0 k f fd ps (spBag K) := by
  refine ⟨?_, ?_⟩
  · rintro vs H Q E ⟨a, ns, rfl, h1, h2, q⟩
    exact F.len [.ref a] H (fun _ _ => True) E0 ⟨a, ns, rfl, h1, h2, fun _ _ _ _ _ _ _ _ _ _ => trivial⟩
  · rintro A outer s H args us vs Q E hr e0 hb rv ⟨a, ns, rfl, h1, h2, q⟩
    have run := F.run A outer s H args us [.ref a]
      (fun v H' => ∃ (p c : Addr) (cs : List Int), v = .ref p ∧ H p = none ∧ Ext H H' ∧ H' p = some (.lst (bagL 0 1234567891 0 c)) ∧ H' c = some (.lst (cs.map V.int)) ∧ (∀ n ∈ cs, 0 ≤ n) ∧ c ≠ p)
      E hr e0 hb rv ⟨a, ns, rfl, h1, h2, fun p c cs H' g1 g2 g3 g4 g5 g6 => ⟨p, c, cs, rfl, g1, g2, g3, g4, g5, g6⟩⟩
    refine codeAny_mono run ?_
    intro res s' h
    match res, h with
    | .error _, h => exact h.elim
    | .ok .next, h => exact h.elim
    | .ok .brk, h => exact h.elim
    | .ok .cont, h => exact h.elim
    | .ok (.ret u), h =>
      obtain ⟨v, H', os, bare, un, hok', rv', p, c, cs, rfl, g1, g2, g3, g4, g5, g6⟩ := h
      have mu' : Mut (H' p) := by
        rw [g3]
        trivial
      obtain ⟨_, its, n', r', eo'⟩ := hok' p _ g3
      have shape : ∃ y0 y1 y2, its = [.int 0 y0, .int 1234567891 y1, .int 0 y2, .ref c] := by
        cases r' with
        | cons q0 r' => cases r' with
          | cons q1 r' => cases r' with
            | cons q2 r' => cases r' with
              | cons q3 r' =>
                cases r'
                obtain ⟨y0, rfl⟩ := q0
                obtain ⟨y1, rfl⟩ := q1
                obtain ⟨y2, rfl⟩ := q2
                cases q3
                exact ⟨y0, y1, y2, rfl⟩
      obtain ⟨y0, y1, y2, rfl⟩ := shape
      have nw' : ObjOk P w (upd H' p (.ext (bagP p c))) s'.heap p (.ext (bagP p c)) := by
        refine ⟨⟨0, 1234567891, 0, y0, y1, y2, n', eo', by decide, by decide, by decide, by decide⟩, ⟨_, eo'⟩, ?_⟩
        rintro g g' ⟨z0, z1, z2, w0, w1, w2, n2, e2, i2⟩ hk
        exact ⟨z0, z1, z2, w0, w1, w2, n2, hk _ e2, i2⟩
      have ok2 := HOk.write hok' mu' (Or.inl rfl) (fun _ _ _ z => z) ⟨_, eo'⟩ nw'
      have un2 : Un (frs outer) [] H' (upd H' p (.ext (bagP p c))) s'.heap s'.heap := Un.write mu' (Or.inl rfl) (fun _ _ _ z => z) ⟨_, eo'⟩
      refine ⟨.ref p, upd H' p (.ext (bagP p c)), os, bare, un.trans un2, ok2, rv', q p _ (Ext.mut g2 g1) ⟨c, cs, upd_same, ?_, g5⟩⟩
      rw [upd_ne g6]
      exact g4
end

theorem map_range_getI (h : Int → V) : ∀ l : List Int, (List.range l.length).map (fun i => h (l.getD i 0)) = l.map h
  | [] => rfl
  | a :: l => by
    rw [List.length_cons, List.range_succ_eq_map, List.map_cons, List.map_map, List.map_cons]
    congr 1
    exact map_range_getI h l
theorem cut_ints (ns : List Int) (lo hi : Option Int) : ∃ cs : List Int, cutV (ns.map V.int) lo hi = cs.map V.int ∧ cs.length ≤ ns.length := by
  unfold cutV
  refine ⟨(ns.drop (HT.sIx (ns.map V.int).length 0 lo)).take (HT.sIx (ns.map V.int).length (ns.map V.int).length hi - HT.sIx (ns.map V.int).length 0 lo), ?_, ?_⟩
  · rw [List.map_take, List.map_drop]
  · rw [List.length_take, List.length_drop]
    omega
end Ol

set_option Elab.async false
set_option linter.all false
set_option maxRecDepth 100000
set_option maxHeartbeats 4000000
namespace Ol
open PySem PySem.Spec PyProof.Rows L2
open TL (tl joinL join_eq tl_join)

theorem tlen (x : Str) : x.length = (tl x).length := by
  show x.cps.size = x.cps.toList.length
  rw [Array.length_toList]
theorem tl_inj {x y : Str} (h : tl x = tl y) : x = y := by
  obtain ⟨⟨a⟩⟩ := x
  obtain ⟨⟨b⟩⟩ := y
  have h' : a = b := h
  rw [h']
theorem tl_app (x y : Str) : tl (x ++ y) = tl x ++ tl y := by
  show (x.cps ++ y.cps).toList = _
  rw [Array.toList_append]
theorem joinL_nil : ∀ ls : List (List Nat), joinL [] ls = ls.flatten
  | [] => rfl
  | [p] => by show p = [p].flatten; simp
  | p :: q :: r => by
    show p ++ ([] ++ joinL [] (q :: r)) = _
    rw [joinL_nil (q :: r), List.nil_append]
    rfl
def one (c : Nat) : Str := ⟨#[c]⟩
theorem join_signs (cs : List Nat) : tl (Txt.join "" (cs.map one)) = cs := by
  rw [join_eq, tl_join]
  show joinL [] _ = cs
  rw [joinL_nil, List.map_map]
  induction cs with
  | nil => rfl
  | cons a l ih =>
    rw [List.map_cons, List.flatten_cons, ih]
    rfl
theorem ones_len : ∀ cs : List Nat, ((cs.map one).map (·.length)).sum = cs.length
  | [] => rfl
  | a :: l => by
    rw [List.map_cons, List.map_cons, List.sum_cons, ones_len l, List.length_cons]
    show 1 + l.length = l.length + 1
    omega
theorem cut_drop (xs : List V) (t : Nat) : cutV xs (some (t : Int)) none = xs.drop t := by
  unfold cutV
  rw [HT.sIx_none, HT.sIx_nat]
  by_cases h : t ≤ xs.length
  · rw [Nat.min_eq_left h, List.take_of_length_le]
    rw [List.length_drop]
    exact Nat.le_refl _
  · rw [Nat.min_eq_right (by omega), Nat.sub_self, List.take_zero, List.drop_of_length_le (by omega)]
theorem cut_take (xs : List V) (t : Nat) : cutV xs none (some (t : Int)) = xs.take t := by
  unfold cutV
  rw [HT.sIx_none, HT.sIx_nat, Nat.sub_zero, List.drop_zero]
  by_cases h : t ≤ xs.length
  · rw [Nat.min_eq_left h]
  · rw [Nat.min_eq_right (by omega), List.take_of_length_le (Nat.le_refl _), List.take_of_length_le (by omega)]
theorem cutS_drop (z : Str) (t : Nat) : tl (cutS z (some (t : Int)) none) = (tl z).drop t := by
  unfold cutS
  rw [HT.sIx_none, HT.sIx_nat]
  have hl := tlen z
  show List.take _ _ = _
  by_cases h : t ≤ z.length
  · rw [Nat.min_eq_left h, List.take_of_length_le]
    rw [List.length_drop, hl]
    exact Nat.le_refl _
  · rw [Nat.min_eq_right (by omega), Nat.sub_self, List.take_zero, List.drop_of_length_le (by omega)]
theorem cutS_take (z : Str) (t : Nat) : tl (cutS z none (some (t : Int))) = (tl z).take t := by
  unfold cutS
  rw [HT.sIx_none, HT.sIx_nat, Nat.sub_zero]
  have hl := tlen z
  show List.take _ (List.drop 0 _) = _
  rw [List.drop_zero]
  by_cases h : t ≤ z.length
  · rw [Nat.min_eq_left h]
  · rw [Nat.min_eq_right (by omega), List.take_of_length_le (by rw [hl]; exact Nat.le_refl _), List.take_of_length_le (by omega)]

def abcL : List Nat := tl abc
theorem abc_at : ∀ r, r < 26 → abcL[r]? = some (97 + r) := by decide +kernel
theorem abc_mem {r : Nat} (h : r < 26) : 97 + r ∈ abcL := List.mem_of_getElem? (abc_at r h)
theorem abc_low : ∀ c ∈ abcL, c < 128 := by decide +kernel
theorem name_of {x : Str} (h1 : 1 ≤ (tl x).length) (h2 : (tl x).length ≤ 8) (h3 : ∀ c ∈ tl x, c ∈ abcL) : isNameS x = true := by
  rw [isNameS_long (by rw [tlen]; exact ⟨h1, h2⟩), List.all_eq_true]
  exact fun c hc => decide_eq_true (h3 c hc)
theorem name_tl {x : Str} (h : isNameS x = true) : 1 ≤ (tl x).length ∧ (tl x).length ≤ 8 ∧ ∀ c ∈ tl x, c ∈ abcL := by
  unfold isNameS at h
  rw [Bool.and_eq_true] at h
  have h1 := of_decide_eq_true h.1
  rw [tlen] at h1
  exact ⟨h1.1, h1.2, fun c hc => of_decide_eq_true (List.all_eq_true.mp h.2 c hc)⟩
theorem name_tx {x : Str} (h : isNameS x = true) : Tx x := by
  obtain ⟨_, h2, h3⟩ := name_tl h
  exact ⟨by rw [tlen]; omega, fun c hc => abc_low c (h3 c hc)⟩

/-- new names, all different -/
structure Names (ys : List Str) (m : Nat) : Prop where
  len : ys.length = m
  nd : ys.Nodup
  ok : ∀ y ∈ ys, isNameS y = true

def wordsA : Str := "send take ended close else first any step quit server back again where log a b ab ba z"
def wordsB : Str := " stuck seat sticks lane"
def wordL : List Str := ["send", "take", "ended", "close", "else", "first", "any", "step", "quit", "server", "back", "again", "where", "log", "a", "b", "ab", "ba", "z", "stuck", "seat", "sticks", "lane"]
theorem split_words : Txt.split (wordsA ++ wordsB) " " = wordL := by decide +kernel
theorem wordL_ok : ∀ y ∈ wordL, isNameS y = true := by decide +kernel
theorem wordL_rot : ∀ t, t < 20 → (wordL.drop t ++ wordL.take t).Nodup := by decide +kernel
theorem names0 (t m : Nat) (ht : t < 20) (hm : m ≤ 20) : Names ((wordL.drop t ++ wordL.take t).take m) m := by
  refine ⟨?_, (wordL_rot t ht).sublist (List.take_sublist _ _), fun y hy => ?_⟩
  · rw [List.length_take, List.length_append, List.length_drop, List.length_take]
    have e : wordL.length = 23 := rfl
    omega
  · have h := List.mem_of_mem_take hy
    rcases List.mem_append.mp h with h | h
    · exact wordL_ok y (List.mem_of_mem_drop h)
    · exact wordL_ok y (List.mem_of_mem_take h)
def let1 (t k : Nat) : Nat := 97 + (t + 3 * k) % 26
theorem names1 (t m : Nat) (hm : m ≤ 8) : Names ((List.range m).map fun k => one (let1 t k)) m := by
  refine ⟨by rw [List.length_map, List.length_range], ?_, ?_⟩
  · rw [List.nodup_iff_pairwise_ne, List.pairwise_map]
    refine (List.pairwise_lt_range (n := m)).imp_of_mem ?_
    intro a b ha hb hab e
    have ha := List.mem_range.mp ha
    have hb := List.mem_range.mp hb
    have e1 : [let1 t a] = [let1 t b] := congrArg tl e
    have e2 : let1 t a = let1 t b := by injection e1
    unfold let1 at e2
    omega
  · intro y hy
    obtain ⟨k, _, rfl⟩ := List.mem_map.mp hy
    refine name_of (Nat.le_refl 1) (by show 1 ≤ 8; decide) fun c hc => ?_
    have hc' : c ∈ [let1 t k] := hc
    rw [List.mem_singleton] at hc'
    rw [hc']
    exact abc_mem (Nat.mod_lt _ (by decide))
/-- the names of the third style, as texts with these signs -/
theorem names2 (cs : List Nat) (at_ t m : Nat) (f : Nat → Str) (hc1 : 1 ≤ cs.length) (hc7 : cs.length ≤ 7) (hc : ∀ c ∈ cs, c ∈ abcL) (hm : m ≤ 8) (ha : at_ ≤ cs.length)
    (hf : ∀ k, k < m → tl (f k) = cs.take at_ ++ [let1 t k] ++ cs.drop at_) : Names ((List.range m).map f) m := by
  refine ⟨by rw [List.length_map, List.length_range], ?_, ?_⟩
  · rw [List.nodup_iff_pairwise_ne, List.pairwise_map]
    refine (List.pairwise_lt_range (n := m)).imp_of_mem ?_
    intro a b ha hb hab e
    have ha := List.mem_range.mp ha
    have hb := List.mem_range.mp hb
    have e1 := congrArg tl e
    rw [hf a ha, hf b hb, List.append_assoc, List.append_assoc] at e1
    have e2 := List.append_cancel_left e1
    have e3 : let1 t a = let1 t b := by
      simp only [List.cons_append, List.nil_append, List.cons.injEq] at e2
      exact e2.1
    unfold let1 at e3
    omega
  · intro y hy
    obtain ⟨k, hk, rfl⟩ := List.mem_map.mp hy
    have hk := List.mem_range.mp hk
    refine name_of ?_ ?_ fun c hc' => ?_
    · rw [hf k hk]
      simp
      omega
    · rw [hf k hk]
      simp
      omega
    · rw [hf k hk] at hc'
      simp only [List.mem_append, List.mem_singleton] at hc'
      rcases hc' with (h | h) | h
      · exact hc c (List.mem_of_mem_take h)
      · rw [h]
        exact abc_mem (Nat.mod_lt _ (by decide))
      · exact hc c (List.mem_of_mem_drop h)
/-- texts of one sign each -/
theorem ones_of {n : Nat} {xs : List V} (h : xs.length = n) (hr : ∀ (i : Nat) (y : V), xs[i]? = some y → ∃ c, c ∈ abcL ∧ y = .str (one c)) :
    ∃ cs : List Nat, xs = (cs.map one).map V.str ∧ cs.length = n ∧ ∀ c ∈ cs, c ∈ abcL := by
  induction xs generalizing n with
  | nil => exact ⟨[], rfl, h, fun _ z => by cases z⟩
  | cons v xs ih =>
    obtain ⟨cs, e, hl, hc⟩ := ih (n := xs.length) rfl fun i y z => hr (i + 1) y (by rw [List.getElem?_cons_succ]; exact z)
    obtain ⟨c, hm, rfl⟩ := hr 0 v rfl
    refine ⟨c :: cs, by rw [e]; rfl, by rw [← h, List.length_cons, List.length_cons, hl], fun x hx => ?_⟩
    rcases List.mem_cons.mp hx with z | z
    · rw [z]
      exact hm
    · exact hc x z
/-- names drawn from a bag -/
def spNames : Sp := fun vs H Q _ => ∃ (a : Addr) (m : Int), vs = [.ref a, .int m] ∧ Bag H a ∧ 1 ≤ m ∧ m ≤ 8 ∧
  ∀ (p : Addr) (ys : List Str) (H' : Hp), Ext H H' → H p = none → H' p = some (.lst (ys.map V.str)) → Names ys m.toNat → Q (.ref p) H'
end Ol

set_option Elab.async false
set_option linter.all false
set_option maxRecDepth 100000
set_option maxHeartbeats 4000000
namespace Ol
open PySem PySem.Spec PyProof.Rows L2
open TL (tl)

/-! ### s * n, n small -/
def repS (z : Str) (n : Nat) : Str := if n = 0 then Str.empty else if n = 1 then z else ⟨(List.replicate n z.cps).foldl (· ++ ·) #[]⟩
def rRepS : R2 := fun x y H Q => ∃ (z : Str) (n : Nat), x = .str z ∧ y = .int (n : Int) ∧ n ≤ 1000 ∧ z.length = 1 ∧ (repS z n).length ≤ sizeLine ∧ Q (.str (repS z n)) H
theorem op_repS {X : Cx} : OpR X (binaryOp .Mult) rRepS := by
  intro pins s σ H x y v u Q I rx ry h
  obtain ⟨z, n, rfl, rfl, hn, hz, hl, q⟩ := h
  obtain ⟨t, rfl⟩ := rx
  obtain ⟨t', rfl⟩ := ry
  have tl0 : ¬ (n : Int) < 1 → ((n : Int) == 1 || z.length == 0) = false → Builtin.Str.tooLong (z.length * (n : Int).toNat) = false := by
    intro _ _
    unfold Builtin.Str.tooLong
    exact decide_eq_false (by rw [hz]; show ¬ _ > 2 ^ 24; omega)
  refine PySem.P.mul_str ?_ ?_ tl0 ?_
  · rw [decide_eq_false (by omega), decide_eq_false (by omega)]
    rfl
  · intro h1 h2 h3
    have h4 : 0 < (n : Int) := by omega
    have h5 : ((2 : Int) ^ 63 - 1) / n ≥ 1 := Int.le_ediv_of_mul_le h4 (by omega)
    rw [hz] at h3
    omega
  · by_cases h0 : n = 0
    · subst h0
      exact ⟨by decide, .str Str.empty, H, I.tok _, ⟨_, rfl⟩, q⟩
    · rw [if_neg (by omega)]
      by_cases h1 : n = 1
      · subst h1
        rw [if_pos (show (((1 : Nat) : Int) == 1 || z.length == 0) = true from rfl)]
        exact ⟨.str z, H, I, ⟨_, rfl⟩, q⟩
      · have hf : ((n : Int) == 1 || z.length == 0) = false := by
          rw [hz, Bool.or_eq_false_iff]
          exact ⟨beq_eq_false_iff_ne.mpr (by omega), rfl⟩
        rw [hf, if_neg Bool.false_ne_true]
        have e : repS z n = ⟨(List.replicate (n : Int).toNat z.cps).foldl (· ++ ·) #[]⟩ := by
          unfold repS
          rw [if_neg h0, if_neg h1]
          rfl
        rw [e] at q hl
        exact ⟨hl, .str _, H, I.tok _, ⟨_, rfl⟩, q⟩

def far (n : Nat) : Str := "1" ++ repS "0" n
theorem far_int : ∀ n, n < 40 → PySem.intText? (far n) = some (10 ^ n) := by decide +kernel
theorem far_len : ∀ n, n < 40 → (far n).length ≤ 640 ∧ (repS "0" n).length ≤ 1000 := by decide +kernel
theorem pow_fit : ∀ n, n < 40 → ((10 : Int) ^ n).natAbs.log2 < 1920 ∧ (-(10 : Int) ^ n).natAbs.log2 < 1920 := by decide +kernel
theorem pow_len : ∀ n, n < 40 → ((toString ((10 : Int) ^ n) : String) : Str).length ≤ 200 ∧ ((toString (-(10 : Int) ^ n) : String) : Str).length ≤ 200 := by decide +kernel

/-! ### sizes of what is shown -/
theorem pile_le {B : Nat} : ∀ ts : List Str, (∀ t ∈ ts, t.length ≤ B) → piled ts ≤ ts.length * (B + 2)
  | [], _ => Nat.zero_le _
  | t :: ts, h => by
    rw [piled_cons, List.length_cons, Nat.succ_mul]
    have h1 := h t List.mem_cons_self
    have h2 := pile_le ts fun x hx => h x (List.mem_cons_of_mem _ hx)
    omega
theorem join_le (ts : List Str) : (Str.join ", " ts).length ≤ piled ts := by
  by_cases h : ts = []
  · subst h
    exact Nat.zero_le _
  · have := join_length_add ts h
    omega
theorem listText_le (ts : List Str) : (listText ts).length ≤ piled ts + 2 := by
  have e1 : ((("[" : String) : Str)).length = 1 := rfl
  have e2 : ((("]" : String) : Str)).length = 1 := rfl
  rw [listText_eq_join, strLen_append, strLen_append, e1, e2]
  have := join_le ts
  omega
theorem tupleText_le (ts : List Str) : (tupleText ts).length ≤ piled ts + 3 := by
  have e3 : (((if ts.length == 1 then ",)" else ")" : String) : Str)).length ≤ 2 := by split <;> decide +kernel
  have e1 : ((("(" : String) : Str)).length = 1 := rfl
  unfold tupleText
  rw [strLen_append, strLen_append, e1]
  have := join_le ts
  omega
theorem dictText_le (ts : List Str) : (dictText ts).length ≤ piled ts + 2 := by
  have e1 : ((("{" : String) : Str)).length = 1 := rfl
  have e2 : ((("}" : String) : Str)).length = 1 := rfl
  unfold dictText
  rw [strLen_append, strLen_append, e1, e2]
  have := join_le ts
  omega

/-! ### data as a law draws it: how deep, how long when shown -/
structure Gd (n : Nat) (d : PyData) : Prop where
  sh : d.showable = true
  dep : d.depth ≤ n + 1
  len : d.shown.length ≤ 200 * 8 ^ n
  ok1 : Ok1 d
  okt : OkT d
theorem Gd.up {n m : Nat} {d : PyData} (g : Gd n d) (h : n ≤ m) : Gd m d :=
  ⟨g.sh, Nat.le_trans g.dep (by omega), Nat.le_trans g.len (Nat.mul_le_mul_left _ (Nat.pow_le_pow_right (by decide) h)), g.ok1, g.okt⟩
theorem Gd.fits {n : Nat} {d : PyData} (g : Gd n d) (h : n ≤ 5) : Fits d :=
  ⟨g.sh, Nat.le_trans g.dep (by omega), Nat.le_trans (g.up h).len (by decide)⟩
theorem nope1 {d : PyData} (h : kS d = false) : Ok1 d := fun x e => by rw [e] at h; cases h
theorem nopeT {d : PyData} (h : kT d = false) : OkT d := fun ds e z _ => by rw [z] at h; cases h
theorem gd_non : Gd 0 .none := ⟨by simp [PyData.showable], by simp [PyData.depth], by decide +kernel, nope1 rfl, nopeT rfl⟩
theorem gd_bl (b : Bool) : Gd 0 (.bool b) := ⟨by simp [PyData.showable], by simp [PyData.depth], by cases b <;> decide +kernel, nope1 rfl, nopeT rfl⟩
theorem gd_int (i : Int) (h1 : i.natAbs.log2 < 1920) (h2 : ((toString i : String) : Str).length ≤ 200) : Gd 0 (.int i) :=
  ⟨by simpa [PyData.showable] using h1, by simp [PyData.depth], by simpa [PyData.shown] using h2, nope1 rfl, nopeT rfl⟩
theorem gd_str (x : Str) (h1 : x.length ≤ 19) (h2 : ∀ c ∈ tl x, c < 128) : Gd 0 (.str x) := by
  refine ⟨by simp [PyData.showable], by simp [PyData.depth], ?_, fun y e => ?_, nopeT rfl⟩
  · simp only [PyData.shown]
    have h := StrLaws.reprText_len x fun c hc => Nat.lt_of_lt_of_le (h2 c hc) (by decide)
    omega
  · cases e
    exact ⟨by omega, h2⟩
theorem pow8 (n : Nat) : 200 ≤ 200 * 8 ^ n := Nat.le_mul_of_pos_right _ (Nat.pow_pos (by decide))
theorem all_sh {n : Nat} : ∀ {ds : List PyData}, (∀ d ∈ ds, Gd n d) → PyData.showableAll ds = true ∧ PyData.depthAll ds ≤ n + 1 ∧ (∀ t ∈ PyData.shownAll ds, t.length ≤ 200 * 8 ^ n) ∧ (PyData.shownAll ds).length = ds.length
  | [], _ => ⟨by simp [PyData.showableAll], by simp [PyData.depthAll], fun t h => by simp [PyData.shownAll] at h, by simp [PyData.shownAll]⟩
  | d :: ds, h => by
    have g := h d List.mem_cons_self
    obtain ⟨h1, h2, h3, h4⟩ := all_sh fun x hx => h x (List.mem_cons_of_mem _ hx)
    refine ⟨by simp [PyData.showableAll, g.sh, h1], ?_, fun t ht => ?_, by simp [PyData.shownAll, h4]⟩
    · simp only [PyData.depthAll]
      exact Nat.max_le.mpr ⟨g.dep, h2⟩
    · simp only [PyData.shownAll] at ht
      rcases List.mem_cons.mp ht with e | e
      · rw [e]
        exact g.len
      · exact h3 t e
theorem gd_size {n : Nat} {ds : List PyData} (h : ∀ d ∈ ds, Gd n d) (h5 : ds.length ≤ 5) : piled (PyData.shownAll ds) + 3 ≤ 200 * 8 ^ (n + 1) := by
  obtain ⟨_, _, h3, h4⟩ := all_sh h
  have z := pile_le _ h3
  have p := pow8 n
  rw [h4] at z
  have z2 : ds.length * (200 * 8 ^ n + 2) ≤ 5 * (200 * 8 ^ n + 2) := Nat.mul_le_mul_right _ h5
  rw [Nat.pow_succ]
  omega
theorem gd_list {n : Nat} {ds : List PyData} (h : ∀ d ∈ ds, Gd n d) (h5 : ds.length ≤ 5) : Gd (n + 1) (.list ds) := by
  obtain ⟨h1, h2, _, _⟩ := all_sh h
  have z := gd_size h h5
  refine ⟨by simpa [PyData.showable] using h1, by simp only [PyData.depth]; omega, ?_, nope1 rfl, nopeT rfl⟩
  simp only [PyData.shown]
  have := listText_le (PyData.shownAll ds)
  omega
theorem gd_tuple {n : Nat} {ds : List PyData} (h : ∀ d ∈ ds, Gd n d) (h5 : ds.length ≤ 5) : Gd (n + 1) (.tuple ds) := by
  obtain ⟨h1, h2, _, _⟩ := all_sh h
  have z := gd_size h h5
  refine ⟨by simpa [PyData.showable] using h1, by simp only [PyData.depth]; omega, ?_, nope1 rfl, fun es e he hm => ?_⟩
  · simp only [PyData.shown]
    have := tupleText_le (PyData.shownAll ds)
    omega
  · cases he
    exact (h e hm).ok1
theorem gd_nil : Gd 0 (.list []) := ⟨by simp [PyData.showable, PyData.showableAll], by simp [PyData.depth, PyData.depthAll], by decide +kernel, nope1 rfl, nopeT rfl⟩
theorem gd_tnil : Gd 0 (.tuple []) := ⟨by simp [PyData.showable, PyData.showableAll], by simp [PyData.depth, PyData.depthAll], by decide +kernel, nope1 rfl, fun ds e he hm => by cases he; cases hm⟩
theorem gd_dnil : Gd 0 (.dict []) := ⟨by simp [PyData.showable, PyData.showableKv], by simp [PyData.depth, PyData.depthKv], by decide +kernel, nope1 rfl, nopeT rfl⟩
theorem gd_dict1 {n : Nat} {d : PyData} (g : Gd n d) : Gd (n + 1) (.dict [(.str "a", d)]) := by
  refine ⟨by simp [PyData.showable, PyData.showableKv, g.sh], ?_, ?_, nope1 rfl, nopeT rfl⟩
  · simp only [PyData.depth, PyData.depthKv]
    have := g.dep
    omega
  · simp only [PyData.shown, PyData.shownKv]
    have h1 := dictText_le [reprText "a" ++ ": " ++ d.shown]
    have h2 : piled [reprText "a" ++ ": " ++ d.shown] = (reprText "a" ++ ": " ++ d.shown).length + 2 := by simp [piled]
    have h3 : (reprText "a" ++ ": " ++ d.shown).length = 5 + d.shown.length := by
      rw [strLen_append, strLen_append]
      have e : (reprText "a").length = 3 := by decide +kernel
      have e2 : ((": " : Str)).length = 2 := rfl
      omega
    have h4 := g.len
    have p := pow8 n
    rw [Nat.pow_succ]
    omega
/-- a value that stands for such data -/
def Th (n : Nat) (v : V) (H : Hp) : Prop := ∃ d, Dq H v d ∧ Gd n d
theorem Th.up {n m : Nat} {v : V} {H H' : Hp} (h : Th n v H) (e : Ext H H') (hn : n ≤ m) : Th m v H' := by
  obtain ⟨d, h1, h2⟩ := h
  exact ⟨d, h1.up e, h2.up hn⟩
/-- a list of such values -/
theorem th_all {n : Nat} {H : Hp} : ∀ {xs : List V}, (∀ x ∈ xs, Th n x H) → ∃ ds, DqAll H xs ds ∧ (∀ d ∈ ds, Gd n d) ∧ ds.length = xs.length
  | [], _ => ⟨[], .nil, (fun _ h => nomatch h), rfl⟩
  | x :: xs, h => by
    obtain ⟨d, h1, h2⟩ := h x List.mem_cons_self
    obtain ⟨ds, h3, h4, h5⟩ := th_all fun y hy => h y (List.mem_cons_of_mem _ hy)
    refine ⟨d :: ds, .cons h1 h3, fun e he => ?_, by rw [List.length_cons, List.length_cons, h5]⟩
    rcases List.mem_cons.mp he with z | z
    · rw [z]
      exact h2
    · exact h4 e z
theorem th_list {n : Nat} {H : Hp} {p : Addr} {xs : List V} (hp : H p = some (.lst xs)) (h : ∀ x ∈ xs, Th n x H) (h5 : xs.length ≤ 5) : Th (n + 1) (.ref p) H := by
  obtain ⟨ds, h1, h2, h3⟩ := th_all h
  exact ⟨_, .lst hp h1, gd_list h2 (by omega)⟩
theorem th_tuple {n : Nat} {H : Hp} {p : Addr} {xs : List V} (hp : H p = some (.tup xs)) (h : ∀ x ∈ xs, Th n x H) (h5 : xs.length ≤ 5) : Th (n + 1) (.ref p) H := by
  obtain ⟨ds, h1, h2, h3⟩ := th_all h
  exact ⟨_, .tup hp h1, gd_tuple h2 (by omega)⟩
/-- a text drawn from a bag -/
def spText : Sp := fun vs H Q _ => ∃ (a : Addr), vs = [.ref a] ∧ Bag H a ∧ ∀ (x : Str) (H' : Hp), Ext H H' → x.length ≤ 19 → (∀ c ∈ tl x, c < 128) → Q (.str x) H'
/-- a value drawn from a bag, so deep -/
def spPart (n : Nat) : Sp := fun vs H Q _ => ∃ (a : Addr), vs = [.ref a, .int (n : Int)] ∧ Bag H a ∧ ∀ (v : V) (H' : Hp), Ext H H' → Th (2 * n) v (nw H H') → Q v H'
def spThing : Sp := fun vs H Q _ => ∃ (a : Addr), vs = [.ref a] ∧ Bag H a ∧ ∀ (v : V) (H' : Hp), Ext H H' → Th 5 v H' → Q v H'
end Ol

set_option Elab.async false
set_option linter.all false
set_option maxRecDepth 100000
set_option maxHeartbeats 4000000
namespace Ol
open PySem PySem.Spec PyProof.Rows L2

/-- one statement of several -/
theorem cutW {X : Cx} {s : Stmt} {r : List Stmt} {D : Ends} (U W : L2.St → Hp → Prop)
    (h1 : ∃ t1, PS X s t1 ∧ ∀ nx : L2.St → Hp → Prop, (∀ σ' H', W σ' H' → nx σ' H') → ∀ σ H, U σ H → t1 { D with nx := nx } σ H)
    (h2 : ∃ t2, PSs X r t2 ∧ ∀ σ H, W σ H → t2 D σ H) : ∃ t, PSs X (s :: r) t ∧ ∀ σ H, U σ H → t D σ H := by
  obtain ⟨t2, d2, k2⟩ := h2
  obtain ⟨t1, d1, k1⟩ := h1
  exact ⟨_, pss_cons d1 d2, fun σ H u => k1 _ k2 σ H u⟩
theorem tyes {σ : L2.St} {H : Hp} {A B : Hp → Prop} (h : A H) : tYes σ H (fun b H3 => if b = true then A H3 else B H3) := by
  unfold tYes
  dsimp only
  rw [if_pos rfl]
  exact h
/-- any list comprehension of one clause: P holds of the turn, the list so far, and what is new -/
theorem lc_acc {J : It} {n : Nat} {G : Hp → Prop} {Y : Nat → Hp → V → Hp → Prop} (w : Walk J n G Y) {g : TG} {tt : TT} {te : TE} {vs : List Nat} {σ : L2.St} {H1 : Hp} {D : Addr} {Qd : Hp → Prop}
    (P : Nat → List V → Hp → Prop) (up : ∀ i xs H H', Ext H H' → P i xs H → P i xs H') (h0 : P 0 [] (fun _ => none)) (hD : H1 D = none)
    (hlen : ∀ i xs H, P i xs H → xs.length ≤ i) (hn : n ≤ sizeLine) (hG : ∀ H, Ext H1 H → G H)
    (hs : ∀ i x H H' xs, i < n → Ext H1 H → Y i H x H' → P i xs (nw (upd H1 D (.lst [])) H) →
      ∀ (QY : V → Hp → Prop) (QN : Hp → Prop),
        (∀ y H4, Ext H H4 → ((∀ Hz, Ext (nw H H4) Hz → P i xs Hz → P (i + 1) (xs ++ [y]) Hz)) → QY y H4) →
        (∀ H4, Ext H H4 → (∀ Hz, P i xs Hz → P (i + 1) xs Hz) → QN H4) →
        g x (wipe σ vs) H' fun σ2 H2 => wipe σ2 vs = wipe σ vs ∧ tt σ2 H2 fun b H3 => if b = true then te σ2 H3 QY else QN H3)
    (hd : ∀ H xs, Ext H1 H → H D = some (.lst xs) → P n xs (nw H1 H) → Qd H) :
    ∃ W : Nat → Nat → Hp → Prop, (∃ m, W 0 m (upd H1 D (.lst []))) ∧ ∀ i m H, W i m H →
      (J.stop i H ∧ Qd H) ∨ (J.go i H ∧ ∃ Nx : Hp → Prop, (∀ H', Nx H' → ∃ m', m' < m ∧ W (i + 1) m' H') ∧ ∀ x H', J.yld i H x H' → g x (wipe σ vs) H' fun σ2 H2 => wipe σ2 vs = wipe σ vs ∧ tt σ2 H2 fun b H3 =>
        if b = true then te σ2 H3 fun y H4 => ∃ acc, H4 D = some (.lst acc) ∧ acc.length < sizeLine ∧ Nx (upd H4 D (.lst (acc ++ [y]))) else Nx H3) := by
  let Hs : Hp := upd H1 D (.lst [])
  have hsD : Hs D = some (.lst []) := upd_same
  have e1 : Ext H1 Hs := Ext.new hD
  refine lc_it w (fun i H => ∃ xs, Ext H1 H ∧ H D = some (.lst xs) ∧ P i xs (nw Hs H))
    ⟨[], e1, hsD, up 0 [] _ _ (fun _ o z => by have z' : (none : Option HO) = some o := z; cases z') h0⟩ (by rintro i H _ ⟨xs, e, _⟩; exact hG H e) ?_ ?_
  · rintro i x H H' hi ⟨xs, e, hx, hp⟩ y
    have dom : ∀ b, H b = none → Hs b = none := by
      intro b q
      have z : b ≠ D := fun z => by rw [z, hx] at q; cases q
      rw [show Hs b = H1 b from upd_ne z]
      exact e.free q
    refine hs i x H H' xs hi e y hp _ _ ?_ ?_
    · intro v H4 e4 k
      refine ⟨xs, e4 _ _ hx, by have := hlen _ _ _ hp; omega, xs ++ [v], Ext.mut (e.trans e4) hD, upd_same, ?_⟩
      have toN : Ext (nw Hs H4) (nw Hs (upd H4 D (.lst (xs ++ [v])))) := nw_mut hsD
      exact k _ ((nw_dom dom).trans toN) (up _ _ _ _ ((nw_up e4).trans toN) hp)
    · intro H4 e4 k
      exact ⟨xs, e.trans e4, e4 _ _ hx, k _ (up _ _ _ _ (nw_up e4) hp)⟩
  · rintro H ⟨xs, e, hx, hp⟩
    exact hd H xs e hx (up _ _ _ _ (nw_base e1) hp)
end Ol

set_option Elab.async false
set_option linter.all false
set_option maxRecDepth 100000
set_option maxHeartbeats 4000000
namespace Ol
open PySem PySem.Spec PyProof.Rows L2

/-- x in o, o an instance of a class with its own __contains__ -/
def rInO (C : Addr) (sp : Sp) : R2 := fun x y H Q => ∃ (a dx : Addr) (fs : List (Str × V)), y = .ref a ∧ H a = some (.ins C dx fs) ∧
  sp [.ref a, x] H (fun v H' => ∃ b, v = .bl b ∧ Q (.bl b) H') E0
def rNotInO (C : Addr) (sp : Sp) : R2 := fun x y H Q => ∃ (a dx : Addr) (fs : List (Str × V)), y = .ref a ∧ H a = some (.ins C dx fs) ∧
  sp [.ref a, x] H (fun v H' => ∃ b, v = .bl b ∧ Q (.bl (!b)) H') E0
section
variable {X : Cx} {k : Nat} {C f : Addr} {fd : FuncData} {ps : List Str} {sp : Sp}
theorem op_inO (F : FnOk X.prog X.w X.K X.mg X.base CX0 k f fd ps sp) (hr : Room k X.A) (hs : PySem.W.findIn X.K (.ref C) "__contains__" = some (some (.ref f)))
    (hf : PySem.W.isFn X.K (.ref f) = true) (b : Binds X.K fd ps []) : OpR X (compareOp .In) (rInO C sp) := by
  intro pins s σ H x y v u Q I rx ry h
  obtain ⟨a, dx, fs, rfl, ho, h⟩ := h
  cases ry
  obtain ⟨mA, O, _⟩ := ins_get I.hok ho
  obtain ⟨od, J, _⟩ := O.look
  obtain ⟨m, fr⟩ := I.fr
  refine PySem.W.in_K fr I.ok.mod.kin J hs hf ?_
  refine wpAny_mono (run_fn (us := [.ref a, v]) (vs := [.ref a, x]) (E := E0) F hr b .nil pass0 I (.cons rfl (.cons rx .nil)) h) ?_ (fun _ _ z => z)
  rintro r s' ⟨w, H', I', rw', b', rfl, q⟩
  cases rw'
  exact wpAny_truthy_bool ⟨.bl b', H', I', rfl, q⟩
theorem op_notInO (F : FnOk X.prog X.w X.K X.mg X.base CX0 k f fd ps sp) (hr : Room k X.A) (hs : PySem.W.findIn X.K (.ref C) "__contains__" = some (some (.ref f)))
    (hf : PySem.W.isFn X.K (.ref f) = true) (b : Binds X.K fd ps []) : OpR X (compareOp .NotIn) (rNotInO C sp) := by
  intro pins s σ H x y v u Q I rx ry h
  obtain ⟨a, dx, fs, rfl, ho, h⟩ := h
  cases ry
  obtain ⟨mA, O, _⟩ := ins_get I.hok ho
  obtain ⟨od, J, _⟩ := O.look
  obtain ⟨m, fr⟩ := I.fr
  refine PySem.W.notIn_K fr I.ok.mod.kin J hs hf ?_
  refine wpAny_mono (run_fn (us := [.ref a, v]) (vs := [.ref a, x]) (E := E0) F hr b .nil pass0 I (.cons rfl (.cons rx .nil)) h) ?_ (fun _ _ z => z)
  rintro r s' ⟨w, H', I', rw', b', rfl, q⟩
  cases rw'
  exact wpAny_truthy_bool ⟨.bl (!b'), H', I', rfl, q⟩
end
end Ol

set_option Elab.async false
set_option linter.all false
set_option maxRecDepth 100000
set_option maxHeartbeats 4000000
namespace Ol
open PySem PySem.Spec PyProof.Rows L2

/-! ### enumerate(t), t a tuple -/
theorem meets_enumerate_new1 {v : Value} {o : Obj} {H : Heap → Prop} (B : Begins v o H) :
    Meets (Builtin.«enumerate.__new__» ⟨[.type "enumerate", v], []⟩) (fun _ R s => H s.heap ∧
      R (.ok (.ret (.ref (s.heap.push o).objs.size))) { s with heap := (s.heap.push o).push { cls := .type "enumerate", data := .fields #[.none, .bool false, .ref s.heap.objs.size, rawInt 0, .none, .none] } }) :=
  .of_wp fun prog w A R s h => by
    obtain ⟨hp, g, d, tk, os⟩ := s
    obtain ⟨h1, h⟩ := h
    have hsub := sub_enumerate
    have q1 : ∀ {A' : Around} {E : Value → Shared → Prop} {Q : Value → Shared → Prop}, Q (.ref hp.objs.size) ⟨hp.push o, g, d, tk, os⟩ → wpAny (model prog w) A' (pyIter v) Q E ⟨hp, g, d, tk, os⟩ :=
      fun q => B.iter prog w _ _ ⟨hp, g, d, tk, os⟩ _ h1 q
    wp_walk using q1
    refine wpAny_stack_any fun st => wpAny_pure ?_
    split
    · rename_i c _ _ _ _ _
      cases (c == Value.type "enumerate")
      · wp_walk using q1
        exact ⟨_, rfl, h⟩
      · wp_walk using q1
        exact ⟨_, rfl, h⟩
    · wp_walk using q1
      exact ⟨_, rfl, h⟩
section
variable {prog : Program} {w : World} {A : Around} {E : Value → Shared → Prop} {s : Shared}
theorem enum_begins1 {v : Value} {o : Obj} {H : Heap → Prop} {Q : Value → Shared → Prop} (B : Begins v o H) (h1 : H s.heap)
    (h : ∀ h', IsEnum h' (s.heap.objs.size + 1) s.heap.objs.size 0 .none → h'.get? s.heap.objs.size = some o → h'.objs.size = s.heap.objs.size + 2 →
      (∀ b o, s.heap.get? b = some o → h'.get? b = some o) → Q (.ref (s.heap.objs.size + 1)) { s with heap := h' }) :
    wpAny (model prog w) A (call (.type "enumerate") [v]) Q E s := by
  refine callType_new F.called_enumerate (by decide) (F.typeCall_enumerate_1 _) (F.newCall_enumerate_1 _) (fun obj => F.args_object_init_2 obj _) F.entry_enumerate_new
    (meets_enumerate_new1 B) ⟨h1, ?_⟩
  have hz : (s.heap.push o).objs.size = s.heap.objs.size + 1 := Heap.size_push ..
  show _ ∧ _
  rw [hz]
  have he : IsEnum ((s.heap.push o).push { cls := .type "enumerate", data := .fields #[.none, .bool false, .ref s.heap.objs.size, rawInt 0, .none, .none] }) (s.heap.objs.size + 1) s.heap.objs.size 0 .none := by
    have := Heap.get?_push_size (s.heap.push o) (o := { cls := .type "enumerate", data := .fields #[.none, .bool false, .ref s.heap.objs.size, rawInt 0, .none, .none] }) rfl
    rw [hz] at this; exact this
  refine ⟨⟨_, he, rfl⟩, h _ he (Heap.get?_push_of_some _ (Heap.get?_push_size _ B.free)) (by rw [Heap.size_push, hz]) fun b o x => Heap.get?_push_of_some _ (Heap.get?_push_of_some _ x)⟩
end
/-- the tuple at a as it stands, each item with its place in a new pair -/
def IteT (K : PySem.W.Frag) (a : Addr) : It :=
  ⟨fun i H => ∃ (xs : List V) (x : V), SqT K H a xs ∧ xs[i]? = some x, fun i H v H' => ∃ T x, v = .ref T ∧ H T = none ∧ H' = upd H T (.tup [.int (i : Nat), x]) ∧ ∀ xs, SqT K H a xs → xs[i]? = some x, fun i H => ∃ xs : List V, SqT K H a xs ∧ xs.length ≤ i⟩
theorem turn_enumT {P : Program} {w : World} {K : PySem.W.Frag} {elts : List Expr} {kk : Nat} {tpos : Pos} (a e it : Addr) :
    Turn P w K (.Tuple elts kk tpos) (IteT K a) [e, it] e (fun i h => (∃ old, IsEnum h e it ((i : Nat) : Int) old) ∧ h.IsTupleIter it a i ∧ e ≠ it ∧ a ≠ it ∧ e ≠ a) where
  mem := by simp
  obj := fun i h st b hb => by
    obtain ⟨⟨old, he⟩, ⟨o, ho, hc, hd⟩, _⟩ := st
    have e' : b = e ∨ b = it := by simpa using hb
    rcases e' with z | z
    · rw [z]; exact ⟨_, he, fun v q => nomatch q⟩
    · rw [z]; exact ⟨o, ho, fun v q => by rw [hd] at q; cases q⟩
  keep := fun i h h' st k => let ⟨⟨old, he⟩, hi, hne⟩ := st; ⟨⟨old, k e (by simp) _ he⟩, hi.at fun o q => k it (by simp) o q, hne⟩
  item := by
    intro X hP hw hK hc i pins s σ H E I hf st hg
    subst hP hw hK
    obtain ⟨⟨old, he⟩, hit, hne, hai, hea⟩ := st
    obtain ⟨xs, x, hq, hx⟩ := hg
    obtain ⟨its, rv, p, hz⟩ := I.tuple hq
    obtain ⟨u, hu, ru⟩ := rv.get hx
    have hel : e < s.heap.objs.size := Heap.lt_size he
    have hil : it < s.heap.objs.size := by obtain ⟨_, q, _⟩ := hit; exact Heap.lt_size q
    have hlt : i < its.toArray.size := by have := rv.length; have := (List.getElem?_eq_some_iff.mp hx).1; simp; omega
    refine wpAny_pyNext_enum_itemD (Draws.tuple (A := X.A.in1) (show X.A.in1.handled = none from I.ok.hd hc) it a hai its.toArray) he ⟨hit, p⟩ hlt hne (by simp [hne, hea]) fun u' h' tk hu' ho st' hT hsz hk => ?_
    have eu : u' = u := by
      have z : its.toArray[i]? = some u := by simpa using hu
      rw [z] at hu'
      exact (Option.some.inj hu').symm
    subst eu
    refine ⟨_, rfl, wpAny_letOwnedTupleGo_enum (s := { s with heap := h', toks := tk + 1 }) ho fun h'' he' sb => ?_⟩
    have hT2 : h''.get? s.heap.objs.size = some { cls := .type "tuple", data := .seq #[.int i tk, u'] } := (sb.2 _ (Nat.ne_of_gt hel)).trans hT
    have new : ObjOk X.prog X.w (upd H s.heap.objs.size (.tup [.int (i : Nat), x])) h'' s.heap.objs.size (.tup [.int (i : Nat), x]) :=
      ⟨by show 2 ≤ sizeLine; decide, [.int i tk, u'], .cons ⟨_, rfl⟩ (.cons ru .nil), ⟨_, hT2, rfl, _, rfl⟩⟩
    have I1 : Inv X pins σ (upd H s.heap.objs.size (.tup [.int (i : Nat), x])) { s with heap := h'', toks := tk + 1 } :=
      I.turnedNew (ch := [e, it]) (fun b ob hb q => (sb.2 b (fun z => hb (by simp [z]))).trans (hk b ob (fun z => hb (by simp [z])) (fun z => hb (by simp [z])) q)) hf (Nat.le_refl _) new
    refine ⟨.ref s.heap.objs.size, _, I1, rfl, ⟨_, x, rfl, I.hok.fresh (Nat.le_refl _), rfl, fun ys hy => by rw [I.tuple_inj hy hq]; exact hx⟩, ⟨⟨u', ?_⟩, st'.1.at fun o q => (sb.2 it (Ne.symm hne)).trans q, hne, hai, hea⟩, fun b hb => ?_⟩
    · have e1 : ((i + 1 : Nat) : Int) = (i : Int) + 1 := by omega
      rw [e1]; exact he'
    · have hb' : b < s.heap.objs.size := by
        have e' : b = e ∨ b = it := by simpa using hb
        rcases e' with z | z
        · rw [z]; exact hel
        · rw [z]; exact hil
      rw [upd_ne (Nat.ne_of_lt hb')]
      exact (hf b hb).1
  done := by
    intro X hP hw hK hc i pins s σ H E I hf st hg
    subst hP hw hK
    obtain ⟨⟨old, he⟩, hit, hne, hai, hea⟩ := st
    obtain ⟨xs, hq, hx⟩ := hg
    obtain ⟨its, rv, p, hz⟩ := I.tuple hq
    obtain ⟨f0, f1, f2, f3, f4, f5⟩ := hf it (by simp)
    have hl := rv.length
    have hT : s.TypeIs (.ref e) "enumerate" := ⟨_, he, rfl⟩
    unfold pyNext
    refine wpAny_bind (wpAny_attempt (wpAny_callSpecial?_slot (name := Str.ofString "__next__") hT F.slot_enumerate_next
      (wpAny_call_entry F.slot_enumerate_next hT F.entry_enumerate_next ?_ (F.args_enumerate_next_1 _))))
    show wpAny _ _ (field (.ref e) 2 >>= _) _ _ _
    refine wpAny_bind (wpAny_field he rfl (x := .ref it) rfl ?_)
    refine wpAny_bind (wpAny_nextOf_tuple_end (I.ok.hd hc) hit p (by simp; omega) fun h' x he' hx' => ?_)
    obtain ⟨o, ho, hcl⟩ := hx'
    refine wpAny_bind (wpAny_isInstance (T := "StopIteration") (b := true) ⟨o, ho, hcl⟩ isSubtype_stop ?_)
    exact wpAny_pure ⟨rfl, I.turned (t' := s.toks) (fun b o hb q => he' b o hb q) f0 f1 f3 f4 f5⟩
  self := fun A i s Q E st h => let ⟨⟨_, he⟩, _⟩ := st; wpAny_pyIter_enum he h
def iEnumT (K : PySem.W.Frag) (ta : TA) : TI := fun σ H R => ta σ H fun vs H1 => ∃ a xs, vs = [.ref a] ∧ SqT K H1 a xs ∧ R (IteT K a) H1
theorem pi_enumT {X : Cx} {e : Expr} {ta : TA} {p pos tpos : Pos} {elts : List Expr} {kk : Nat} (hg : Gl X "enumerate") (hm : X.mg "enumerate" = none) (ha : PA X [e] ta) (hs : starEach [e] X.env = [(false, eval e X.env)] := by rfl) :
    PI X (.Tuple elts kk tpos) (.Call (.Name "enumerate" p) [e] [] pos) (iEnumT X.K ta) := by
  refine ⟨fun pins s σ H R I h => ?_⟩
  refine Call_ (ld_blt I hg hm boot_enumerate (PyProof.Rows.callWith_type1 (thn (ha.run pos pins s σ H _ I h) fun us s1 ⟨vs, H1, I1, r1, q1⟩ => ?_) hs rfl))
  obtain ⟨a, xs, ex, hq, q⟩ := q1
  subst ex
  cases r1 with
  | cons r rr =>
    cases rr
    cases r
    obtain ⟨its, rv, p', hz⟩ := I1.tuple hq
    have hal : a < s1.heap.objs.size := by obtain ⟨_, q, _⟩ := p'; exact Heap.lt_size q
    refine enum_begins1 (begins_tuple a its.toArray) p' fun h' he hit hsz hk => wpAny_pyIter_enum he ?_
    have I2 : Inv X pins σ H1 { s1 with heap := h' } := I1.kept (t' := s1.toks) hk
    refine ⟨s1.heap.objs.size + 1, [s1.heap.objs.size + 1, s1.heap.objs.size], _, _, H1, rfl, I2, turn_enumT a (s1.heap.objs.size + 1) s1.heap.objs.size, ⟨⟨.none, he⟩, ⟨_, hit, rfl, rfl⟩, Nat.succ_ne_self _, Nat.ne_of_lt hal, Nat.ne_of_gt (Nat.lt_succ_of_lt hal)⟩, fun b hb => ?_, q⟩
    have e' : b = s1.heap.objs.size + 1 ∨ b = s1.heap.objs.size := by simpa using hb
    have hle : s1.heap.objs.size ≤ b := by
      rcases e' with z | z
      · rw [z]; exact Nat.le_add_right _ _
      · rw [z]; exact Nat.le_refl _
    exact I1.fpOk hle (I1.hok.fresh hle)
theorem walk_enumT {K : PySem.W.Frag} {a : Addr} {xs : List V} : Walk (IteT K a) xs.length (fun H => SqT K H a xs) (YPair (fun i => some (.int (i : Nat))) (fun i => xs[i]?)) := by
  refine ⟨fun i _ hi q => ⟨xs, xs[i], q, by simp [hi]⟩, fun _ q => ⟨xs, q, Nat.le_refl _⟩, fun i H v H' _ q y => ?_⟩
  obtain ⟨T, x, h1, h2, h3, h4⟩ := y
  exact ⟨T, .int (i : Nat), x, h1, h2, h3, rfl, h4 xs q⟩
end Ol

set_option Elab.async false
set_option linter.all false
set_option maxRecDepth 100000
set_option maxHeartbeats 4000000
namespace Ol
open PySem PySem.Spec PyProof.Rows L2

/-- a dict comprehension over any walk -/
theorem dc_it {J : It} {n : Nat} {G : Hp → Prop} {Y : Nat → Hp → V → Hp → Prop} (w : Walk J n G Y) {g : TG} {tt : TT} {tk tv : TE} {vs : List Nat} {σ : L2.St} {H1 : Hp} {D : Addr} {Qd : Hp → Prop} (Pv : Nat → Hp → Prop)
    (h0 : Pv 0 (upd H1 D (.dK []))) (hG : ∀ i H, i ≤ n → Pv i H → G H)
    (hs : ∀ i x H H', i < n → Pv i H → Y i H x H' → g x (wipe σ vs) H' fun σ2 H2 => wipe σ2 vs = wipe σ vs ∧ tt σ2 H2 fun b H3 =>
      if b = true then tk σ2 H3 fun y H4 => tv σ2 H4 fun z H5 => ∃ kvs k, y = kV k ∧ H5 D = some (.dK kvs) ∧ kvs.length < sizeLine ∧ Pv (i + 1) (upd H5 D (.dK (putK kvs k z))) else Pv (i + 1) H3) (hd : ∀ H, Pv n H → Qd H) :
    ∃ W : Nat → Nat → Hp → Prop, (∃ m, W 0 m (upd H1 D (.dK []))) ∧ ∀ i m H, W i m H →
      (J.stop i H ∧ Qd H) ∨ (J.go i H ∧ ∃ Nx : Hp → Prop, (∀ H', Nx H' → ∃ m', m' < m ∧ W (i + 1) m' H') ∧ ∀ x H', J.yld i H x H' → g x (wipe σ vs) H' fun σ2 H2 => wipe σ2 vs = wipe σ vs ∧ tt σ2 H2 fun b H3 =>
        if b = true then tk σ2 H3 fun y H4 => tv σ2 H4 fun z H5 => ∃ kvs k, y = kV k ∧ H5 D = some (.dK kvs) ∧ kvs.length < sizeLine ∧ Nx (upd H5 D (.dK (putK kvs k z))) else Nx H3) := by
  refine ⟨fun i m H => m = n - i ∧ i ≤ n ∧ Pv i H, ⟨n, by simp, Nat.zero_le _, h0⟩, ?_⟩
  rintro i m H ⟨rfl, hi, p⟩
  have q := hG i H hi p
  by_cases hlt : i < n
  · exact .inr ⟨w.goes i H hlt q, Pv (i + 1), fun H' p' => ⟨n - (i + 1), by omega, rfl, hlt, p'⟩, fun x H' y => hs i x H H' hlt p (w.yields i H x H' hlt q y)⟩
  · have e : i = n := by omega
    subst e
    exact .inl ⟨w.stops H q, hd H p⟩

/-- names and their places, as a dict holds them -/
def spots (ns : List Str) : List (Key × V) := ns.zipIdx.map fun p => (.inr p.1, .int (p.2 : Int))
theorem spots_len (ns : List Str) : (spots ns).length = ns.length := by unfold spots; rw [List.length_map, List.length_zipIdx]
theorem spots_snoc (ns : List Str) (x : Str) : spots (ns ++ [x]) = spots ns ++ [(.inr x, .int (ns.length : Int))] := by
  unfold spots
  rw [List.zipIdx_append, List.map_append]
  simp
theorem valV_none {kvs : List (Key × V)} {k : Key} (h : ∀ p ∈ kvs, p.1 ≠ k) : valV kvs k = none := by
  induction kvs with
  | nil => rfl
  | cons p r ih => rw [valV_neg (h p List.mem_cons_self), ih fun q hq => h q (List.mem_cons_of_mem _ hq)]
theorem putK_new {kvs : List (Key × V)} {k : Key} {v : V} (h : valV kvs k = none) : putK kvs k v = kvs ++ [(k, v)] := by
  unfold putK
  rw [valV_any, h]
  rfl
theorem spots_key (ns : List Str) : (spots ns).map (·.1) = ns.map Sum.inr := by
  unfold spots
  rw [List.map_map]
  have h : ∀ (l : List Str) (k : Nat), (l.zipIdx k).map ((fun p : Key × V => p.1) ∘ fun p => (Sum.inr p.1, V.int (p.2 : Int))) = l.map Sum.inr := by
    intro l
    induction l with
    | nil => intro k; rfl
    | cons a l ih =>
      intro k
      rw [List.zipIdx_cons, List.map_cons, ih]
      rfl
  exact h ns 0
theorem spots_none {ns : List Str} {x : Str} (h : x ∉ ns) : valV (spots ns) (.inr x) = none := by
  refine valV_none fun p hp e => h ?_
  have z : p.1 ∈ (spots ns).map (·.1) := List.mem_map_of_mem hp
  rw [spots_key, e] at z
  obtain ⟨y, hy, ey⟩ := List.mem_map.mp z
  cases ey
  exact hy
theorem spots_val {ns : List Str} (hd : ns.Nodup) {i : Nat} (hi : i < ns.length) : valV (spots ns) (.inr ns[i]) = some (.int (i : Int)) := by
  unfold spots
  have h : ∀ (l : List Str) (k i : Nat) (hi : i < l.length), l.Nodup → valV ((l.zipIdx k).map fun p => ((.inr p.1, .int (p.2 : Int)) : Key × V)) (.inr l[i]) = some (.int ((k + i : Nat) : Int)) := by
    intro l
    induction l with
    | nil => intro k i hi; cases hi
    | cons a l ih =>
      intro k i hi hn
      rw [List.zipIdx_cons, List.map_cons]
      cases i with
      | zero => exact valV_pos rfl
      | succ i =>
        rw [List.nodup_cons] at hn
        have hi' : i < l.length := by simpa using hi
        rw [valV_neg]
        · show valV _ (Sum.inr l[i]) = _
          rw [ih (k + 1) i hi' hn.2]
          rw [show k + 1 + i = k + (i + 1) by omega]
        · intro z
          have z' : a = l[i] := Sum.inr.inj z
          exact hn.1 (z' ▸ List.getElem_mem hi')
  have z := h ns 0 i hi hd
  rw [Nat.zero_add] at z
  exact z
end Ol

set_option Elab.async false
set_option linter.all false
set_option maxRecDepth 100000
set_option maxHeartbeats 8000000
namespace Ol
open PySem PySem.Spec PyProof.Rows L2
/-! ### {k: v for t0 in i0 if .. for t1 in i1 if ..} -/
abbrev DC2 (kx vx t0 i0 : Expr) (f0 : List Expr) (t1 i1 : Expr) (f1 : List Expr) (scope : Scope) (pos : Pos) : Expr := .DictComp kx vx [⟨t0, i0, f0, 0⟩, ⟨t1, i1, f1, 0⟩] scope pos
/-- a clause's tests, one after the other -/
abbrev Asks (fs : List Expr) (env : Env) : Sem Bool := forIn fs true fun c r => if r = true then do let ok ← isTrue c env (eval c env); pure (ForInStep.yield ok) else pure (ForInStep.yield r)
section
variable {kx vx t0 i0 t1 i1 : Expr} {f0 f1 : List Expr} {scope : Scope} {pos : Pos} {env : Env}
theorem first_turn (it : Value) (D : Addr) : compTurn (DC2 kx vx t0 i0 f0 t1 i1 f1 scope pos) 0 it (.ref D) env = (do
    standAt i0.pos
    match ← pyNext it with
    | none => pure (.done .next)
    | some v =>
      letOwnedTupleGo t0 it v
      assign t0 env v
      let mut ok := true
      for c in f0 do
        if ok then ok ← isTrue c env (eval c env)
      if ok then
        let x ← eval i1 env
        standAt i1.pos
        let x ← foldedSetIterable i1 env x
        let _ ← runOwn (.compStart (DC2 kx vx t0 i0 f0 t1 i1 f1 scope pos) 1 (← holding [x] (pyIter x)) (.ref D) env) env
      again (.compLoop (DC2 kx vx t0 i0 f0 t1 i1 f1 scope pos) 0 it (.ref D) env)) := by rfl
theorem second_turn (it : Value) (D : Addr) : compTurn (DC2 kx vx t0 i0 f0 t1 i1 f1 scope pos) 1 it (.ref D) env = (do
    standAt i1.pos
    match ← pyNext it with
    | none => pure (.done .next)
    | some v =>
      letOwnedTupleGo t1 it v
      assign t1 env v
      let mut ok := true
      for c in f1 do
        if ok then ok ← isTrue c env (eval c env)
      if ok then
        (do
          let kv ← eval kx env
          let vv ← holding [kv] (eval vx env)
          standAt { kx.pos with endLine := vx.pos.endLine, endCol := vx.pos.endCol }
          holding [kv, vv] (dictSet D kv vv))
      again (.compLoop (DC2 kx vx t0 i0 f0 t1 i1 f1 scope pos) 1 it (.ref D) env)) := by rfl
variable {prog : Program} {w : World} {A : Around} {R : Result → Shared → Prop} {s : Shared} {it : Value} {D : Addr}
/-- where an error of the block goes -/
abbrev Bad (prog : Program) (w : World) (A : Around) (env : Env) (R : Result → Shared → Prop) : Value → Shared → Prop := notedBy (model prog w) A env fun e s2 => R (.error e) s2
theorem first_loop (plain : ∀ x, foldedSetIterable i1 env x = pure x) (St : Nat → Shared → Prop)
    (turn : ∀ n s, St n s → wpAny (model prog w) A (pyNext it) (fun got s1 => match got with
      | none => R (.ok .next) s1
      | some v => wpAny (model prog w) A (letOwnedTupleGo t0 it v) (fun _ s2 => wpAny (model prog w) A (assign t0 env v) (fun _ s3 =>
          wpAny (model prog w) A (Asks f0 env) (fun ok s4 =>
            if ok = true then
              wpAny (model prog w) A (eval i1 env) (fun x s5 => wpAny (model prog w) A (pyIter x) (fun it1 s6 =>
                codeAny (model prog w) A (.compStart (DC2 kx vx t0 i0 f0 t1 i1 f1 scope pos) 1 it1 (.ref D) env) (fun r s7 => match r with
                  | .ok _ => ∃ m, m < n ∧ St m s7
                  | .error _ => False) s6) (Bad prog w A env R) s5) (Bad prog w A env R) s4
            else ∃ m, m < n ∧ St m s4) (Bad prog w A env R) s3) (Bad prog w A env R) s2) (Bad prog w A env R) s1) (Bad prog w A env R) s)
    (n : Nat) (start : St n s) : codeAny (model prog w) A (.compLoop (DC2 kx vx t0 i0 f0 t1 i1 f1 scope pos) 0 it (.ref D) env) R s := by
  refine codeAny_loop rfl St ?_ n start
  intro n s now
  show wpAny _ A ((compTurn (DC2 kx vx t0 i0 f0 t1 i1 f1 scope pos) 0 it (.ref D) env).onRaise (fun x => do noteFrame x env; theTreesLotGoes x)) _ _ s
  apply wpAny_noted
  rw [first_turn]
  apply wpAny_bind; apply wpAny_standAt; apply wpAny_bind
  apply wpAny_mono (turn n s now) _ (fun _ _ z => z)
  intro got s1 q1
  cases got with
  | none => exact wpAny_pure q1
  | some v =>
    apply wpAny_bind; apply wpAny_mono q1 _ (fun _ _ z => z); intro _ s2 q2
    apply wpAny_bind; apply wpAny_mono q2 _ (fun _ _ z => z); intro _ s3 q3
    apply wpAny_bind; apply wpAny_mono q3 _ (fun _ _ z => z); intro ok s4 q4
    cases ok with
    | false => exact wpAny_pure ⟨rfl, q4⟩
    | true =>
      apply wpAny_bind; apply wpAny_mono q4 _ (fun _ _ z => z); intro x s5 q5
      apply wpAny_bind; apply wpAny_standAt; apply wpAny_bind; apply wpAny_of_eq (plain x)
      apply wpAny_bind; apply wpAny_holding; apply wpAny_mono q5 _ (fun _ _ z => z); intro it1 s6 q6
      refine wpAny_bind (wpAny_runOwn ?_)
      rw [Around.mark_none]
      apply codeAny_mono q6
      intro r s7 q7
      cases r with
      | error e => exact q7.elim
      | ok f => first | exact wpAny_pure ⟨rfl, q7⟩ | exact wpAny_bind (wpAny_pure (wpAny_pure ⟨rfl, q7⟩))
theorem second_loop (St : Nat → Shared → Prop)
    (turn : ∀ n s, St n s → wpAny (model prog w) A (pyNext it) (fun got s1 => match got with
      | none => R (.ok .next) s1
      | some v => wpAny (model prog w) A (letOwnedTupleGo t1 it v) (fun _ s2 => wpAny (model prog w) A (assign t1 env v) (fun _ s3 =>
          wpAny (model prog w) A (Asks f1 env) (fun ok s4 =>
            if ok = true then
              wpAny (model prog w) A (eval kx env) (fun kv s5 => wpAny (model prog w) A (eval vx env) (fun vv s6 =>
                wpAny (model prog w) A (dictSet D kv vv) (fun _ s7 => ∃ m, m < n ∧ St m s7) (Bad prog w A env R) s6) (Bad prog w A env R) s5) (Bad prog w A env R) s4
            else ∃ m, m < n ∧ St m s4) (Bad prog w A env R) s3) (Bad prog w A env R) s2) (Bad prog w A env R) s1) (Bad prog w A env R) s)
    (n : Nat) (start : St n s) : codeAny (model prog w) A (.compLoop (DC2 kx vx t0 i0 f0 t1 i1 f1 scope pos) 1 it (.ref D) env) R s := by
  refine codeAny_loop rfl St ?_ n start
  intro n s now
  show wpAny _ A ((compTurn (DC2 kx vx t0 i0 f0 t1 i1 f1 scope pos) 1 it (.ref D) env).onRaise (fun x => do noteFrame x env; theTreesLotGoes x)) _ _ s
  apply wpAny_noted
  rw [second_turn]
  apply wpAny_bind; apply wpAny_standAt; apply wpAny_bind
  apply wpAny_mono (turn n s now) _ (fun _ _ z => z)
  intro got s1 q1
  cases got with
  | none => exact wpAny_pure q1
  | some v =>
    apply wpAny_bind; apply wpAny_mono q1 _ (fun _ _ z => z); intro _ s2 q2
    apply wpAny_bind; apply wpAny_mono q2 _ (fun _ _ z => z); intro _ s3 q3
    apply wpAny_bind; apply wpAny_mono q3 _ (fun _ _ z => z); intro ok s4 q4
    cases ok with
    | false => exact wpAny_pure ⟨rfl, q4⟩
    | true =>
      apply wpAny_bind; apply wpAny_bind; apply wpAny_mono q4 _ (fun _ _ z => z); intro kv s5 q5
      apply wpAny_bind; apply wpAny_holding; apply wpAny_mono q5 _ (fun _ _ z => z); intro vv s6 q6
      apply wpAny_bind; apply wpAny_standAt; apply wpAny_holding; apply wpAny_mono q6 _ (fun _ _ z => z); intro _ s7 q7
      exact wpAny_pure ⟨rfl, q7⟩
/-- the second clause begins -/
theorem second_start (own : codeAny (model prog w) A (.compLoop (DC2 kx vx t0 i0 f0 t1 i1 f1 scope pos) 1 it (.ref D) env) R s)
    (anew : wpAny (model prog w) A (pyIter it) (fun it2 s2 => codeAny (model prog w) A (.compLoop (DC2 kx vx t0 i0 f0 t1 i1 f1 scope pos) 1 it2 (.ref D) env) R s2) (Bad prog w A env R) s) :
    codeAny (model prog w) A (.compStart (DC2 kx vx t0 i0 f0 t1 i1 f1 scope pos) 1 it (.ref D) env) R s := by
  apply codeAny_of_tree
  show wpAny _ _ ((compStart (DC2 kx vx t0 i0 f0 t1 i1 f1 scope pos) 1 it (.ref D) env).onRaise (fun x => do noteFrame x env; standAt theWindowsPlace)) _ _ s
  apply wpAny_notedAt
  unfold compStart
  show wpAny _ _ (ask >>= _) _ _ s
  apply wpAny_bind; apply wpAny_askSetting; apply wpAny_ite
  split
  · first
      | exact wpAny_bind (wpAny_pure (wpAny_pure ⟨rfl, own⟩))
      | exact wpAny_pure ⟨rfl, own⟩
  · apply wpAny_bind; apply wpAny_rule
    show wpAny _ _ (standAt i1.pos >>= _) _ _ s
    apply wpAny_bind; apply wpAny_standAt; apply wpAny_bind
    apply wpAny_mono anew _ (fun _ _ z => z)
    intro it2 s2 q2
    exact wpAny_pure ⟨rfl, q2⟩
end
end Ol

set_option Elab.async false
set_option linter.all false
set_option maxRecDepth 100000
set_option maxHeartbeats 16000000
namespace Ol
open PySem PySem.Spec PyProof.Rows L2
/-- a dict comprehension of two clauses: the outer walk's measure W, for each of its things the inner walk's V; keys are ints or texts -/
def tDc2 (wi : TI) (g : TG) (tt : TT) (wi1 : TI) (g1 : TG) (tt1 : TT) (tk tv : TE) (vs vs1 : List Nat) : TE := fun σ H Q => wi σ H fun J Ha => ∀ D, Ha D = none → ∃ W : Nat → Nat → Hp → Prop, (∃ m, W 0 m (upd Ha D (.dK []))) ∧ ∀ i m Hb, W i m Hb →
  (J.stop i Hb ∧ Q (.ref D) Hb) ∨ (J.go i Hb ∧ ∃ On : Hp → Prop, (∀ Hc, On Hc → ∃ m2, m2 < m ∧ W (i + 1) m2 Hc) ∧ ∀ x Hc, J.yld i Hb x Hc → g x (wipe σ vs) Hc fun σ2 Hd => wipe σ2 vs = wipe σ vs ∧ tt σ2 Hd fun b He =>
    if b = true then wi1 σ2 He fun J1 Hf => ∃ V1 : Nat → Nat → Hp → Prop, (∃ k, V1 0 k Hf) ∧ ∀ j k Hg, V1 j k Hg →
      (J1.stop j Hg ∧ On Hg) ∨ (J1.go j Hg ∧ ∃ On1 : Hp → Prop, (∀ Hh, On1 Hh → ∃ k2, k2 < k ∧ V1 (j + 1) k2 Hh) ∧ ∀ y Hh, J1.yld j Hg y Hh → g1 y (wipe σ2 vs1) Hh fun σ3 Hi => wipe σ3 vs1 = wipe σ2 vs1 ∧ tt1 σ3 Hi fun b1 Hj =>
        if b1 = true then tk σ3 Hj fun key Hk => tv σ3 Hk fun val Hl => ∃ kvs k, key = kV k ∧ Hl D = some (.dK kvs) ∧ kvs.length < sizeLine ∧ On1 (upd Hl D (.dK (putK kvs k val))) else On1 Hj)
    else On He)
theorem wipe_apart {σ : L2.St} {vs vs1 : List Nat} (sub : ∀ i ∈ vs1, i ∈ vs) {j : Nat} {v : V} (h : (wipe σ vs)[j]? = some (some v)) : (wipe σ vs1)[j]? = some (some v) := by
  obtain ⟨e, out⟩ := wipe_some h
  rw [wipe_out fun z => out (sub j z)]
  exact e
section
variable {X : Cx}
theorem dc2_core {pins : List (Addr × Obj)} {s : Shared} {σ : L2.St} {H : Hp} {Q : VK} {kx vx t0 i0 t1 i1 : Expr} {f0 f1 : List Expr} {scope : Scope} {own : List (Str × Nat)} {vs1 : List Nat} {pos at_ : Pos} {wi wi1 : TI} {g g1 : TG} {tt tt1 : TT} {tk tv : TE} {use : Option (Value → Sem Unit)} {Qf : Value → Shared → Prop}
    (calm : X.calm = true) (nd : X.N.Nodup) (I : Inv X pins σ H s) (src : PI X t0 i0 wi) (ok : BlkOk X.N X.env.scope scope own) (sub : ∀ i ∈ vs1, i ∈ own.map (·.2))
    (pg : ∀ (s : Shared) (H : Hp) (C : Addr) (cl : List (Str × Addr)) (fp : List Addr), PG (X.blk s H scope (compEnvC scope cl C X.env) fp) t0 g)
    (pt : ∀ (s : Shared) (H : Hp) (C : Addr) (cl : List (Str × Addr)) (fp : List Addr), PTs (X.blk s H scope (compEnvC scope cl C X.env) fp) f0 tt)
    (src1 : ∀ (s : Shared) (H : Hp) (C : Addr) (cl : List (Str × Addr)) (fp : List Addr), PI (X.blk s H scope (compEnvC scope cl C X.env) fp) t1 i1 wi1)
    (pg1 : ∀ (s : Shared) (H : Hp) (C : Addr) (cl : List (Str × Addr)) (fp : List Addr), PG (X.blk s H scope (compEnvC scope cl C X.env) fp) t1 g1)
    (pt1 : ∀ (s : Shared) (H : Hp) (C : Addr) (cl : List (Str × Addr)) (fp : List Addr), PTs (X.blk s H scope (compEnvC scope cl C X.env) fp) f1 tt1)
    (pk : ∀ (s : Shared) (H : Hp) (C : Addr) (cl : List (Str × Addr)) (fp : List Addr), PE (X.blk s H scope (compEnvC scope cl C X.env) fp) kx tk)
    (pw : ∀ (s : Shared) (H : Hp) (C : Addr) (cl : List (Str × Addr)) (fp : List Addr), PE (X.blk s H scope (compEnvC scope cl C X.env) fp) vx tv)
    (plain : ∀ x, foldedSetIterable i0 X.env x = pure x) (plain1 : ∀ env x, foldedSetIterable i1 env x = pure x)
    (h : tDc2 wi g tt wi1 g1 tt1 tk tv (own.map (·.2)) vs1 σ H Q)
    (done : ∀ D C s2 ns H2, Inv X pins σ H2 s2 → Q (.ref D) H2 → s2.heap.Ns C ns → FpOk X pins H2 C → compPost (model X.prog X.w) X.A X.xe use Qf (.ref D) C (.ok .next) s2) :
    wpAny (model X.prog X.w) X.A (comprehension (DC2 kx vx t0 i0 f0 t1 i1 f1 scope pos) scope X.env at_ newDict false (eval i0 X.env) use) Qf X.xe s := by
  have cells : ∀ y ∈ scope.names, y.2 = .free → ∃ c, X.env.cells.lookup y.1 = some c := by
    intro y my free
    exact I.ok.has _ (ok.free y my free)
  apply wpAny_comprehension_free (use := use) rfl plain (closure_ok cells) ok.kind (fun y my free => by rw [ok.uniq y my, free])
  apply thn (src.run pins s σ H _ I h)
  intro seen sa at_src
  apply thn at_src
  rintro itv s2 ⟨it, fp, tn, J, H2, rfl, I2, T, place, foot, q⟩
  refine wpAny_newObj_type (newEnv_comp ?_)
  generalize atD : s2.heap.objs.size = D
  obtain ⟨W, ⟨m0, w0⟩, go_on⟩ := q D (I2.hok.fresh (Nat.le_of_eq atD))
  -- the dict, empty
  generalize made : ({ s2 with heap := s2.heap.push { cls := .type "dict", data := .dict #[] } } : Shared) = s3
  have heap3 : s3.heap = s2.heap.push { cls := .type "dict", data := .dict #[] } := by rw [← made]
  have stays : ∀ b o, s2.heap.get? b = some o → s3.heap.get? b = some o := fun b o z => by
    rw [heap3]
    exact Heap.get?_push_of_some _ z
  have I3 : Inv X pins σ (upd H2 D (.dK [])) s3 := by
    rw [← made]
    apply I2.laid (t' := s2.toks) (fun b o z => Heap.get?_push_of_some _ z) (Nat.le_of_eq atD)
    rw [← atD]
    exact dk_empty s2.heap I2.big
  have foot3 : ∀ b ∈ fp, FpOk X pins (upd H2 D (.dK [])) b ∧ b < s3.heap.objs.size := by
    intro b mb
    obtain ⟨o, got, _⟩ := T.obj _ _ place b mb
    have lt := Heap.lt_size got
    have ne : b ≠ D := atD ▸ Nat.ne_of_lt lt
    constructor
    · exact ⟨by rw [upd_ne ne]; exact (foot b mb).1, (foot b mb).2⟩
    · rw [heap3, Heap.size_push]
      exact Nat.lt_succ_of_lt lt
  have place3 : tn 0 s3.heap := T.keep _ _ _ place fun b _ o z => stays b o z
  have I4 := block_start I3 ok nd foot3
  generalize ecl : cellsFrom (s3.heap.objs.size + 1) scope.names (cloFrom X.env.cells scope.names []) = cl at I4
  have pg := pg s3 (upd H2 D (.dK [])) s3.heap.objs.size cl fp
  have pt := pt s3 (upd H2 D (.dK [])) s3.heap.objs.size cl fp
  have src1 := src1 s3 (upd H2 D (.dK [])) s3.heap.objs.size cl fp
  have pg1 := pg1 s3 (upd H2 D (.dK [])) s3.heap.objs.size cl fp
  have pt1 := pt1 s3 (upd H2 D (.dK [])) s3.heap.objs.size cl fp
  have pk := pk s3 (upd H2 D (.dK [])) s3.heap.objs.size cl fp
  have pw := pw s3 (upd H2 D (.dK [])) s3.heap.objs.size cl fp
  show codeAny _ _ (.compStart (DC2 kx vx t0 i0 f0 t1 i1 f1 scope pos) 0 (.ref it) (.ref D) (compEnvC scope cl s3.heap.objs.size X.env)) (compPost (model X.prog X.w) X.A X.xe use Qf (.ref D) s3.heap.objs.size) { s3 with heap := pushCells (s3.heap.push { cls := .type "dict", data := .dict #[] }) scope.names }
  have blank : ∀ b ∈ fp, (upd H2 D (.dK [])) b = none := fun b mb => (foot3 b mb).1.1
  generalize ece : compEnvC scope cl s3.heap.objs.size X.env = ce at I4 pg pt src1 pg1 pt1 pk pw ⊢
  have here : ce.locals = s3.heap.objs.size := by subst ece; rfl
  generalize e3 : upd H2 D (.dK []) = H3 at I3 I4 pg pt src1 pg1 pt1 pk pw w0 blank foot3
  generalize e4 : ({ s3 with heap := pushCells (s3.heap.push { cls := .type "dict", data := .dict #[] }) scope.names } : Shared) = s4 at I4 ⊢
  have place4 : tn 0 s4.heap := T.keep _ _ _ place3 fun b _ o z => by
    rw [← e4]
    exact pushCells_keeps _ _ _ _ (Heap.get?_push_of_some _ z)
  have foots : ∀ {σ' : L2.St} {H' : Hp} {s' : Shared}, Inv (X.blk s3 H3 scope ce fp) [] σ' H' s' → (∀ b ∈ fp, H' b = none) → ∀ b ∈ fp, FpOk (X.blk s3 H3 scope ce fp) [] H' b := by
    intro σ' H' s' I' no b mb
    have ex := I'.ok.exf b mb
    refine ⟨no b mb, ex.1, I'.ok.exfs b mb, .inl mb, fun x c z => ex.2 x c z, ?_⟩
    intro p mp
    have mp' : p ∈ ([] : List (Addr × Obj)) ++ [] := mp
    simp at mp'
  have whole : codeAny (model X.prog X.w) X.A (.compLoop (DC2 kx vx t0 i0 f0 t1 i1 f1 scope pos) 0 (.ref it) (.ref D) ce) (compPost (model X.prog X.w) X.A X.xe use Qf (.ref D) s3.heap.objs.size) s4 := by
    refine first_loop (plain1 ce) (fun n s' => ∃ i H', Inv (X.blk s3 H3 scope ce fp) [] (wipe σ (own.map (·.2))) H' s' ∧ tn i s'.heap ∧ (∀ b ∈ fp, H' b = none) ∧ W i n H') ?_ m0 ⟨0, H3, I4, place4, blank, w0⟩
    rintro n s5 ⟨i, H5, I5, p5, b5, w5⟩
    rcases go_on i n H5 w5 with ⟨stop, fin⟩ | ⟨go, On, next, step⟩
    · apply thnF (T.done (X.blk s3 H3 scope ce fp) rfl rfl rfl calm i [] s5 _ H5 (fun _ _ => False) I5 (foots I5 b5) p5 stop)
      rintro got s6 ⟨rfl, I6⟩
      have I7 : Inv X pins σ H5 s6 := I3.call' (ch := fp) I6.os I6.base I6.hok I6.bare fun b mb =>
        let z := (foot3 b mb).1.2
        ⟨z.2.2.1, z.1, z.2.2.2.1, z.2.2.2.2⟩
      have none_here : H5 s3.heap.objs.size = none := by
        have z : H5 ce.locals = none := I6.free
        exact here ▸ z
      obtain ⟨ns, at_ns, _⟩ := I6.loc
      have at_ns : s6.heap.Ns ce.locals ns := at_ns
      rw [here] at at_ns
      exact done D s3.heap.objs.size s6 ns H5 I7 fin at_ns (I3.fpOk (Nat.le_refl _) none_here)
    · apply thnF (T.item (X.blk s3 H3 scope ce fp) rfl rfl rfl calm i [] s5 _ H5 (fun _ _ => False) I5 (foots I5 b5) p5 go)
      rintro got s6 ⟨u, rfl, at_u⟩
      apply thnF at_u
      rintro _ s7 ⟨x, H7, I7, rx, y7, p7, b7⟩
      apply thnF (pg.run _ s7 _ H7 x u _ (I7.pinned (foots I7 b7) (T.obj _ _ p7)) rx (step x H7 y7))
      rintro _ s8 ⟨σ8, H8, I8, hw, q8⟩
      apply thnF (pt.run _ s8 σ8 H8 _ I8 q8)
      rintro b s9 ⟨H9, I9, q9⟩
      -- back at the outer walk
      have back : ∀ {σ9 : L2.St} {s' : Shared} {H' : Hp}, Inv (X.blk s3 H3 scope ce fp) ([] ++ pinsAt fp s7.heap) σ9 H' s' → (wipe σ (own.map (·.2))).length = σ9.length →
          (∀ (j : Nat) v, (wipe σ (own.map (·.2)))[j]? = some (some v) → σ9[j]? = some (some v)) → On H' → ∃ m, m < n ∧ ∃ i H', Inv (X.blk s3 H3 scope ce fp) [] (wipe σ (own.map (·.2))) H' s' ∧ tn i s'.heap ∧ (∀ b ∈ fp, H' b = none) ∧ W i m H' := by
        intro σ9 s' H' I' len know on
        obtain ⟨m, lt, w'⟩ := next H' on
        have pinned : ∀ c ∈ fp, ∀ o, s7.heap.get? c = some o → s'.heap.get? c = some o ∧ H' c = none := by
          intro c mc o got
          have z := I'.pin (c, o) (List.mem_append_right _ (List.mem_append_right _ (mem_pinsAt mc got)))
          exact ⟨z.1, z.2.1⟩
        refine ⟨m, lt, i + 1, H', (I'.unpinned (pins := [])).weak len know, T.keep _ _ _ p7 (fun c mc o got => (pinned c mc o got).1), ?_, w'⟩
        intro c mc
        obtain ⟨o, got, _⟩ := T.obj _ _ p7 c mc
        exact (pinned c mc o got).2
      have len8 : (wipe σ (own.map (·.2))).length = σ8.length := hw ▸ wipe_length σ8 _
      have know8 : ∀ (j : Nat) v, (wipe σ (own.map (·.2)))[j]? = some (some v) → σ8[j]? = some (some v) := by
        intro j v z
        rw [← hw] at z
        exact (wipe_some z).1
      have know9 : ∀ (j : Nat) v, (wipe σ (own.map (·.2)))[j]? = some (some v) → (wipe σ8 vs1)[j]? = some (some v) := by
        intro j v z
        rw [← hw] at z
        exact wipe_apart sub z
      by_cases yes : b = true
      case neg =>
        rw [if_neg yes] at q9 ⊢
        exact back I9 len8 know8 q9
      rw [if_pos yes] at q9 ⊢
      apply thnF (src1.run _ s9 σ8 H9 _ I9 q9)
      intro seen1 sb at1
      apply thnF at1
      rintro itv1 s11 ⟨it1, fp1, tn1, J1, H11, rfl, I11, T1, p11, foot1, V1, ⟨m1, w1⟩, turn1⟩
      have foots1 : ∀ {H' : Hp}, (∀ c ∈ fp1, H' c = none) → ∀ c ∈ fp1, FpOk (X.blk s3 H3 scope ce fp) ([] ++ pinsAt fp s7.heap) H' c := fun no c mc => ⟨no c mc, (foot1 c mc).2⟩
      have inner : codeAny (model X.prog X.w) X.A (.compLoop (DC2 kx vx t0 i0 f0 t1 i1 f1 scope pos) 1 (.ref it1) (.ref D) ce)
          (fun r s' => match r with
            | .ok _ => ∃ m, m < n ∧ ∃ i H', Inv (X.blk s3 H3 scope ce fp) [] (wipe σ (own.map (·.2))) H' s' ∧ tn i s'.heap ∧ (∀ b ∈ fp, H' b = none) ∧ W i m H'
            | .error _ => False) s11 := by
        refine second_loop (fun k s' => ∃ j H', Inv (X.blk s3 H3 scope ce fp) ([] ++ pinsAt fp s7.heap) (wipe σ8 vs1) H' s' ∧ tn1 j s'.heap ∧ (∀ c ∈ fp1, H' c = none) ∧ V1 j k H') ?_ m1
          ⟨0, H11, I11.weak (wipe_length _ _) (fun j v z => (wipe_some z).1), p11, fun c mc => (foot1 c mc).1, w1⟩
        rintro k s12 ⟨j, H12, I12, p12, b12, w12⟩
        rcases turn1 j k H12 w12 with ⟨stop1, on⟩ | ⟨go1, On1, next1, step1⟩
        · apply thnF (T1.done (X.blk s3 H3 scope ce fp) rfl rfl rfl calm j _ s12 (wipe σ8 vs1) H12 (fun _ _ => False) I12 (foots1 b12) p12 stop1)
          rintro got s13 ⟨rfl, I13⟩
          exact back I13 (len8.trans (wipe_length σ8 vs1).symm) know9 on
        · apply thnF (T1.item (X.blk s3 H3 scope ce fp) rfl rfl rfl calm j _ s12 (wipe σ8 vs1) H12 (fun _ _ => False) I12 (foots1 b12) p12 go1)
          rintro got s13 ⟨u1, rfl, at_u1⟩
          apply thnF at_u1
          rintro _ s14 ⟨x1, H14, I14, rx1, y14, p14, b14⟩
          apply thnF (pg1.run _ s14 (wipe σ8 vs1) H14 x1 u1 _ (I14.pinned (foots1 b14) (T1.obj _ _ p14)) rx1 (step1 x1 H14 y14))
          rintro _ s15 ⟨σ15, H15, I15, hw15, q15⟩
          apply thnF (pt1.run _ s15 σ15 H15 _ I15 q15)
          rintro b1 s16 ⟨H16, I16, q16⟩
          have back1 : ∀ {s' : Shared} {H' : Hp}, Inv (X.blk s3 H3 scope ce fp) (([] ++ pinsAt fp s7.heap) ++ pinsAt fp1 s14.heap) σ15 H' s' → On1 H' →
              ∃ m, m < k ∧ ∃ j H', Inv (X.blk s3 H3 scope ce fp) ([] ++ pinsAt fp s7.heap) (wipe σ8 vs1) H' s' ∧ tn1 j s'.heap ∧ (∀ c ∈ fp1, H' c = none) ∧ V1 j m H' := by
            intro s' H' I' on1
            obtain ⟨m, lt, w'⟩ := next1 H' on1
            have pinned : ∀ c ∈ fp1, ∀ o, s14.heap.get? c = some o → s'.heap.get? c = some o ∧ H' c = none := by
              intro c mc o got
              have z := I'.pin (c, o) (List.mem_append_right _ (List.mem_append_right _ (mem_pinsAt mc got)))
              exact ⟨z.1, z.2.1⟩
            refine ⟨m, lt, j + 1, H', I'.unpinned.weak (by rw [← hw15, wipe_length]) ?_, T1.keep _ _ _ p14 (fun c mc o got => (pinned c mc o got).1), ?_, w'⟩
            · intro l v z
              rw [← hw15] at z
              exact (wipe_some z).1
            · intro c mc
              obtain ⟨o, got, _⟩ := T1.obj _ _ p14 c mc
              exact (pinned c mc o got).2
          by_cases yes1 : b1 = true
          case neg =>
            rw [if_neg yes1] at q16 ⊢
            exact back1 I16 q16
          rw [if_pos yes1] at q16 ⊢
          apply thnF (pk.run _ s16 σ15 H16 _ I16 q16)
          rintro uk s17 ⟨key, H17, I17, rk, q17⟩
          apply thnF (pw.run _ s17 σ15 H17 _ I17 q17)
          rintro uv s18 ⟨val, H18, I18, rv, kvs, kk, rfl, hD18, few, on1⟩
          exact d_dictSet (X := X.blk s3 H3 scope ce fp) I18 hD18 few rk rv fun s19 I19 => back1 I19 on1
      exact second_start inner (T1.self X.A 0 _ _ _ p11 inner)
  exact codeAny_compStart_dict whole (T.self X.A 0 _ _ _ place4 whole)
/-- as a value -/
theorem pe_dc2 {kx vx t0 i0 t1 i1 : Expr} {f0 f1 : List Expr} {scope : Scope} {own : List (Str × Nat)} {vs1 : List Nat} {pos : Pos} {wi wi1 : TI} {g g1 : TG} {tt tt1 : TT} {tk tv : TE} (calm : X.calm = true) (nd : X.N.Nodup) (src : PI X t0 i0 wi) (ok : BlkOk X.N X.env.scope scope own) (sub : ∀ i ∈ vs1, i ∈ own.map (·.2))
    (pg : ∀ (s : Shared) (H : Hp) (C : Addr) (cl : List (Str × Addr)) (fp : List Addr), PG (X.blk s H scope (compEnvC scope cl C X.env) fp) t0 g)
    (pt : ∀ (s : Shared) (H : Hp) (C : Addr) (cl : List (Str × Addr)) (fp : List Addr), PTs (X.blk s H scope (compEnvC scope cl C X.env) fp) f0 tt)
    (src1 : ∀ (s : Shared) (H : Hp) (C : Addr) (cl : List (Str × Addr)) (fp : List Addr), PI (X.blk s H scope (compEnvC scope cl C X.env) fp) t1 i1 wi1)
    (pg1 : ∀ (s : Shared) (H : Hp) (C : Addr) (cl : List (Str × Addr)) (fp : List Addr), PG (X.blk s H scope (compEnvC scope cl C X.env) fp) t1 g1)
    (pt1 : ∀ (s : Shared) (H : Hp) (C : Addr) (cl : List (Str × Addr)) (fp : List Addr), PTs (X.blk s H scope (compEnvC scope cl C X.env) fp) f1 tt1)
    (pk : ∀ (s : Shared) (H : Hp) (C : Addr) (cl : List (Str × Addr)) (fp : List Addr), PE (X.blk s H scope (compEnvC scope cl C X.env) fp) kx tk)
    (pw : ∀ (s : Shared) (H : Hp) (C : Addr) (cl : List (Str × Addr)) (fp : List Addr), PE (X.blk s H scope (compEnvC scope cl C X.env) fp) vx tv)
    (plain : ∀ x, foldedSetIterable i0 X.env x = pure x := by intro _; rfl) (plain1 : ∀ env x, foldedSetIterable i1 env x = pure x := by intro _ _; rfl) :
    PE X (DC2 kx vx t0 i0 f0 t1 i1 f1 scope pos) (tDc2 wi g tt wi1 g1 tt1 tk tv (own.map (·.2)) vs1) := by
  constructor
  intro pins s σ H Q I h
  rw [arm_eval_DictComp]
  apply dc2_core (use := none) calm nd I src ok sub pg pt src1 pg1 pt1 pk pw plain plain1 h
  intro D C s2 ns H2 I2 q at_ns f
  refine ⟨ns, at_ns, fun h2 same => ?_⟩
  obtain ⟨z0, z1, _, z3, z4, z5⟩ := f
  exact ⟨.ref D, H2, I2.turned (t' := s2.toks) (fun b o ne z => (same.2 b ne).trans z) z0 z1 z3 z4 z5, rfl, q⟩
theorem sw_dict {kx vx : Expr} {gs : List Comprehension} {scope : Scope} {pos py : Pos} {y : Str} {l : Nat} {env : Env} (fn : env.scope.kind = .function) (loc : env.scope.names.lookup y = some .local) (row : (py.line == pos.line) = true)
    (no : (scope.names.any fun (n, k) => n == y && (k == .local || k == .cell)) = false) : swapsWith (.DictComp kx vx gs scope pos) (some (.Name y py)) l env = pure true := by
  have kind : env.kindOf y = some .local := loc
  have blk : env.blockKind = .function := by
    unfold Env.blockKind
    rw [fn]
    rfl
  unfold swapsWith
  simp only [blk, kind, no, Expr.pos, row]
  rfl
/-- stored in a plain name of the def -/
theorem ps_setDc2 {i : Nat} {y : Str} {py spos : Pos} {kx vx t0 i0 t1 i1 : Expr} {f0 f1 : List Expr} {scope : Scope} {own : List (Str × Nat)} {vs1 : List Nat} {pos : Pos} {wi wi1 : TI} {g g1 : TG} {tt tt1 : TT} {tk tv : TE} (calm : X.calm = true) (nd : X.N.Nodup) (hy : X.N[i]? = some y) (loc : X.env.scope.names.lookup y = some .local)
    (sw : swapsWith (DC2 kx vx t0 i0 f0 t1 i1 f1 scope pos) (some (.Name y py)) spos.line X.env = pure true) (src : PI X t0 i0 wi) (ok : BlkOk X.N X.env.scope scope own) (sub : ∀ i ∈ vs1, i ∈ own.map (·.2))
    (pg : ∀ (s : Shared) (H : Hp) (C : Addr) (cl : List (Str × Addr)) (fp : List Addr), PG (X.blk s H scope (compEnvC scope cl C X.env) fp) t0 g)
    (pt : ∀ (s : Shared) (H : Hp) (C : Addr) (cl : List (Str × Addr)) (fp : List Addr), PTs (X.blk s H scope (compEnvC scope cl C X.env) fp) f0 tt)
    (src1 : ∀ (s : Shared) (H : Hp) (C : Addr) (cl : List (Str × Addr)) (fp : List Addr), PI (X.blk s H scope (compEnvC scope cl C X.env) fp) t1 i1 wi1)
    (pg1 : ∀ (s : Shared) (H : Hp) (C : Addr) (cl : List (Str × Addr)) (fp : List Addr), PG (X.blk s H scope (compEnvC scope cl C X.env) fp) t1 g1)
    (pt1 : ∀ (s : Shared) (H : Hp) (C : Addr) (cl : List (Str × Addr)) (fp : List Addr), PTs (X.blk s H scope (compEnvC scope cl C X.env) fp) f1 tt1)
    (pk : ∀ (s : Shared) (H : Hp) (C : Addr) (cl : List (Str × Addr)) (fp : List Addr), PE (X.blk s H scope (compEnvC scope cl C X.env) fp) kx tk)
    (pw : ∀ (s : Shared) (H : Hp) (C : Addr) (cl : List (Str × Addr)) (fp : List Addr), PE (X.blk s H scope (compEnvC scope cl C X.env) fp) vx tv)
    (plain : ∀ x, foldedSetIterable i0 X.env x = pure x := by intro _; rfl) (plain1 : ∀ env x, foldedSetIterable i1 env x = pure x := by intro _ _; rfl) :
    PS X (.Assign [.Name y py] (DC2 kx vx t0 i0 f0 t1 i1 f1 scope pos) spos) (tAsg (tDc2 wi g tt wi1 g1 tt1 tk tv (own.map (·.2)) vs1) (gName i)) := by
  constructor
  intro pins s σ H D I h
  rw [exec_Assign_Name_used _ _ _ _ sw]
  apply wpAny_bind; apply wpAny_standAt; apply wpAny_bind
  show wpAny _ X.A (do
    let _ ← comprehension (DC2 kx vx t0 i0 f0 t1 i1 f1 scope pos) scope X.env (firstIterPos [⟨t0, i0, f0, 0⟩, ⟨t1, i1, f1, 0⟩] pos) newDict false (eval i0 X.env) (some (assign (.Name y py) X.env))) _ _ s
  apply wpAny_bind
  apply thn (Q := fun _ s2 => SP X pins D .next s2)
  · have h2 : tDc2 wi g tt wi1 g1 tt1 tk tv (own.map (·.2)) vs1 σ H (fun x H1 => gName i x σ H1 D.nx) := h
    apply dc2_core (Qf := fun _ s2 => SP X pins D .next s2) calm nd I src ok sub pg pt src1 pg1 pt1 pk pw plain plain1 h2
    intro L C s2 ns H2 I2 q at_ns f
    obtain ⟨z0, z1, _, z3, z4, z5⟩ := f
    show wpAny _ _ (assign (.Name y py) X.env (.ref L)) _ _ _
    refine wpAny_assign_Name (store_ok2 (v := V.ref L) I2 nd hy (.inl loc) rfl ?_ (.inr loc))
    rintro s3 I3 ⟨c, sb, own⟩
    have apart : C ≠ c := by
      rcases own with z | z
      · rw [z]
        exact z1
      · exact fun e => z4 y c z e.symm
    refine ⟨ns, at_ns.sameBut sb apart, fun h3 same => ?_⟩
    exact ⟨_, H2, I3.turned (t' := s3.toks) (fun b o ne z => (same.2 b ne).trans z) z0 z1 z3 z4 z5, q⟩
  · intro _ s2 q
    exact wpAny_pure (wpAny_pure q)
end
end Ol

set_option Elab.async false
set_option linter.all false
set_option maxRecDepth 100000
set_option maxHeartbeats 4000000
namespace Ol
open PySem PySem.Spec PyProof.Rows L2

/-- a method of class C and its promise -/
structure Cm (P : Program) (w : World) (K : PySem.W.Frag) (mg : Str → Option Value) (base : Heap)
    (C : Addr) (k : Nat) (m : Str) (ps : List Str) (sp : Sp) : Prop where
  has : ∃ (f : Addr) (fd : FuncData), FnOk P w K mg base CX0 k f fd ps sp ∧ Meth K C m f ∧ Binds K fd ps []
section
variable {X : Cx} {k : Nat} {C : Addr} {ps : List Str} {sp : Sp} {m : Str} {o e : Expr} {es : List Expr} {ta : TE} {t : TA} {apos pos : Pos}
theorem pe_cm {pl : Sem Bool} (M : Cm X.prog X.w X.K X.mg X.base C k m ps sp) (c : Cls X.K C) (hr : Room k X.A) (he : PE X o ta) (ha : PA X (e :: es) t)
    (hst : starEach (e :: es) X.env = (false, eval e X.env) :: starEach es X.env := by rfl) (hpl : (backTo pos (starEach es X.env)).any (·.1) = false := by rfl)
    (ht : eval (.Call (.Attribute o m apos) (e :: es) [] pos) X.env = (do
      let ov ← eval o X.env
      standAt apos.atName
      let (f, first) ← holding [ov] (getMethod ov m pl)
      callWith pos f first (backTo pos (starEach (e :: es) X.env)) (backToKw pos (keywordEach [] X.env))) := by rfl) :
    PE X (.Call (.Attribute o m apos) (e :: es) [] pos) (tMeth C m sp [] E0 ta t) := by
  obtain ⟨f, fd, F, hm, b⟩ := M.has
  exact pe_meth he c hm F hr b .nil pass0 ha hst hpl ht
theorem op_notInM (M : Cm X.prog X.w X.K X.mg X.base C k "__contains__" ps sp) (hr : Room k X.A) : OpR X (compareOp .NotIn) (rNotInO C sp) := by
  obtain ⟨f, fd, F, hm, b⟩ := M.has
  exact op_notInO F hr hm.at_ hm.fn b
end

/-! ### t * 1 -/
theorem tuple_mul1 (l : Addr) (items : Array Value) (n : Nat) (dd : Option Addr) (sl : Array (Option Value)) (u : Tok) (hi : items.isEmpty = false) :
    Meets (Builtin.«tuple.__mul__» ⟨[.ref l, .int 1 u], []⟩) (fun _ R s => s.heap.get? l = some { cls := .type "tuple", dict := dd, data := .seq items n, slots := sl } ∧
      R (.ok (.ret (Value.ref l))) s) :=
  .of_wp fun prog w A R s h => by
    obtain ⟨hp, g, d, tk, os⟩ := s
    obtain ⟨hl, h⟩ := h
    have f1 := AutoSeq1.idx_int
    wp_walk using wpAny_loadPart' hl
    exact ⟨_, rfl, h⟩
/-- t * k, 1 ≤ k -/
def rRepA (K : PySem.W.Frag) : R2 := fun x y H Q => ∃ l k xs, x = .ref l ∧ y = .int k ∧ SqT K H l xs ∧ xs ≠ [] ∧ 1 ≤ k ∧ k ≤ 1000 ∧ xs.length ≤ 1000 ∧
  (k = 1 → Q (.ref l) H) ∧ (2 ≤ k → ∀ p, H p = none → Q (.ref p) (upd H p (.tup (List.replicate k.toNat xs).flatten)))
theorem op_repA {X : Cx} : OpR X (binaryOp .Mult) (rRepA X.K) := by
  intro pins s σ H x y v u Q I rx ry h
  obtain ⟨l, k, xs, ex, ey, hT, hne, h1, h2, hz, q1, q2⟩ := h
  by_cases hk : 2 ≤ k
  · exact op_repT pins s σ H x y v u Q I rx ry ⟨l, k, xs, ex, ey, hT, hne, hk, h2, hz, q2 hk⟩
  · have e1 : k = 1 := by omega
    subst ex ey e1
    cases rx
    obtain ⟨t, rfl⟩ := ry
    obtain ⟨its, r, ⟨⟨cls, dd, data, sl⟩, ho, hc, n, hd⟩, hs⟩ := I.tuple hT
    simp only at hc hd
    subst hc hd
    have hle : its.length = xs.length := r.length.symm
    have hn : its ≠ [] := fun e => hne (by
      rw [e] at hle
      exact List.eq_nil_of_length_eq_zero hle.symm)
    have hi : its.toArray.isEmpty = false := by
      cases its with
      | nil => exact absurd rfl hn
      | cons a b => rfl
    exact wpAny_binaryOp_repeat_ref (T := "tuple") (U := "int") (by decide) ⟨_, ho, rfl⟩ (fun s' => typeIs_int s' 1 t) noFill_tuple_mul F.fills_int_mul F.slot_int_rmul repeat_tuple F.slot_int_index.lookup
      (call_meets F.slot_int_rmul (typeIs_int s 1 t) F.entry_int_rmul (F.args_int_rmul_2 _ _) (int_rmul_tuple 1 t l its.toArray n dd sl)
        ⟨ho, rfl, ⟨_, ho, rfl⟩, call_meets F.slot_tuple_mul ⟨_, ho, rfl⟩ F.entry_tuple_mul (F.args_tuple_mul_2 _ _) (tuple_mul1 l its.toArray n dd sl t hi) ⟨ho, .ref l, H, I, rfl, q1 rfl⟩⟩)
end Ol

set_option Elab.async false
set_option linter.all false
set_option maxRecDepth 100000
set_option maxHeartbeats 4000000
namespace Ol
open PySem PySem.Spec PyProof.Rows L2

/-- a method that may raise, within a try -/
def tMethX (C : Addr) (m : Str) (sp : Sp) (E : L2.St → XK) (ta : TE) (t : TA) : TE := fun σ H Q => ta σ H fun x H1 => ∃ a dx fs, x = .ref a ∧ H1 a = some (.ins C dx fs) ∧ fs.lookup m = none ∧
  t σ H1 fun vs H2 => sp (x :: vs) H2 Q (E σ)
/-- a method that may raise, and its promise -/
structure CmX (P : Program) (w : World) (K : PySem.W.Frag) (mg : Str → Option Value) (base : Heap)
    (C : Addr) (k : Nat) (m : Str) (ps : List Str) (sp : Sp) : Prop where
  has : ∃ (f : Addr) (fd : FuncData), FnOk P w K mg base (L2.CX P w) k f fd ps sp ∧ Meth K C m f ∧ Binds K fd ps []
section
variable {X : Cx} {k : Nat} {C : Addr} {ps : List Str} {sp : Sp} {m : Str} {o e : Expr} {es : List Expr} {ta : TE} {t : TA} {apos pos : Pos} {E : L2.St → XK}
theorem pe_cmX {pl : Sem Bool} (M : CmX X.prog X.w X.K X.mg X.base C k m ps sp) (c : Cls X.K C) (hr : Room k X.A) (hx : ∀ σ, PassesAt (L2.CX X.prog X.w) X σ (E σ)) (he : PE X o ta) (ha : PA X (e :: es) t)
    (hst : starEach (e :: es) X.env = (false, eval e X.env) :: starEach es X.env := by rfl) (hpl : (backTo pos (starEach es X.env)).any (·.1) = false := by rfl)
    (ht : eval (.Call (.Attribute o m apos) (e :: es) [] pos) X.env = (do
      let ov ← eval o X.env
      standAt apos.atName
      let (f, first) ← holding [ov] (getMethod ov m pl)
      callWith pos f first (backTo pos (starEach (e :: es) X.env)) (backToKw pos (keywordEach [] X.env))) := by rfl) :
    PE X (.Call (.Attribute o m apos) (e :: es) [] pos) (tMethX C m sp E ta t) := by
  obtain ⟨f, fd, F, hm, b⟩ := M.has
  refine ⟨fun pins s σ H Q I h => ?_⟩
  refine PySem.W.methodCall_KW (pl := pl) (thn (he.run pins s σ H _ I h) fun u s1 ⟨x, H1, I1, rx, a, dx, fs, ex, ea, l, q⟩ => ?_) ht
  subst ex
  obtain rfl : u = Value.ref a := rx
  refine getmeth_ok I1 ea c hm l ?_
  refine PySem.W.callWith_K (first := [.ref a]) (h₀ := X.base) I.ok.mod.kin hm.kp (thn (ha.run pos pins s1 σ H1 _ I1 q) fun us s2 ⟨vs, H2, I2, r, q2⟩ => ⟨I2.kIn, ?_⟩) hst hpl
  exact run_fnS (us := .ref a :: us) (vs := .ref a :: vs) F hr b (hx σ) I2 (.cons rfl r) q2
end
end Ol

set_option Elab.async false
set_option linter.all false
set_option maxRecDepth 100000
set_option maxHeartbeats 4000000
namespace Ol
open PySem PySem.Spec PyProof.Rows L2 RZ

theorem walk_zipT {K : PySem.W.Frag} {a b : Addr} {xs ys : List V} {n : Nat} (hn : n = min xs.length ys.length) : Walk (ItzT K a b) n (fun H => SqT K H a xs ∧ SqT K H b ys) (YPair (fun i => xs[i]?) (fun i => ys[i]?)) := by
  subst hn
  refine ⟨fun i _ hi q => ?_, fun _ q => ⟨xs, ys, q.1, q.2, by omega⟩, fun i H v H' _ q y => ?_⟩
  · have h1 : i < xs.length := by omega
    have h2 : i < ys.length := by omega
    exact ⟨xs, ys, xs[i], ys[i], q.1, q.2, by simp [h1], by simp [h2]⟩
  · obtain ⟨T, x, z, h1, h2, h3, h4, h5⟩ := y
    exact ⟨T, x, z, h1, h2, h3, h4 xs q.1, h5 ys q.2⟩

theorem ext_del {H H' : Hp} {D : Addr} (e : Ext H H') : Ext (del H D) (del H' D) := fun b o z => by
  by_cases c : b = D
  · rw [c, del_same] at z; cases z
  · rw [del_ne c] at z ⊢
    exact e _ _ z
theorem del_ext {H : Hp} {D : Addr} : Ext (del H D) H := fun b o z => by
  by_cases c : b = D
  · rw [c, del_same] at z; cases z
  · rw [del_ne c] at z
    exact z
theorem ext_to {H H' : Hp} {D : Addr} (e : Ext H H') (h : H D = none) : Ext H (del H' D) := fun b o z => by
  rw [del_ne (fun c => by rw [c, h] at z; cases z)]
  exact e _ _ z
theorem del_upd {H : Hp} {D : Addr} {o : HO} : del (upd H D o) D = del H D := by
  funext b
  by_cases c : b = D
  · rw [c, del_same, del_same]
  · rw [del_ne c, del_ne c, upd_ne c]
theorem del_at {H : Hp} {D p : Addr} {o u : HO} (h : H p = none) (hD : H D = some u) {H' : Hp} (h' : H' p = some o) : del H' D p = some o := by
  rw [del_ne (fun c => by rw [c, hD] at h; cases h)]
  exact h'
/-- what the second clause is to do in turn i of the first one -/
def Inner (P : Nat → Nat → List V → Hp → Prop) (D : Addr) (H : Hp) (g1 : TG) (tt1 : TT) (te : TE) (vs1 : List Nat) (i : Nat) (σ2 : L2.St) (J1 : It) (H4 : Hp) : Prop :=
  Ext H H4 ∧ ∃ n1 G1 Y1, Walk J1 n1 G1 Y1 ∧
    (∀ Hz, Ext (del H4 D) Hz → G1 Hz) ∧
    (∀ ys Hz, P i n1 ys Hz → P (i + 1) 0 ys Hz) ∧
    ∀ j y Ha Hb ys, j < n1 → Ext (del H4 D) Ha → Ha D = some (.lst ys) → Y1 j Ha y Hb → P i j ys (del Ha D) →
      ∀ (QY : V → Hp → Prop) (QN : Hp → Prop),
        (∀ y H5, Ext Ha H5 → P i (j + 1) (ys ++ [y]) (del H5 D) → QY y H5) →
        (∀ H5, Ext Ha H5 → P i (j + 1) ys (del H5 D) → QN H5) →
        g1 y (wipe σ2 vs1) Hb fun σ3 H5 => wipe σ3 vs1 = wipe σ2 vs1 ∧ tt1 σ3 H5 fun b H6 => if b = true then te σ3 H6 QY else QN H6
/-- a comprehension of two clauses (a test in the second one alone): P holds of both turns, the list so far, and all that stands but the list -/
theorem lc2_acc {J : It} {n : Nat} {G : Hp → Prop} {Y : Nat → Hp → V → Hp → Prop} (w : Walk J n G Y) {g : TG} {wi1 : TI} {g1 : TG} {tt1 : TT} {te : TE} {vs vs1 : List Nat} {σ : L2.St} {H1 : Hp} {D : Addr} {Qd : Hp → Prop}
    (P : Nat → Nat → List V → Hp → Prop) (up : ∀ i j xs H H', Ext H H' → P i j xs H → P i j xs H') (h0 : P 0 0 [] H1) (hD : H1 D = none)
    (hlen : ∀ i j xs H, P i j xs H → xs.length < sizeLine) (hG : ∀ H, Ext H1 H → G H)
    (hs : ∀ i x H H' xs, i < n → Ext H1 H → H D = some (.lst xs) → Y i H x H' → P i 0 xs (del H D) →
      ∀ R : L2.St → It → Hp → Prop, (∀ σ2 J1 H4, Inner P D H g1 tt1 te vs1 i σ2 J1 H4 → R σ2 J1 H4) →
      g x (wipe σ vs) H' fun σ2 H2 => wipe σ2 vs = wipe σ vs ∧ wi1 σ2 H2 (R σ2))
    (hd : ∀ H xs, Ext H1 H → H D = some (.lst xs) → P n 0 xs H → Qd H) :
    ∃ W : Nat → Nat → Hp → Prop, (∃ m, W 0 m (upd H1 D (.lst []))) ∧ ∀ i m H, W i m H →
      (J.stop i H ∧ Qd H) ∨ (J.go i H ∧ ∃ Nx : Hp → Prop, (∀ H', Nx H' → ∃ m', m' < m ∧ W (i + 1) m' H') ∧ ∀ x H', J.yld i H x H' → g x (wipe σ vs) H' fun σ2 H2 => wipe σ2 vs = wipe σ vs ∧ tYes σ2 H2 fun b H3 =>
        if b = true then wi1 σ2 H3 fun J1 H4 => ∃ W1 : Nat → Nat → Hp → Prop, (∃ m, W1 0 m H4) ∧ ∀ j k H, W1 j k H →
          (J1.stop j H ∧ Nx H) ∨ (J1.go j H ∧ ∃ Nx1 : Hp → Prop, (∀ H', Nx1 H' → ∃ k', k' < k ∧ W1 (j + 1) k' H') ∧ ∀ x H', J1.yld j H x H' → g1 x (wipe σ2 vs1) H' fun σ3 H5 => wipe σ3 vs1 = wipe σ2 vs1 ∧ tt1 σ3 H5 fun b H6 =>
            if b = true then te σ3 H6 fun y H7 => ∃ acc, H7 D = some (.lst acc) ∧ acc.length < sizeLine ∧ Nx1 (upd H7 D (.lst (acc ++ [y]))) else Nx1 H6)
        else Nx H3) := by
  have e1 : Ext H1 (upd H1 D (.lst [])) := Ext.new hD
  let Pv : Nat → Hp → Prop := fun i H => ∃ xs, Ext H1 H ∧ H D = some (.lst xs) ∧ P i 0 xs (del H D)
  refine ⟨fun i m H => m = n - i ∧ i ≤ n ∧ Pv i H, ⟨n, by simp, Nat.zero_le _, [], e1, upd_same, up 0 0 [] _ _ (ext_to e1 hD) h0⟩, ?_⟩
  rintro i m H ⟨rfl, hi, xs, e, hx, hp⟩
  have q := hG H e
  by_cases hlt : i < n
  · refine .inr ⟨w.goes i H hlt q, Pv (i + 1), fun H' p' => ⟨n - (i + 1), by omega, rfl, hlt, p'⟩, fun x H' y => ?_⟩
    refine hs i x H H' xs hlt e hx (w.yields i H x H' hlt q y) hp (fun σ2 J1 H4 => ∃ W1 : Nat → Nat → Hp → Prop, (∃ m, W1 0 m H4) ∧ ∀ j k H, W1 j k H →
          (J1.stop j H ∧ Pv (i + 1) H) ∨ (J1.go j H ∧ ∃ Nx1 : Hp → Prop, (∀ H', Nx1 H' → ∃ k', k' < k ∧ W1 (j + 1) k' H') ∧ ∀ x H', J1.yld j H x H' → g1 x (wipe σ2 vs1) H' fun σ3 H5 => wipe σ3 vs1 = wipe σ2 vs1 ∧ tt1 σ3 H5 fun b H6 =>
            if b = true then te σ3 H6 fun y H7 => ∃ acc, H7 D = some (.lst acc) ∧ acc.length < sizeLine ∧ Nx1 (upd H7 D (.lst (acc ++ [y]))) else Nx1 H6)) ?_
    rintro σ2 J1 H4 ⟨e4, n1, G1, Y1, w1, hG1, hend, hst⟩
    have e14 : Ext H1 (del H4 D) := ext_to (e.trans e4) hD
    let Pj : Nat → Hp → Prop := fun j Ha => ∃ ys, Ext (del H4 D) (del Ha D) ∧ Ha D = some (.lst ys) ∧ P i j ys (del Ha D)
    refine ⟨fun j k Ha => k = n1 - j ∧ j ≤ n1 ∧ Pj j Ha, ⟨n1, by simp, Nat.zero_le _, xs, Ext.refl _, e4 _ _ hx, up _ _ _ _ _ (ext_del e4) hp⟩, ?_⟩
    rintro j k Ha ⟨rfl, hj, ys, ea, hy, hpj⟩
    have ea2 : Ext (del H4 D) Ha := ea.trans del_ext
    have q1 := hG1 Ha ea2
    by_cases hl1 : j < n1
    · refine .inr ⟨w1.goes j Ha hl1 q1, Pj (j + 1), fun H' p' => ⟨n1 - (j + 1), by omega, rfl, hl1, p'⟩, fun x1 Hb y1 => ?_⟩
      refine hst j x1 Ha Hb ys hl1 ea2 hy (w1.yields j Ha x1 Hb hl1 q1 y1) hpj _ _ ?_ ?_
      · intro v H5 e5 k
        exact ⟨ys, e5 _ _ hy, hlen _ _ _ _ hpj, ys ++ [v], by rw [del_upd]; exact ea.trans (ext_del e5), upd_same, by rw [del_upd]; exact k⟩
      · intro H5 e5 k
        exact ⟨ys, ea.trans (ext_del e5), e5 _ _ hy, k⟩
    · have ej : j = n1 := by omega
      subst ej
      exact .inl ⟨w1.stops Ha q1, ys, e14.trans ea2, hy, hend _ _ hpj⟩
  · have ei : i = n := by omega
    subst ei
    exact .inl ⟨w.stops H q, hd H xs e hx (up _ _ _ _ _ del_ext hp)⟩
/-- of one clause, in the same words -/
theorem lc1_acc {J : It} {n : Nat} {G : Hp → Prop} {Y : Nat → Hp → V → Hp → Prop} (w : Walk J n G Y) {g : TG} {tt : TT} {te : TE} {vs : List Nat} {σ : L2.St} {H1 : Hp} {D : Addr} {Qd : Hp → Prop}
    (P : Nat → List V → Hp → Prop) (up : ∀ i xs H H', Ext H H' → P i xs H → P i xs H') (h0 : P 0 [] H1) (hD : H1 D = none)
    (hlen : ∀ i xs H, P i xs H → xs.length < sizeLine) (hG : ∀ H, Ext H1 H → G H)
    (hs : ∀ i x H H' xs, i < n → Ext H1 H → H D = some (.lst xs) → Y i H x H' → P i xs (del H D) →
      ∀ (QY : V → Hp → Prop) (QN : Hp → Prop),
        (∀ y H4, Ext H H4 → P (i + 1) (xs ++ [y]) (del H4 D) → QY y H4) →
        (∀ H4, Ext H H4 → P (i + 1) xs (del H4 D) → QN H4) →
        g x (wipe σ vs) H' fun σ2 H2 => wipe σ2 vs = wipe σ vs ∧ tt σ2 H2 fun b H3 => if b = true then te σ2 H3 QY else QN H3)
    (hd : ∀ H xs, Ext H1 H → H D = some (.lst xs) → P n xs H → Qd H) :
    ∃ W : Nat → Nat → Hp → Prop, (∃ m, W 0 m (upd H1 D (.lst []))) ∧ ∀ i m H, W i m H →
      (J.stop i H ∧ Qd H) ∨ (J.go i H ∧ ∃ Nx : Hp → Prop, (∀ H', Nx H' → ∃ m', m' < m ∧ W (i + 1) m' H') ∧ ∀ x H', J.yld i H x H' → g x (wipe σ vs) H' fun σ2 H2 => wipe σ2 vs = wipe σ vs ∧ tt σ2 H2 fun b H3 =>
        if b = true then te σ2 H3 fun y H4 => ∃ acc, H4 D = some (.lst acc) ∧ acc.length < sizeLine ∧ Nx (upd H4 D (.lst (acc ++ [y]))) else Nx H3) := by
  have e1 : Ext H1 (upd H1 D (.lst [])) := Ext.new hD
  refine lc_it w (fun i H => ∃ xs, Ext H1 H ∧ H D = some (.lst xs) ∧ P i xs (del H D)) ⟨[], e1, upd_same, up 0 [] _ _ (ext_to e1 hD) h0⟩ (by rintro i H _ ⟨xs, e, _⟩; exact hG H e) ?_ ?_
  · rintro i x H H' hi ⟨xs, e, hx, hp⟩ y
    refine hs i x H H' xs hi e hx y hp _ _ ?_ ?_
    · intro v H4 e4 k
      exact ⟨xs, e4 _ _ hx, hlen _ _ _ hp, xs ++ [v], Ext.mut (e.trans e4) hD, upd_same, by rw [del_upd]; exact k⟩
    · intro H4 e4 k
      exact ⟨xs, e.trans e4, e4 _ _ hx, k⟩
  · rintro H ⟨xs, e, hx, hp⟩
    exact hd H xs e hx (up _ _ _ _ del_ext hp)
end Ol

set_option Elab.async false
set_option linter.all false
set_option maxRecDepth 100000
set_option maxHeartbeats 4000000
namespace Ol
open PySem PySem.Spec PyProof.Rows L2
/-- what the second clause is to do in turn i of the first one; the dict stands at D -/
def InnerD (P : Nat → Nat → List (Key × V) → Hp → Prop) (D : Addr) (H : Hp) (g1 : TG) (tt1 : TT) (tk tv : TE) (vs1 : List Nat) (i : Nat) (σ2 : L2.St) (J1 : It) (H4 : Hp) : Prop :=
  Ext H H4 ∧ ∃ n1 G1 Y1, Walk J1 n1 G1 Y1 ∧
    (∀ Hz, Ext (del H4 D) Hz → G1 Hz) ∧
    (∀ kvs Hz, P i n1 kvs Hz → P (i + 1) 0 kvs Hz) ∧
    ∀ j y Ha Hb kvs, j < n1 → Ext (del H4 D) Ha → Ha D = some (.dK kvs) → Y1 j Ha y Hb → P i j kvs (del Ha D) →
      ∀ (QY : V → V → Hp → Prop) (QN : Hp → Prop),
        (∀ k v H5, Ext Ha H5 → P i (j + 1) (putK kvs k v) (del H5 D) → QY (kV k) v H5) →
        (∀ H5, Ext Ha H5 → P i (j + 1) kvs (del H5 D) → QN H5) →
        g1 y (wipe σ2 vs1) Hb fun σ3 H5 => wipe σ3 vs1 = wipe σ2 vs1 ∧ tt1 σ3 H5 fun b H6 => if b = true then tk σ3 H6 fun key H7 => tv σ3 H7 fun val H8 => QY key val H8 else QN H6
/-- P holds of both turns, the dict so far, and all that stands but the dict -/
theorem dc2_acc {J : It} {n : Nat} {G : Hp → Prop} {Y : Nat → Hp → V → Hp → Prop} (w : Walk J n G Y) {g : TG} {wi1 : TI} {g1 : TG} {tt1 : TT} {tk tv : TE} {vs vs1 : List Nat} {σ : L2.St} {H1 : Hp} {D : Addr} {Qd : Hp → Prop}
    (P : Nat → Nat → List (Key × V) → Hp → Prop) (up : ∀ i j kvs H H', Ext H H' → P i j kvs H → P i j kvs H') (h0 : P 0 0 [] H1) (hD : H1 D = none)
    (few : ∀ i j kvs H, P i j kvs H → kvs.length < sizeLine) (hG : ∀ H, Ext H1 H → G H)
    (step : ∀ i x H H' kvs, i < n → Ext H1 H → H D = some (.dK kvs) → Y i H x H' → P i 0 kvs (del H D) →
      ∀ R : L2.St → It → Hp → Prop, (∀ σ2 J1 H4, InnerD P D H g1 tt1 tk tv vs1 i σ2 J1 H4 → R σ2 J1 H4) →
      g x (wipe σ vs) H' fun σ2 H2 => wipe σ2 vs = wipe σ vs ∧ wi1 σ2 H2 (R σ2))
    (last : ∀ H kvs, Ext H1 H → H D = some (.dK kvs) → P n 0 kvs H → Qd H) :
    ∃ W : Nat → Nat → Hp → Prop, (∃ m, W 0 m (upd H1 D (.dK []))) ∧ ∀ i m Hb, W i m Hb →
      (J.stop i Hb ∧ Qd Hb) ∨ (J.go i Hb ∧ ∃ On : Hp → Prop, (∀ Hc, On Hc → ∃ m2, m2 < m ∧ W (i + 1) m2 Hc) ∧ ∀ x Hc, J.yld i Hb x Hc → g x (wipe σ vs) Hc fun σ2 Hd => wipe σ2 vs = wipe σ vs ∧ tYes σ2 Hd fun b He =>
        if b = true then wi1 σ2 He fun J1 Hf => ∃ V1 : Nat → Nat → Hp → Prop, (∃ k, V1 0 k Hf) ∧ ∀ j k Hg, V1 j k Hg →
          (J1.stop j Hg ∧ On Hg) ∨ (J1.go j Hg ∧ ∃ On1 : Hp → Prop, (∀ Hh, On1 Hh → ∃ k2, k2 < k ∧ V1 (j + 1) k2 Hh) ∧ ∀ y Hh, J1.yld j Hg y Hh → g1 y (wipe σ2 vs1) Hh fun σ3 Hi => wipe σ3 vs1 = wipe σ2 vs1 ∧ tt1 σ3 Hi fun b1 Hj =>
            if b1 = true then tk σ3 Hj fun key Hk => tv σ3 Hk fun val Hl => ∃ kvs k, key = kV k ∧ Hl D = some (.dK kvs) ∧ kvs.length < sizeLine ∧ On1 (upd Hl D (.dK (putK kvs k val))) else On1 Hj)
        else On He) := by
  have e1 : Ext H1 (upd H1 D (.dK [])) := Ext.new hD
  let Pv : Nat → Hp → Prop := fun i H => ∃ kvs, Ext H1 H ∧ H D = some (.dK kvs) ∧ P i 0 kvs (del H D)
  refine ⟨fun i m H => m = n - i ∧ i ≤ n ∧ Pv i H, ⟨n, by simp, Nat.zero_le _, [], e1, upd_same, up 0 0 [] _ _ (ext_to e1 hD) h0⟩, ?_⟩
  rintro i m H ⟨rfl, hi, kvs, e, hx, hp⟩
  have q := hG H e
  by_cases hlt : i < n
  · refine .inr ⟨w.goes i H hlt q, Pv (i + 1), fun H' p' => ⟨n - (i + 1), by omega, rfl, hlt, p'⟩, fun x H' y => ?_⟩
    refine step i x H H' kvs hlt e hx (w.yields i H x H' hlt q y) hp (fun σ2 J1 Hf => ∃ V1 : Nat → Nat → Hp → Prop, (∃ k, V1 0 k Hf) ∧ ∀ j k Hg, V1 j k Hg →
          (J1.stop j Hg ∧ Pv (i + 1) Hg) ∨ (J1.go j Hg ∧ ∃ On1 : Hp → Prop, (∀ Hh, On1 Hh → ∃ k2, k2 < k ∧ V1 (j + 1) k2 Hh) ∧ ∀ y Hh, J1.yld j Hg y Hh → g1 y (wipe σ2 vs1) Hh fun σ3 Hi => wipe σ3 vs1 = wipe σ2 vs1 ∧ tt1 σ3 Hi fun b1 Hj =>
            if b1 = true then tk σ3 Hj fun key Hk => tv σ3 Hk fun val Hl => ∃ kvs k, key = kV k ∧ Hl D = some (.dK kvs) ∧ kvs.length < sizeLine ∧ On1 (upd Hl D (.dK (putK kvs k val))) else On1 Hj)) ?_
    rintro σ2 J1 H4 ⟨e4, n1, G1, Y1, w1, hG1, hend, hst⟩
    have e14 : Ext H1 (del H4 D) := ext_to (e.trans e4) hD
    let Pj : Nat → Hp → Prop := fun j Ha => ∃ ks, Ext (del H4 D) (del Ha D) ∧ Ha D = some (.dK ks) ∧ P i j ks (del Ha D)
    refine ⟨fun j k Ha => k = n1 - j ∧ j ≤ n1 ∧ Pj j Ha, ⟨n1, by simp, Nat.zero_le _, kvs, Ext.refl _, e4 _ _ hx, up _ _ _ _ _ (ext_del e4) hp⟩, ?_⟩
    rintro j k Ha ⟨rfl, hj, ks, ea, hy, hpj⟩
    have ea2 : Ext (del H4 D) Ha := ea.trans del_ext
    have q1 := hG1 Ha ea2
    by_cases hl1 : j < n1
    · refine .inr ⟨w1.goes j Ha hl1 q1, Pj (j + 1), fun H' p' => ⟨n1 - (j + 1), by omega, rfl, hl1, p'⟩, fun x1 Hb y1 => ?_⟩
      refine hst j x1 Ha Hb ks hl1 ea2 hy (w1.yields j Ha x1 Hb hl1 q1 y1) hpj (fun key val Hl => ∃ kvs k, key = kV k ∧ Hl D = some (.dK kvs) ∧ kvs.length < sizeLine ∧ Pj (j + 1) (upd Hl D (.dK (putK kvs k val)))) _ ?_ ?_
      · intro k v H5 e5 z
        exact ⟨ks, k, rfl, e5 _ _ hy, few _ _ _ _ hpj, putK ks k v, by rw [del_upd]; exact ea.trans (ext_del e5), upd_same, by rw [del_upd]; exact z⟩
      · intro H5 e5 z
        exact ⟨ks, ea.trans (ext_del e5), e5 _ _ hy, z⟩
    · have ej : j = n1 := by omega
      subst ej
      exact .inl ⟨w1.stops Ha q1, ks, e14.trans ea2, hy, hend _ _ hpj⟩
  · have ei : i = n := by omega
    subst ei
    exact .inl ⟨w.stops H q, last H kvs e hx (up _ _ _ _ _ del_ext hp)⟩
end Ol

set_option Elab.async false
set_option linter.all false
set_option maxRecDepth 100000
set_option maxHeartbeats 4000000
namespace Ol
open PySem PySem.Spec PyProof.Rows L2

/-! ### a dict comprehension whose keys are tuples -/
abbrev DC1 (kx vx t0 i0 : Expr) (f0 : List Expr) (scope : Scope) (pos : Pos) : Expr := .DictComp kx vx [⟨t0, i0, f0, 0⟩] scope pos
section
variable {X : Cx} {pins : List (Addr × Obj)}
/-- one entry is laid, its key a tuple -/
theorem dt_laid {σ : L2.St} {H : Hp} {s : Shared} {B : Value → Shared → Prop} {D b : Addr} {kvs : List (List Key × V)} {k : List Key} {v : V} {u r : Value} {Q : Unit → Shared → Prop} (hk : X.A.units < cLine) (I : Inv X pins σ H s)
    (at_D : H D = some (.dT kvs)) (few : kvs.length < sizeLine) (at_b : H b = some (.tup (k.map kV))) (ru : RelV (.ref b) u) (rv : RelV v r) (h : ∀ s', Inv X pins σ (upd H D (.dT (putK kvs k v))) s' → Q () s') :
    wpAny (model X.prog X.w) X.A (dictSet D u r) Q B s := by
  cases (show u = Value.ref b from ru)
  obtain ⟨lz, nsys, xs, rel, dd⟩ := dt_of I.hok at_D
  have lz2 : xs.length ≤ sizeLine := by rw [← Paired.length rel]; exact lz
  have lz3 : (putK kvs k v).length ≤ sizeLine := Nat.le_trans (length_putK kvs k v) few
  refine wpAny_dictSet_heap (hsz := lz2) (show (tupleKind (mixKind X.prog X.w)).room X.A from hk) (key_of I.hok at_b) dd ?_
  intro h2 dd2 same
  apply h
  obtain ⟨o2, es2, ep2, g1, g2, g3, g4, _, g5⟩ := dd2
  refine d_write I (by rw [at_D]; exact True.intro) same ⟨o2, g1⟩ ⟨lz3, nsys, _, (rel.put k at_b rv).keeps ?_, o2, es2, ep2, g1, g2, g3, g4, g5⟩
  intro c ys at_c
  rw [upd_ne (ne_of at_c at_D (fun z => nomatch z))]
  exact at_c
end
section
variable {X : Cx}
def tDcT (wi : TI) (g : TG) (tt : TT) (tk tv : TE) (vs : List Nat) : TE := fun σ H Q => wi σ H fun J Ha => ∀ D, Ha D = none → ∃ W : Nat → Nat → Hp → Prop, (∃ m, W 0 m (upd Ha D (.dT []))) ∧ ∀ i m Hb, W i m Hb →
  (J.stop i Hb ∧ Q (.ref D) Hb) ∨ (J.go i Hb ∧ ∃ On : Hp → Prop, (∀ Hc, On Hc → ∃ m', m' < m ∧ W (i + 1) m' Hc) ∧ ∀ x Hc, J.yld i Hb x Hc → g x (wipe σ vs) Hc fun σ2 H2 => wipe σ2 vs = wipe σ vs ∧ tt σ2 H2 fun b H3 =>
    if b = true then tk σ2 H3 fun y H4 => tv σ2 H4 fun z H5 => ∃ kvs k t, y = .ref t ∧ H5 t = some (.tup (k.map kV)) ∧ H5 D = some (.dT kvs) ∧ kvs.length < sizeLine ∧ On (upd H5 D (.dT (putK kvs k z))) else On H3)
theorem pe_dcT {kx vx t0 i0 : Expr} {f0 : List Expr} {scope : Scope} {own : List (Str × Nat)} {pos : Pos} {wi : TI} {g : TG} {tt : TT} {tk tv : TE} (calm : X.calm = true) (hu : X.A.units + 1 < cLine) (nd : X.N.Nodup) (src : PI X t0 i0 wi) (ok : BlkOk X.N X.env.scope scope own)
    (pg : ∀ (s : Shared) (H : Hp) (C : Addr) (cl : List (Str × Addr)) (fp : List Addr), PG (X.blk s H scope (compEnvC scope cl C X.env) fp) t0 g)
    (pt : ∀ (s : Shared) (H : Hp) (C : Addr) (cl : List (Str × Addr)) (fp : List Addr), PTs (X.blk s H scope (compEnvC scope cl C X.env) fp) f0 tt)
    (pk : ∀ (s : Shared) (H : Hp) (C : Addr) (cl : List (Str × Addr)) (fp : List Addr), PE (X.blk s H scope (compEnvC scope cl C X.env) fp) kx tk)
    (pw : ∀ (s : Shared) (H : Hp) (C : Addr) (cl : List (Str × Addr)) (fp : List Addr), PE (X.blk s H scope (compEnvC scope cl C X.env) fp) vx tv)
    (plain : ∀ x, foldedSetIterable i0 X.env x = pure x := by intro _; rfl) :
    PE X (DC1 kx vx t0 i0 f0 scope pos) (tDcT wi g tt tk tv (own.map (·.2))) := by
  constructor
  intro pins s σ H Q I h
  rw [arm_eval_DictComp]
  have cells : ∀ y ∈ scope.names, y.2 = .free → ∃ c, X.env.cells.lookup y.1 = some c := by
    intro y my free
    exact I.ok.has _ (ok.free y my free)
  apply wpAny_comprehension_free (use := none) rfl plain (closure_ok cells) ok.kind (fun y my free => by rw [ok.uniq y my, free])
  apply thn (src.run pins s σ H _ I h)
  intro seen sa at_src
  apply thn at_src
  rintro itv s2 ⟨it, fp, tn, J, H2, rfl, I2, T, place, foot, q⟩
  refine wpAny_newObj_type (newEnv_comp ?_)
  generalize atD : s2.heap.objs.size = D
  obtain ⟨W, ⟨m0, w0⟩, go_on⟩ := q D (I2.hok.fresh (Nat.le_of_eq atD))
  generalize made : ({ s2 with heap := s2.heap.push { cls := .type "dict", data := .dict #[] } } : Shared) = s3
  have heap3 : s3.heap = s2.heap.push { cls := .type "dict", data := .dict #[] } := by rw [← made]
  have stays : ∀ b o, s2.heap.get? b = some o → s3.heap.get? b = some o := fun b o z => by
    rw [heap3]
    exact Heap.get?_push_of_some _ z
  have I3 : Inv X pins σ (upd H2 D (.dT [])) s3 := by
    rw [← made]
    apply I2.laid (t' := s2.toks) (fun b o z => Heap.get?_push_of_some _ z) (Nat.le_of_eq atD)
    rw [← atD]
    exact dt_empty s2.heap I2.big
  have foot3 : ∀ b ∈ fp, FpOk X pins (upd H2 D (.dT [])) b ∧ b < s3.heap.objs.size := by
    intro b mb
    obtain ⟨o, got, _⟩ := T.obj _ _ place b mb
    have lt := Heap.lt_size got
    have ne : b ≠ D := atD ▸ Nat.ne_of_lt lt
    constructor
    · exact ⟨by rw [upd_ne ne]; exact (foot b mb).1, (foot b mb).2⟩
    · rw [heap3, Heap.size_push]
      exact Nat.lt_succ_of_lt lt
  have place3 : tn 0 s3.heap := T.keep _ _ _ place fun b _ o z => stays b o z
  have I4 := block_start I3 ok nd foot3
  generalize ecl : cellsFrom (s3.heap.objs.size + 1) scope.names (cloFrom X.env.cells scope.names []) = cl at I4
  have pg := pg s3 (upd H2 D (.dT [])) s3.heap.objs.size cl fp
  have pt := pt s3 (upd H2 D (.dT [])) s3.heap.objs.size cl fp
  have pk := pk s3 (upd H2 D (.dT [])) s3.heap.objs.size cl fp
  have pw := pw s3 (upd H2 D (.dT [])) s3.heap.objs.size cl fp
  show codeAny _ _ (.compStart (DC1 kx vx t0 i0 f0 scope pos) 0 (.ref it) (.ref D) (compEnvC scope cl s3.heap.objs.size X.env)) (compPost (model X.prog X.w) X.A X.xe none _ (.ref D) s3.heap.objs.size) { s3 with heap := pushCells (s3.heap.push { cls := .type "dict", data := .dict #[] }) scope.names }
  have blank : ∀ b ∈ fp, (upd H2 D (.dT [])) b = none := fun b mb => (foot3 b mb).1.1
  generalize ece : compEnvC scope cl s3.heap.objs.size X.env = ce at I4 pg pt pk pw ⊢
  have here : ce.locals = s3.heap.objs.size := by subst ece; rfl
  generalize e3 : upd H2 D (.dT []) = H3 at I3 I4 pg pt pk pw w0 blank foot3
  generalize e4 : ({ s3 with heap := pushCells (s3.heap.push { cls := .type "dict", data := .dict #[] }) scope.names } : Shared) = s4 at I4 ⊢
  have place4 : tn 0 s4.heap := T.keep _ _ _ place3 fun b _ o z => by
    rw [← e4]
    exact pushCells_keeps _ _ _ _ (Heap.get?_push_of_some _ z)
  have foots : ∀ {σ' : L2.St} {H' : Hp} {s' : Shared}, Inv (X.blk s3 H3 scope ce fp) [] σ' H' s' → (∀ b ∈ fp, H' b = none) → ∀ b ∈ fp, FpOk (X.blk s3 H3 scope ce fp) [] H' b := by
    intro σ' H' s' I' no b mb
    have ex := I'.ok.exf b mb
    refine ⟨no b mb, ex.1, I'.ok.exfs b mb, .inl mb, fun x c z => ex.2 x c z, ?_⟩
    intro p mp
    have mp' : p ∈ ([] : List (Addr × Obj)) ++ [] := mp
    simp at mp'
  have whole : codeAny (model X.prog X.w) X.A (.compLoop (DC1 kx vx t0 i0 f0 scope pos) 0 (.ref it) (.ref D) ce) (compPost (model X.prog X.w) X.A X.xe none (EP X pins σ Q) (.ref D) s3.heap.objs.size) s4 := by
    refine compLoop_anyD (fun n s' => ∃ i H', Inv (X.blk s3 H3 scope ce fp) [] (wipe σ (own.map (·.2))) H' s' ∧ tn i s'.heap ∧ (∀ b ∈ fp, H' b = none) ∧ W i n H') ?_ m0 ⟨0, H3, I4, place4, blank, w0⟩
    rintro n s5 ⟨i, H5, I5, p5, b5, w5⟩
    rcases go_on i n H5 w5 with ⟨stop, fin⟩ | ⟨go, On, next, step⟩
    · apply thnF (T.done (X.blk s3 H3 scope ce fp) rfl rfl rfl calm i [] s5 _ H5 (fun _ _ => False) I5 (foots I5 b5) p5 stop)
      rintro got s6 ⟨rfl, I6⟩
      have I7 : Inv X pins σ H5 s6 := I3.call' (ch := fp) I6.os I6.base I6.hok I6.bare fun b mb =>
        let z := (foot3 b mb).1.2
        ⟨z.2.2.1, z.1, z.2.2.2.1, z.2.2.2.2⟩
      have none_here : H5 s3.heap.objs.size = none := by
        have z : H5 ce.locals = none := I6.free
        exact here ▸ z
      obtain ⟨ns, at_ns, _⟩ := I6.loc
      have at_ns : s6.heap.Ns ce.locals ns := at_ns
      rw [here] at at_ns
      obtain ⟨z0, z1, _, z3, z4, z5⟩ := I3.fpOk (Nat.le_refl _) none_here
      refine ⟨ns, at_ns, fun h2 same => ?_⟩
      exact ⟨.ref D, H5, I7.turned (t' := s6.toks) (fun b o ne z => (same.2 b ne).trans z) z0 z1 z3 z4 z5, rfl, fin⟩
    · apply thnF (T.item (X.blk s3 H3 scope ce fp) rfl rfl rfl calm i [] s5 _ H5 (fun _ _ => False) I5 (foots I5 b5) p5 go)
      rintro got s6 ⟨u, rfl, at_u⟩
      apply thnF at_u
      rintro _ s7 ⟨x, H7, I7, rx, y7, p7, b7⟩
      apply thnF (pg.run _ s7 _ H7 x u _ (I7.pinned (foots I7 b7) (T.obj _ _ p7)) rx (step x H7 y7))
      rintro _ s8 ⟨σ8, H8, I8, hw, q8⟩
      apply thnF (pt.run _ s8 σ8 H8 _ I8 q8)
      rintro b s9 ⟨H9, I9, q9⟩
      have back : ∀ {s' : Shared} {H' : Hp}, Inv (X.blk s3 H3 scope ce fp) ([] ++ pinsAt fp s7.heap) σ8 H' s' → On H' → ∃ m, m < n ∧ ∃ i H', Inv (X.blk s3 H3 scope ce fp) [] (wipe σ (own.map (·.2))) H' s' ∧ tn i s'.heap ∧ (∀ b ∈ fp, H' b = none) ∧ W i m H' := by
        intro s' H' I' on
        obtain ⟨m, lt, w'⟩ := next H' on
        have pinned : ∀ c ∈ fp, ∀ o, s7.heap.get? c = some o → s'.heap.get? c = some o ∧ H' c = none := by
          intro c mc o got
          have z := I'.pin (c, o) (List.mem_append_right _ (List.mem_append_right _ (mem_pinsAt mc got)))
          exact ⟨z.1, z.2.1⟩
        refine ⟨m, lt, i + 1, H', (I'.unpinned (pins := [])).weak (hw ▸ wipe_length σ8 _) ?_, T.keep _ _ _ p7 (fun c mc o got => (pinned c mc o got).1), ?_, w'⟩
        · intro j v z
          rw [← hw] at z
          exact (wipe_some z).1
        · intro c mc
          obtain ⟨o, got, _⟩ := T.obj _ _ p7 c mc
          exact (pinned c mc o got).2
      by_cases yes : b = true
      case neg =>
        rw [if_neg yes] at q9 ⊢
        exact back I9 q9
      rw [if_pos yes] at q9 ⊢
      apply thnF (pk.run _ s9 σ8 H9 _ I9 q9)
      rintro uk s17 ⟨key, H17, I17, rk, q17⟩
      apply thnF (pw.run _ s17 σ8 H17 _ I17 q17)
      rintro uv s18 ⟨val, H18, I18, rv, kvs, kk, t, rfl, at_t, hD18, few, on1⟩
      have rk' : RelV (.ref t) uk := rk
      exact dt_laid (X := X.blk s3 H3 scope ce fp) (Nat.lt_of_succ_lt hu) I18 hD18 few at_t rk' rv fun s19 I19 => back I19 on1
  exact codeAny_compStart_dict whole (T.self X.A 0 _ _ _ place4 whole)
end
/-- over any walk -/
theorem dcT_it {J : It} {n : Nat} {G : Hp → Prop} {Y : Nat → Hp → V → Hp → Prop} (w : Walk J n G Y) {g : TG} {tt : TT} {tk tv : TE} {vs : List Nat} {σ : L2.St} {H1 : Hp} {D : Addr} {Qd : Hp → Prop} (Pv : Nat → Hp → Prop)
    (h0 : Pv 0 (upd H1 D (.dT []))) (hG : ∀ i H, i ≤ n → Pv i H → G H)
    (hs : ∀ i x H H', i < n → Pv i H → Y i H x H' → g x (wipe σ vs) H' fun σ2 H2 => wipe σ2 vs = wipe σ vs ∧ tt σ2 H2 fun b H3 =>
      if b = true then tk σ2 H3 fun y H4 => tv σ2 H4 fun z H5 => ∃ kvs k t, y = .ref t ∧ H5 t = some (.tup (k.map kV)) ∧ H5 D = some (.dT kvs) ∧ kvs.length < sizeLine ∧ Pv (i + 1) (upd H5 D (.dT (putK kvs k z))) else Pv (i + 1) H3) (hd : ∀ H, Pv n H → Qd H) :
    ∃ W : Nat → Nat → Hp → Prop, (∃ m, W 0 m (upd H1 D (.dT []))) ∧ ∀ i m H, W i m H →
      (J.stop i H ∧ Qd H) ∨ (J.go i H ∧ ∃ Nx : Hp → Prop, (∀ H', Nx H' → ∃ m', m' < m ∧ W (i + 1) m' H') ∧ ∀ x H', J.yld i H x H' → g x (wipe σ vs) H' fun σ2 H2 => wipe σ2 vs = wipe σ vs ∧ tt σ2 H2 fun b H3 =>
        if b = true then tk σ2 H3 fun y H4 => tv σ2 H4 fun z H5 => ∃ kvs k t, y = .ref t ∧ H5 t = some (.tup (k.map kV)) ∧ H5 D = some (.dT kvs) ∧ kvs.length < sizeLine ∧ Nx (upd H5 D (.dT (putK kvs k z))) else Nx H3) := by
  refine ⟨fun i m H => m = n - i ∧ i ≤ n ∧ Pv i H, ⟨n, by simp, Nat.zero_le _, h0⟩, ?_⟩
  rintro i m H ⟨rfl, hi, p⟩
  have q := hG i H hi p
  by_cases hlt : i < n
  · exact .inr ⟨w.goes i H hlt q, Pv (i + 1), fun H' p' => ⟨n - (i + 1), by omega, rfl, hlt, p'⟩, fun x H' y => hs i x H H' hlt p (w.yields i H x H' hlt q y)⟩
  · have e : i = n := by omega
    subst e
    exact .inl ⟨w.stops H q, hd H p⟩
end Ol

set_option Elab.async false
set_option linter.all false
set_option maxRecDepth 100000
set_option maxHeartbeats 4000000
namespace Ol
open PySem PySem.Spec PyProof.Rows L2

/-! ### list(d.values()) -/
def viewV (p d : Addr) : HO := .ext fun h => h.get? p = some ({ cls := .type "dict_values", data := .fields #[.ref d] } : Obj)
def rVwV : V → List V → Hp → VK → Prop := fun x xs H Q => ∃ (d : Addr) (kvs : List (Key × V)), x = .ref d ∧ xs = [] ∧ H d = some (.dK kvs) ∧ ∀ p, H p = none → Q (.ref p) (upd H p (viewV p d))
theorem mt_vwV {X : Cx} : MtR X "dict.values" rVwV := by
  intro pins s σ H x xs v us Q I rx rs h
  obtain ⟨d, kvs, rfl, rfl, hd, q⟩ := h
  cases rs
  cases (show v = Value.ref d from rx)
  obtain ⟨z, hs, vs, rel, dd⟩ := dk_of I.hok hd
  refine call_meetsIn PySem.F.slot_dict_values dd.typeIs PySem.F.entry_dict_values (PySem.F.args_dict_values_1 _) (meets_dict_values (mixKind X.prog X.w) d hs) ⟨⟨vs, dd⟩, ?_⟩
  have got : (s.heap.push ({ cls := .type "dict_values", data := .fields #[.ref d] } : Obj)).get? s.heap.objs.size = some { cls := .type "dict_values", data := .fields #[.ref d] } := Heap.get?_push_size _ rfl
  exact ⟨.ref s.heap.objs.size, _, I.laid (t' := s.toks) (fun b o y => Heap.get?_push_of_some _ y) (Nat.le_refl _) (show ObjOk X.prog X.w _ _ _ (viewV s.heap.objs.size d) from ⟨got, ⟨_, got⟩, fun h1 h2 y k => k _ y⟩), rfl, q _ (I.hok.fresh (Nat.le_refl _))⟩
theorem kv_vals : ∀ {kvs : List (Key × V)} {vs : List (Key × Value)}, L2.KV kvs vs → Vals (kvs.map (·.2)) (vs.map (·.2))
  | _, _, .nil => .nil
  | _, _, .cons h t => .cons h.2 (kv_vals t)
def rLstV : List V → Hp → VK → Prop := fun xs H Q => ∃ (p d : Addr) (kvs : List (Key × V)), xs = [.ref p] ∧ H p = some (viewV p d) ∧ H d = some (.dK kvs) ∧ ∀ l, H l = none → Q (.ref l) (upd H l (.lst (kvs.map (·.2))))
theorem call_lstV {X : Cx} (calm : X.calm = true) : CallR X (.type "list") rLstV := by
  intro pins s σ H xs us Q I r h
  obtain ⟨p, d, kvs, rfl, hp, hd, q⟩ := h
  obtain ⟨u, rfl, rx⟩ := vals1 r
  cases (show u = Value.ref p from rx)
  obtain ⟨z, hs, vs, rel, o0, es, ep, d1, d2⟩ := dk_of I.hok hd
  have hv := (show ObjOk X.prog X.w H s.heap p (viewV p d) from I.hok p _ hp).1
  have hl : vs.length ≤ sizeLine := by rw [← Paired.length rel]; exact z
  refine PySem.W.kdl_call (PySem.W.kdl_values (knd := mixKind X.prog X.w) (kvs := vs) (ep := ep)) (I.ok.hd calm) ⟨⟨_, hv, rfl, rfl⟩, ⟨o0, es, d1, d2⟩⟩ hl ?_
  intro h' tk acc c keep at_ its
  have e1 : acc.toList = vs.map (·.2) := PySem.W.kdl_vals_eq acc.toList (by rw [Array.length_toList]; exact its.1) fun j v hj => its.2 j v (by rw [← Array.getElem?_toList]; exact hj)
  refine ⟨.ref s.heap.objs.size, _, I.laid (t' := tk) keep (Nat.le_refl _) (show ObjOk X.prog X.w _ h' _ (.lst (kvs.map (·.2))) from ⟨by rw [List.length_map]; exact z, acc.toList, c, ?_, ?_⟩), rfl, q _ (I.hok.fresh (Nat.le_refl _))⟩
  · rw [e1]
    exact kv_vals rel
  · rw [Array.toArray_toList]
    exact at_
end Ol

set_option Elab.async false
set_option linter.all false
set_option maxRecDepth 100000
set_option maxHeartbeats 4000000
namespace Ol
open PySem PySem.Spec PyProof.Rows L2
/-- a list != [] -/
def rNeE (K : PySem.W.Frag) : R2 := fun x y H Q => ∃ a b xs, x = .ref a ∧ y = .ref b ∧ SqL K H a xs ∧ SqL K H b [] ∧ Q (.bl (!xs.isEmpty)) H
theorem op_neE {X : Cx} {k : Nat} (hr : Room k X.A) : OpR X (compareOp .NotEq) (rNeE X.K) := by
  intro pins s σ H x y v u Q I rx ry h
  obtain ⟨a, b, xs, rfl, rfl, h1, h2, q⟩ := h
  cases rx
  cases ry
  obtain ⟨its, r, pl, hz⟩ := I.list h1
  obtain ⟨its2, r2, pl2, hz2⟩ := I.list h2
  cases r2
  have hu := hr.units
  cases xs with
  | nil =>
    cases r
    exact SeqAt.RcNeAt.lists (e := fun _ => true) pl.isList pl2.isList rfl (by omega) (fun j h => absurd h (Nat.not_lt_zero j)) X.prog X.w _ _ ⟨.bl _, H, I, rfl, q⟩
  | cons x xs =>
    cases r
    exact SeqAt.RcNeAt.lists_lengths pl.isList pl2.isList rfl (by omega) X.prog X.w _ _ ⟨.bl _, H, I, rfl, q⟩
/-- a subscript of a list or of a tuple -/
def rIxA (K : PySem.W.Frag) : R2 := fun x y H Q => rIxL K x y H Q ∨ rIxT K x y H Q
theorem ix_any {X : Cx} : IxR X (rIxA X.K) := ix_list.or ix_tup
/-- a list or a tuple of these stands at a -/
def LT (H : Hp) (a : Addr) (xs : List V) : Prop := H a = some (.lst xs) ∨ H a = some (.tup xs)
theorem LT.up {H H' : Hp} {a : Addr} {xs : List V} (h : LT H a xs) (e : Ext H H') : LT H' a xs := h.imp (fun z => e _ _ z) (fun z => e _ _ z)
theorem LT.sq {K : PySem.W.Frag} {H : Hp} {a : Addr} {xs : List V} (h : LT H a xs) : SqL K H a xs ∨ SqT K H a xs := h.imp SqL.of SqT.of
theorem ixA {K : PySem.W.Frag} {H : Hp} {a : Addr} {xs : List V} {i : Int} {v : V} {Q : VK} (h : LT H a xs) (hi : atI xs i = some v) (q : Q v H) : rIxA K (.ref a) (.int i) H Q := by
  rcases h with h | h
  · exact .inl ⟨a, xs, i, v, rfl, rfl, SqL.of h, hi, q⟩
  · exact .inr ⟨a, xs, i, v, rfl, rfl, SqT.of h, hi, q⟩
/-- for over a list or a tuple -/
def iAny (K : PySem.W.Frag) (te : TE) : TI := fun σ H R => iList K te σ H R ∨ iTup K te σ H R
theorem pi_anyA {X : Cx} {tg l : Expr} {te : TE} (pe : PE X l te) : PI X tg l (iAny X.K te) := by
  constructor
  rintro pins s σ H R I (h | h)
  · exact (pi_list pe).run pins s σ H R I h
  · exact (pi_tup pe).run pins s σ H R I h
end Ol

set_option Elab.async false
set_option linter.all false
set_option maxRecDepth 100000
set_option maxHeartbeats 4000000
namespace Ol
open PySem PySem.Spec PyProof.Rows L2
/-- what stands behind a statement -/
theorem cutN {tf tg : TS} {D : Ends} {σ : L2.St} {H : Hp} (W : L2.St → Hp → Prop) (first : ∀ N : L2.St → Hp → Prop, (∀ σ' H', W σ' H' → N σ' H') → tf { D with nx := N } σ H) (rest : ∀ σ' H', W σ' H' → tg D σ' H') : tSeq tf tg D σ H :=
  first _ rest
/-- a list == [] -/
def rEqE (K : PySem.W.Frag) : R2 := fun x y H Q => ∃ a b xs, x = .ref a ∧ y = .ref b ∧ SqL K H a xs ∧ SqL K H b [] ∧ Q (.bl xs.isEmpty) H
theorem op_eqE {X : Cx} {k : Nat} (hr : Room k X.A) : OpR X (compareOp .Eq) (rEqE X.K) := by
  intro pins s σ H x y v u Q I rx ry h
  obtain ⟨a, b, xs, rfl, rfl, h1, h2, q⟩ := h
  cases rx
  cases ry
  obtain ⟨its, r, at_a, _⟩ := I.list h1
  obtain ⟨its2, r2, at_b, _⟩ := I.list h2
  cases r2
  have room := hr.units
  cases xs with
  | nil =>
    cases r
    exact SeqAt.eq_listAt (e := fun _ => true) at_a.isList at_b.isList rfl (by omega) (fun j less => absurd less (Nat.not_lt_zero j)) ⟨.bl _, H, I, rfl, q⟩
  | cons x xs =>
    cases r
    exact SeqAt.eq_list_lengthsAt at_a.isList at_b.isList rfl (by omega) ⟨.bl _, H, I, rfl, q⟩
end Ol

set_option Elab.async false
set_option linter.all false
set_option maxRecDepth 100000
set_option maxHeartbeats 4000000
namespace Ol
open PySem PySem.Spec PyProof.Rows L2
/-! ### t * 0 -/
theorem tuple_mul0 (l : Addr) (items : Array Value) (n : Nat) (dd : Option Addr) (sl : Array (Option Value)) (u : Tok) (hi : items.isEmpty = false) :
    Meets (Builtin.«tuple.__mul__» ⟨[.ref l, .int 0 u], []⟩) (fun _ R s => s.heap.get? l = some { cls := .type "tuple", dict := dd, data := .seq items n, slots := sl } ∧
      R (.ok (.ret (Value.ref s.heap.objs.size))) { s with heap := s.heap.push (seqObj "tuple" #[] 0) }) :=
  .of_wp fun prog w A R s h => by
    obtain ⟨hp, g, d, tk, os⟩ := s
    obtain ⟨hl, h⟩ := h
    have f1 := AutoSeq1.idx_int
    wp_walk using wpAny_loadPart' hl
    exact ⟨_, rfl, h⟩
/-- t * k, 0 ≤ k -/
def rRepZ (K : PySem.W.Frag) : R2 := fun x y H Q => rRepA K x y H Q ∨ ∃ l xs, x = .ref l ∧ y = .int 0 ∧ SqT K H l xs ∧ xs ≠ [] ∧ ∀ p, H p = none → Q (.ref p) (upd H p (.tup []))
theorem op_repZ {X : Cx} : OpR X (binaryOp .Mult) (rRepZ X.K) := by
  intro pins s σ H x y v u Q I rx ry h
  rcases h with h | ⟨l, xs, ex, ey, hT, hne, q⟩
  · exact op_repA pins s σ H x y v u Q I rx ry h
  · subst ex ey
    cases rx
    obtain ⟨t, rfl⟩ := ry
    obtain ⟨its, r, ⟨⟨cls, dd, data, sl⟩, ho, hc, n, hd⟩, hs⟩ := I.tuple hT
    simp only at hc hd
    subst hc hd
    have hle : its.length = xs.length := r.length.symm
    have hn : its ≠ [] := fun e => hne (by
      rw [e] at hle
      exact List.eq_nil_of_length_eq_zero hle.symm)
    have hi : its.toArray.isEmpty = false := by
      cases its with
      | nil => exact absurd rfl hn
      | cons a b => rfl
    exact wpAny_binaryOp_repeat_ref (T := "tuple") (U := "int") (by decide) ⟨_, ho, rfl⟩ (fun s' => typeIs_int s' 0 t) noFill_tuple_mul F.fills_int_mul F.slot_int_rmul repeat_tuple F.slot_int_index.lookup
      (call_meets F.slot_int_rmul (typeIs_int s 0 t) F.entry_int_rmul (F.args_int_rmul_2 _ _) (int_rmul_tuple 0 t l its.toArray n dd sl)
        ⟨ho, rfl, ⟨_, ho, rfl⟩, call_meets F.slot_tuple_mul ⟨_, ho, rfl⟩ F.entry_tuple_mul (F.args_tuple_mul_2 _ _) (tuple_mul0 l its.toArray n dd sl t hi) ⟨ho, .ref s.heap.objs.size, _, I.laid (o := .tup []) (fun b o z => Heap.get?_push_of_some _ z) (Nat.le_refl _) ⟨Nat.zero_le _, [], .nil, IsTup.new _ _⟩, rfl, q _ (I.hok.fresh (Nat.le_refl _))⟩⟩)
end Ol

set_option Elab.async false
set_option linter.all false
set_option maxRecDepth 100000
set_option maxHeartbeats 4000000
namespace Ol
open PySem PySem.Spec PyProof.Rows L2
/-! ### a head by one run: facts of the program's top as Bools -/
/-- a def: where its function stands, its names, its statement -/
structure DX where
  ad : PySem.W.Frag → Addr
  name : Str
  qual : Str
  st : Stmt
def noneV : Value → Bool
  | .none => true
  | _ => false
def DX.obs (K : PySem.W.Frag) (d : DX) : He.FnW := match K.lookup (d.ad K) with
  | some ⟨_, _, .func fd, _⟩ => some (fd.name, fd.qualname, fd.params, fd.body, fd.scope, fd.globals, fd.closure, fd.builtins)
  | _ => none
def DX.val (d : DX) : He.FnW := some (d.name, d.qual, defArgs d.st, .stmts (defBody d.st), defScope d.st, mainGlobals, [], builtinsNs)
def DX.ok (K : PySem.W.Frag) (d : DX) : Bool := PySem.W.keepIn K (.ref (d.ad K)) && match K.lookup (d.ad K) with
  | some ⟨_, _, .func fd, _⟩ => PySem.W.codeIn K fd.code d.qual && noneV fd.defaults
  | _ => false
theorem DX.fun_ {K : PySem.W.Frag} {d : DX} (h1 : d.obs K = d.val) (h2 : d.ok K = true) : ∃ (oc : Value) (od : Option Addr) (kV dc pm : Value) (an : Option Addr) (cd ct : Value) (sl : Array (Option Value)),
    K.lookup (d.ad K) = some ⟨oc, od, .func (PySem.W.fnOf d.name d.qual (defArgs d.st) (defBody d.st) (defScope d.st) .none kV dc pm an cd ct), sl⟩ ∧ PySem.W.codeIn K cd d.qual = true ∧ PySem.W.keepIn K (.ref (d.ad K)) = true := by
  unfold DX.obs DX.val at h1
  unfold DX.ok at h2
  rw [Bool.and_eq_true] at h2
  obtain ⟨hk, h2⟩ := h2
  split at h1
  · rename_i oc od fd sl e
    rw [e] at h2
    dsimp only at h2
    rw [Bool.and_eq_true] at h2
    obtain ⟨hc, hn⟩ := h2
    obtain ⟨a1, a2, a3, a4, a5, a6, a7, a8, a9, a10, a11, a12, a13, a14, a15⟩ := fd
    injection h1 with h1
    injection h1 with n1 h1
    injection h1 with n2 h1
    injection h1 with n3 h1
    injection h1 with n4 h1
    injection h1 with n5 h1
    injection h1 with n6 h1
    injection h1 with n7 n8
    dsimp only at n1 n2 n3 n4 n5 n6 n7 n8 hn hc
    have n9 : a8 = .none := by
      cases a8 <;> first | rfl | cases hn
    subst n9
    refine ⟨oc, od, a9, a10, a11, a12, a13, a14, sl, ?_, hc, hk⟩
    rw [e, n1, n2, n3, n4, n5, n6, n7, n8]
  · cases h1
/-- the addresses that n steps reach, and the code objects of these functions -/
def codeA (K : PySem.W.Frag) (f : Addr) : Addr := match K.lookup f with
  | some ⟨_, _, .func fd, _⟩ => match fd.code with
    | .ref c => c
    | _ => 0
  | _ => 0
def asX (n : Nat) (ps : List (PySem.W.Frag → Addr)) (g : Addr → Option Obj) : List Addr :=
  (fun l => l ++ ps.map fun p => codeA (He.frG g l) (p (He.frG g l))) (He.asD g n)
/-- all of these Bools -/
def hookX (as : (Addr → Option Obj) → List Addr) (ds : List DX) (L : PySem.W.Frag → List Bool) : PySem.W.Hook where
  α := List He.FnW × Bool
  obs := fun s => (ds.map (DX.obs (He.frG s.heap.get? (as s.heap.get?))), (L (He.frG s.heap.get? (as s.heap.get?))).all id && ds.all (DX.ok (He.frG s.heap.get? (as s.heap.get?))))
  val := fun _ => (ds.map DX.val, true)
  says := fun _ h => ∃ K : PySem.W.Frag, K.In h ∧ ds.map (DX.obs K) = ds.map DX.val ∧ ((L K).all id && ds.all (DX.ok K)) = true
  of := fun w s e => ⟨_, He.frG_in, congrArg Prod.fst e, congrArg Prod.snd e⟩
  keeps := fun w h h' ⟨K, hK, c⟩ k => ⟨K, PySem.W.Frag.In.keeps hK k, c⟩
def obX (as : (Addr → Option Obj) → List Addr) (ds : List DX) (L : PySem.W.Frag → List Bool) (s : PySem.W.SharedT) : List He.FnW × Bool :=
  (ds.map (DX.obs (He.frG (HandSHeadRun.getT s) (as (HandSHeadRun.getT s)))), (L (He.frG (HandSHeadRun.getT s) (as (HandSHeadRun.getT s)))).all id && ds.all (DX.ok (He.frG (HandSHeadRun.getT s) (as (HandSHeadRun.getT s)))))
theorem obX_eq (as : (Addr → Option Obj) → List Addr) (ds : List DX) (L : PySem.W.Frag → List Bool) (s : PySem.W.SharedT) : obX as ds L s = (hookX as ds L).obs s.abs := by
  have e : HandSHeadRun.getT s = s.abs.heap.get? := funext (HandSHeadRun.getT_eq s)
  unfold obX
  rw [e]
  rfl
theorem allX {bs : List Bool} (h : bs.all id = true) (i : Nat) {b : Bool} (e : bs[i]? = some b := by rfl) : b = true := List.all_eq_true.mp h b (List.mem_of_getElem? e)
theorem funX {K : PySem.W.Frag} {ds : List DX} (h1 : ds.map (DX.obs K) = ds.map DX.val) (h2 : ds.all (DX.ok K) = true) (i : Nat) {d : DX} (e : ds[i]? = some d := by rfl) : d.obs K = d.val ∧ d.ok K = true := by
  refine ⟨?_, List.all_eq_true.mp h2 d (List.mem_of_getElem? e)⟩
  have z : (ds.map (DX.obs K))[i]? = (ds.map DX.val)[i]? := by rw [h1]
  rw [List.getElem?_map, List.getElem?_map, e] at z
  exact Option.some.inj z
/-! ### single facts -/
def decO (a b : Option Bool) : Bool := decide (a = b)
theorem decO_ok {a b : Option Bool} (h : decO a b = true) : a = b := of_decide_eq_true h
def strB (K : PySem.W.Frag) (x z : Str) : Bool := match PySem.W.nsIn K mainGlobals x with
  | some (some (.str y _)) => decide (y = z)
  | _ => false
theorem strB_ok {K : PySem.W.Frag} {x z : Str} (h : strB K x z = true) : ∃ t, PySem.W.nsIn K mainGlobals x = some (some (.str z t)) := by
  unfold strB at h
  split at h
  · rename_i y t e
    have := of_decide_eq_true h
    subst this
    exact ⟨t, e⟩
  · cases h
def intB (K : PySem.W.Frag) (x : Str) (z : Int) : Bool := match PySem.W.nsIn K mainGlobals x with
  | some (some (.int y _)) => decide (y = z)
  | _ => false
theorem intB_ok {K : PySem.W.Frag} {x : Str} {z : Int} (h : intB K x z = true) : ∃ t, PySem.W.nsIn K mainGlobals x = some (some (.int z t)) := by
  unfold intB at h
  split at h
  · rename_i y t e
    have := of_decide_eq_true h
    subst this
    exact ⟨t, e⟩
  · cases h
/-- where a property's function stands -/
def prA (K : PySem.W.Frag) (p : Addr) : Addr := match PySem.W.recIn K p "property" with
  | some (.ref f :: _) => f
  | _ => 0
def prB (K : PySem.W.Frag) (p : Addr) : Bool := match PySem.W.recIn K p "property" with
  | some (.ref _ :: _) => true
  | _ => false
theorem prB_ok {K : PySem.W.Frag} {p : Addr} (h : prB K p = true) : ∃ rest, PySem.W.recIn K p "property" = some (.ref (prA K p) :: rest) := by
  unfold prB at h
  split at h
  · rename_i f r e
    refine ⟨r, ?_⟩
    unfold prA
    rw [e]
  · cases h
def strsB : List Value → List Str → Bool
  | [], [] => true
  | .str y _ :: vs, z :: zs => decide (y = z) && strsB vs zs
  | _, _ => false
def tupX (K : PySem.W.Frag) (a : Addr) (zs : List Str) : Bool := match K.lookup a with
  | some ⟨.type c, _, .seq its _, _⟩ => decide (c = "tuple") && strsB its.toList zs
  | _ => false
theorem strsB_ok : ∀ {vs : List Value} {zs : List Str}, strsB vs zs = true → ∃ ts : List Tok, ts.length = zs.length ∧ vs = (zs.zip ts).map fun p => .str p.1 p.2
  | [], [], _ => ⟨[], rfl, rfl⟩
  | .str y t :: vs, z :: zs, h => by
    unfold strsB at h
    rw [Bool.and_eq_true] at h
    obtain ⟨ts, l, e⟩ := strsB_ok h.2
    have := of_decide_eq_true h.1
    subst this
    exact ⟨t :: ts, by rw [List.length_cons, List.length_cons, l], by rw [e]; rfl⟩
  | [], _ :: _, h => by simp [strsB] at h
  | .str _ _ :: _, [], h => by simp [strsB] at h
theorem tupX_ok {K : PySem.W.Frag} {a : Addr} {zs : List Str} (h : tupX K a zs = true) : ∃ (od : Option Addr) (ts : List Tok) (n : Nat) (sl : Array (Option Value)), ts.length = zs.length ∧ K.lookup a = some ⟨.type "tuple", od, .seq ((zs.zip ts).map fun p => Value.str p.1 p.2).toArray n, sl⟩ := by
  unfold tupX at h
  split at h
  · rename_i c od its n sl e
    rw [Bool.and_eq_true] at h
    obtain ⟨ts, l, e2⟩ := strsB_ok h.2
    have := of_decide_eq_true h.1
    subst this
    refine ⟨od, ts, n, sl, l, ?_⟩
    rw [e, ← e2]
  · cases h
def noS (K : PySem.W.Frag) : Bool := (K.lookup sysModules).isNone
theorem noS_ok {K : PySem.W.Frag} (h : noS K = true) : K.lookup sysModules = none := Option.isNone_iff_eq_none.mp h
/-! ### the walk over such a head -/
theorem walkGE {l : PySem.W.OpenLaw} {n k : Nat} {q : Program} {loose : List Str}
    {XP : (Str → Option Value) → Heap → Prop} {YP : World → Heap → Prop} {d : DefRec} {x : Str}
    (hn : l.most = some n) (him : importsNone q = true) (hn2 : n ≤ sizeLine) (hdf : d.params.defaults = []) (hr : Room k callerA)
    (F : ∀ (w : World) (mg : Str → Option Value) (fa : Addr) (h : Heap), YP w h → h.Ns mainGlobals mg → mg d.name = some (.ref fa) →
      ∃ (K : PySem.W.Frag) (fd : FuncData) (sp : Sp), K.In h ∧ K.lookup sysModules = none ∧ (∀ (s : Shared) (u : Value), BindsTo s fd ⟨[u], []⟩ [(x, u)]) ∧
        (∀ (H : Hp) (a : Addr) (ns : List Int), ns.length ≤ n → Sys H → SqL K H a (ns.map V.int) → sp [.ref a] H (fun v _ => v = .bl true) E0) ∧
        ∀ base : Heap, K.In base → base.Ns mainGlobals mg → FnG l.prog w K mg base k fa fd [x] sp) :
    PySem.W.WalkO q loose XP YP l.row.toRowW d [] (fun f vs => PySem.call f vs) := by
  refine Att.attach_call hn hdf ?_
  intro w s0 s1 mg mb fa o pm cd doc a vs ns G Y ho hd hcd hmg hobj hints hlen hg
  obtain ⟨K, fd, sp, kin, kS, hb, hsp, hF⟩ := F w mg fa _ Y G.T.g hmg
  have hS : ∃ o, s1.heap.get? sysModules = some o := by
    obtain ⟨mm, ⟨o, es, ep, e, _⟩, _⟩ := (G.T.seer him).mods
    exact ⟨o, e⟩
  exact law_callG kin kS hS G.T.g G.T.b G.T.builtins G.T.nolimit hg hobj hints
    (Nat.le_trans hlen hn2) hr hF hb (fun H h1 h2 => hsp H a ns hlen h1 h2)
end Ol

set_option Elab.async false
set_option linter.all false
set_option maxRecDepth 100000
set_option maxHeartbeats 4000000
namespace K70
open PySem PySem.Spec PyProof.Rows L2 Ol
open TL (tl)
def topS (i : Nat) : Stmt := PySem.Challenge.pw_openlanes_k70_rows_known.main.body.getD i (.Pass ⟨0, 0, 0, 0⟩)
section
variable {P : Program} {w : World} {K : PySem.W.Frag} {mg : Str → Option Value} {base : Heap}
def isBoundD : PyData → Bool
  | .int i => decide (1 ≤ i)
  | _ => false
abbrev s_is_bound : Stmt := (topS 32)
theorem sc_is_bound : FnScope ["thing"] ["thing"] (defScope s_is_bound) := ⟨rfl, rfl, rfl, by decide +kernel, rfl, by decide +kernel, by decide +kernel⟩
theorem ok_is_bound {f : Addr} {fd : FuncData} (F : Fun K "is_bound" "is_bound" s_is_bound f fd) (C1 : Ca P w K mg base 1 "is_integer" ["thing"] (spPred Any isIntD)) :
    FnOk P w K mg base CX0 2 f fd ["thing"] (spPred Any isBoundD) := by
  refine F.ok sc_is_bound (fun vs H Q E h => ?_) (fun cdv A outer s H vs Q E hr h => ?_)
  · obtain ⟨v, d, rfl, _⟩ := h
    rfl
  · obtain ⟨v, d, rfl, hd, hz, q⟩ := h
    refine ⟨_, (pss_one (ps_ret (pe_and (pe_ca C1 (hr.mono (by decide)) (by rfl) (pa_cons (pv 0) pa_nil)) (pe_one (pe_cmpR op_ge (pv 0) pe_int (nomark _)))))), ?_⟩
    refine ⟨_, rfl, v, d, rfl, hd, trivial, fun H1 e1 => ⟨_, rfl, ?_⟩⟩
    refine ite2 (fun h => ?_) (fun h => ?_)
    · obtain ⟨i, rfl, rfl⟩ := dq_int hd h
      refine ⟨_, rfl, _, _, rfl, rfl, ?_⟩
      exact q H1 e1
    · have e : isBoundD d = false := by
        cases d with
        | int i => exact absurd rfl h
        | _ => rfl
      have q' := q H1 e1
      rw [e] at q'
      exact q'
/-- names with whole numbers, as a dict holds them -/
def kvI (ps : List (Str × Int)) : List (Key × V) := ps.map fun p => (.inr p.1, .int p.2)
def spIsBounds : Sp := fun vs H Q _ => ∃ (a : Addr) (ps : List (Str × Int)), vs = [.ref a] ∧ H a = some (.dK (kvI ps)) ∧ ps ≠ [] ∧ ps.length ≤ 1000 ∧
  (∀ p ∈ ps, isNameS p.1 = true ∧ 1 ≤ p.2) ∧ ∀ H', Ext H H' → Q (.bl true) H'
abbrev s_is_bounds : Stmt := (topS 33)
theorem sc_is_bounds : FnScope ["thing", "name", "bound"] ["thing"] (defScope s_is_bounds) := ⟨rfl, rfl, rfl, by decide +kernel, rfl, by decide +kernel, by decide +kernel⟩
theorem ok_is_bounds {f : Addr} {fd : FuncData} (F : Fun K "is_bounds" "is_bounds" s_is_bounds f fd) (T : BT mg)
    (C3 : Ca P w K mg base 1 "is_name" ["thing"] (spPred Ok1 isNameD)) (C4 : Ca P w K mg base 2 "is_bound" ["thing"] (spPred Any isBoundD)) :
    FnOk P w K mg base CX0 3 f fd ["thing"] spIsBounds := by
  refine F.ok sc_is_bounds (fun vs H Q E h => ?_) (fun cdv A outer s H vs Q E hr h => ?_)
  · obtain ⟨a, ps, rfl, _⟩ := h
    rfl
  · obtain ⟨a, ps, rfl, ha, hne, hl, hps, q⟩ := h
    refine ⟨_, (pss_cons (ps_if (PW.pt (pw_or (pt_not (pt_val (pe_callB call_isi (by rfl) T.n_isinstance (by decide +kernel) (pa_cons (pv 0) (pa_cons (pe_bltn (v := .ty "dict") (by rfl) T.n_dict (by decide +kernel) rfl) pa_nil))))) (pw_or1 (pt_cmpR op_eq (pe_callB call_lenD (by rfl) T.n_len (by decide +kernel) (pa_cons (pv 0) pa_nil)) pe_int (nomark _)))))
      (pss_one (ps_ret pe_bl))
      pss_nil)
    (pss_one (ps_ret (pe_callB (cr_all rfl) (by rfl) T.n_all (by decide +kernel) (pa_cons (pe_lock (pe_lc (own := [("name", 1), ("bound", 2)]) (g := gTup K 2 (gCons (gName 1) (gCons (gName 2) gNil))) (tt := tYes) rfl sc_is_bounds.nd (pi_items (pv 0)) (blkOk_by (N := ["thing", "name", "bound"]) (sc := defScope s_is_bounds) (by decide +kernel)) (fun _ _ _ _ _ => (pg_tup (by rfl) (pgs_cons (pg_name (i := 1) sc_is_bounds.nd rfl (.inl rfl)) (pgs_cons (pg_name (i := 2) sc_is_bounds.nd rfl (.inl rfl)) pgs_nil)))) (fun _ _ _ _ _ => pts_nil) (fun _ _ _ _ _ => (pe_and (pe_ca C3 (hr.mono (by decide)) (by rfl) (pa_cons (pv 1) pa_nil)) (pe_one (pe_ca C4 (hr.mono (by decide)) (by rfl) (pa_cons (pv 2) pa_nil))))))) pa_nil))))), ?_⟩
    refine ⟨_, rfl, _, _, _, _, _, rfl, .ty "dict", .base (.dK ha), ki_dict (.dict []), _, rfl, ?_⟩
    refine iteF ?_
    refine ⟨_, rfl, a, _, rfl, ha, rfl, _, rfl, ?_⟩
    have hlen : (kvI ps).length = ps.length := by unfold kvI; rw [List.length_map]
    refine ite2 (fun g => ?_) (fun _ => ?_)
    · have z := of_decide_eq_true g
      injection z with z
      rw [hlen] at z
      cases ps with
      | nil => exact absurd rfl hne
      | cons p ps => simp at z; omega
    refine ⟨a, _, ha, trivial, fun od => ⟨_, rfl, a, od, _, rfl, upd_same, fun D hD => ?_⟩⟩
    have nD : D ≠ a := fun z => by rw [z, upd_same] at hD; cases hD
    refine lc_acc walk_items (fun i xs _ => xs = List.replicate i (V.bl true)) (fun _ _ _ _ _ h => h) rfl hD (fun i xs _ h => by rw [h, List.length_replicate]; exact Nat.le_refl _) (by rw [hlen]; exact Nat.le_trans hl (by decide)) (fun H' e => e _ _ upd_same) ?_ ?_
    · rintro i x H1 H2 xs hi e1 ⟨T', y1, y2, rfl, hT, rfl, g1, g2⟩ hp QY QN kY kN
      have hi' : i < ps.length := by rw [← hlen]; exact hi
      have hk : (kvI ps)[i]? = some (.inr ps[i].1, .int ps[i].2) := by
        unfold kvI
        rw [List.getElem?_map, List.getElem?_eq_getElem hi']
        rfl
      have k1 : y1 = .str ps[i].1 := by
        have z := g1
        dsimp only at z
        rw [hk] at z
        exact (Option.some.inj z).symm
      have k2 : y2 = .int ps[i].2 := by
        have z := g2
        dsimp only at z
        rw [hk] at z
        exact (Option.some.inj z).symm
      subst k1
      subst k2
      obtain ⟨b1, b2⟩ := hps _ (List.getElem_mem hi')
      have eT := Ext.new (o := .tup [.str ps[i].1, .int ps[i].2]) hT
      refine ⟨T', _, rfl, SqT.of upd_same, rfl, _, _, rfl, _, _, rfl, rfl, rfl, ?_⟩
      refine tyes ?_
      refine ⟨_, rfl, _, _, rfl, .str _, (fun x hx => by cases hx; exact name_tx b1), fun H3 e3 => ⟨_, rfl, ?_⟩⟩
      rw [if_pos (show isNameD (.str ps[i].1) = true from b1)]
      refine ⟨_, rfl, _, _, rfl, .int _, trivial, fun H4 e4 => ?_⟩
      rw [show isBoundD (.int ps[i].2) = true from decide_eq_true b2]
      refine kY _ H4 ((eT.trans e3).trans e4) fun Hz _ hh => ?_
      rw [hh, List.replicate_succ']
    · rintro H1 xs e1 hx hp
      subst hp
      refine ⟨e1 _ _ upd_same, D, List.replicate (kvI ps).length true, rfl, SqL.of ?_, ?_⟩
      · rw [upd_ne nD, hx, List.map_replicate]
      · have e2 : Ext H (upd H1 a (.dK (kvI ps))) := fun b o z => by
          by_cases c : b = a
          · rw [c] at z ⊢
            rw [upd_same, ← ha, z]
          · rw [upd_ne c]
            exact e1 _ _ (by rw [upd_ne c]; exact z)
        have ea : (List.replicate (kvI ps).length true).all id = true := by simp
        rw [ea]
        exact q _ e2
end
end K70

set_option Elab.async false
set_option linter.all false
set_option maxRecDepth 100000
set_option maxHeartbeats 4000000
namespace K70
open PySem PySem.Spec PyProof.Rows L2 Ol
abbrev D0 : DX := ⟨fun K => He.ga K "is_integer", "is_integer", "is_integer", (topS 6)⟩
abbrev D1 : DX := ⟨fun K => He.ga K "is_number", "is_number", "is_number", (topS 7)⟩
abbrev D2 : DX := ⟨fun K => He.ga K "is_name", "is_name", "is_name", (topS 8)⟩
abbrev D3 : DX := ⟨fun K => He.ga K "is_word", "is_word", "is_word", (topS 9)⟩
abbrev D4 : DX := ⟨fun K => He.ga K "is_mode", "is_mode", "is_mode", (topS 10)⟩
abbrev D5 : DX := ⟨fun K => He.ga K "is_arm", "is_arm", "is_arm", (topS 11)⟩
abbrev D6 : DX := ⟨fun K => He.ga K "is_row_of", "is_row_of", "is_row_of", (topS 12)⟩
abbrev D7 : DX := ⟨fun K => He.ga K "is_place", "is_place", "is_place", (topS 23)⟩
abbrev D8 : DX := ⟨fun K => He.ga K "is_else", "is_else", "is_else", (topS 24)⟩
abbrev D9 : DX := ⟨fun K => He.ga K "is_bound", "is_bound", "is_bound", (topS 32)⟩
abbrev D10 : DX := ⟨fun K => He.ga K "is_bounds", "is_bounds", "is_bounds", (topS 33)⟩
abbrev D11 : DX := ⟨fun K => He.ga K "is_deal", "is_deal", "is_deal", (topS 27)⟩
abbrev D12 : DX := ⟨fun K => He.ga K "is_ascending", "is_ascending", "is_ascending", (topS 28)⟩
abbrev D13 : DX := ⟨fun K => He.ga K "is_item", "is_item", "is_item", (topS 29)⟩
abbrev D14 : DX := ⟨fun K => He.ga K "is_row", "is_row", "is_row", (topS 30)⟩
abbrev D15 : DX := ⟨fun K => He.ga K "_law_bag", "_law_bag", "_law_bag", (topS 36)⟩
abbrev D16 : DX := ⟨fun K => He.ga K "_law_take", "_law_take", "_law_take", (topS 37)⟩
abbrev D17 : DX := ⟨fun K => He.ga K "_law_alike", "_law_alike", "_law_alike", (topS 38)⟩
abbrev D18 : DX := ⟨fun K => He.ga K "_law_names", "_law_names", "_law_names", (topS 39)⟩
abbrev D19 : DX := ⟨fun K => He.ga K "_law_bounds", "_law_bounds", "_law_bounds", (topS 40)⟩
abbrev D20 : DX := ⟨fun K => He.ga K "_law_arm", "_law_arm", "_law_arm", (topS 41)⟩
abbrev D21 : DX := ⟨fun K => He.ga K "_law_program", "_law_program", "_law_program", (topS 42)⟩
abbrev D22 : DX := ⟨fun K => He.ga K "_law_opens", "_law_opens", "_law_opens", (topS 43)⟩
abbrev D23 : DX := ⟨fun K => He.ga K "_law_left", "_law_left", "_law_left", (topS 44)⟩
abbrev D24 : DX := ⟨fun K => He.ga K "_law_choices", "_law_choices", "_law_choices", (topS 45)⟩
abbrev D25 : DX := ⟨fun K => He.ga K "_law_lone", "_law_lone", "_law_lone", (topS 46)⟩
abbrev D26 : DX := ⟨fun K => He.ga K "_law_own_steps", "_law_own_steps", "_law_own_steps", (topS 47)⟩
abbrev D27 : DX := ⟨fun K => He.ga K "_law_pairs_of", "_law_pairs_of", "_law_pairs_of", (topS 48)⟩
abbrev D28 : DX := ⟨fun K => He.ga K "_law_start", "_law_start", "_law_start", (topS 49)⟩
abbrev D29 : DX := ⟨fun K => He.ga K "_law_row", "_law_row", "_law_row", (topS 50)⟩
abbrev D30 : DX := ⟨fun K => He.ga K "_law_pair_right", "_law_pair_right", "_law_pair_right", (topS 51)⟩
abbrev D31 : DX := ⟨fun K => He.ga K "_law_due", "_law_due", "_law_due", (topS 52)⟩
abbrev D32 : DX := ⟨fun K => He.ga K "_law_bent_item", "_law_bent_item", "_law_bent_item", (topS 53)⟩
abbrev D33 : DX := ⟨fun K => He.ga K "_law_bent", "_law_bent", "_law_bent", (topS 54)⟩
abbrev D34 : DX := ⟨fun K => He.ga K "law", "law", "law", (topS 55)⟩
abbrev Dm0 : DX := ⟨fun K => He.ma K (He.ga K "Lanes") "__init__", "__init__", "Lanes.__init__", (inClass (topS 34) 0)⟩
abbrev Dm1 : DX := ⟨fun K => He.ma K (He.ga K "Lanes") "__contains__", "__contains__", "Lanes.__contains__", (inClass (topS 34) 4)⟩
abbrev Dm2 : DX := ⟨fun K => He.ma K (He.ga K "Program") "__init__", "__init__", "Program.__init__", (inClass (topS 25) 0)⟩
abbrev Dm3 : DX := ⟨fun K => He.ma K (He.ga K "Program") "_check", "_check", "Program._check", (inClass (topS 25) 1)⟩
def ds0 : List DX := [D0, D1, D2, D3, D4, D5, D6, D7, D8, D9, D10, D11, D12, D13, D14, D15, D16, D17, D18, D19, D20, D21, D22, D23, D24, D25, D26, D27, D28, D29, D30, D31, D32, D33, D34, Dm0]
def ds1 : List DX := [Dm1, Dm2, Dm3]
def ds : List DX := ds0 ++ ds1
def LB0 (K : PySem.W.Frag) : List Bool := [
  noS K,
  He.Fa.ok K (.glo "is_integer"),
  He.Fa.ok K (.glo "is_number"),
  He.Fa.ok K (.glo "is_name"),
  He.Fa.ok K (.glo "is_word"),
  He.Fa.ok K (.glo "is_mode"),
  He.Fa.ok K (.glo "is_arm"),
  He.Fa.ok K (.glo "is_row_of"),
  He.Fa.ok K (.glo "is_place"),
  He.Fa.ok K (.glo "is_else"),
  He.Fa.ok K (.glo "is_bound"),
  He.Fa.ok K (.glo "is_bounds"),
  He.Fa.ok K (.glo "is_deal"),
  He.Fa.ok K (.glo "is_ascending"),
  He.Fa.ok K (.glo "is_item"),
  He.Fa.ok K (.glo "is_row"),
  He.Fa.ok K (.glo "_law_bag"),
  He.Fa.ok K (.glo "_law_take"),
  He.Fa.ok K (.glo "_law_alike"),
  He.Fa.ok K (.glo "_law_names"),
  He.Fa.ok K (.glo "_law_bounds"),
  He.Fa.ok K (.glo "_law_arm"),
  He.Fa.ok K (.glo "_law_program"),
  He.Fa.ok K (.glo "_law_opens"),
  He.Fa.ok K (.glo "_law_left"),
  He.Fa.ok K (.glo "_law_choices"),
  He.Fa.ok K (.glo "_law_lone"),
  He.Fa.ok K (.glo "_law_own_steps"),
  He.Fa.ok K (.glo "_law_pairs_of"),
  He.Fa.ok K (.glo "_law_start"),
  He.Fa.ok K (.glo "_law_row"),
  He.Fa.ok K (.glo "_law_pair_right"),
  He.Fa.ok K (.glo "_law_due"),
  He.Fa.ok K (.glo "_law_bent_item"),
  He.Fa.ok K (.glo "_law_bent"),
  He.Fa.ok K (.glo "law"),
  He.Fa.ok K (.glo "Lanes"),
  He.Fa.ok K (.glo "Program"),
  He.eqO (PySem.W.findIn K (.ref (He.ga K "Lanes")) "__init__") (some (some (.ref (He.ma K (He.ga K "Lanes") "__init__")))),
  PySem.W.isFn K (.ref (He.ma K (He.ga K "Lanes") "__init__")),
  He.eqO (PySem.W.findIn K (.ref (He.ga K "Lanes")) "__contains__") (some (some (.ref (He.ma K (He.ga K "Lanes") "__contains__")))),
  PySem.W.isFn K (.ref (He.ma K (He.ga K "Lanes") "__contains__")),
  He.eqO (PySem.W.findIn K (.ref (He.ga K "Program")) "__init__") (some (some (.ref (He.ma K (He.ga K "Program") "__init__")))),
  PySem.W.isFn K (.ref (He.ma K (He.ga K "Program") "__init__")),
  He.eqO (PySem.W.findIn K (.ref (He.ga K "Program")) "_check") (some (some (.ref (He.ma K (He.ga K "Program") "_check")))),
  PySem.W.isFn K (.ref (He.ma K (He.ga K "Program") "_check")),
  PySem.W.plainGet K (He.ga K "Lanes") Str.empty,
  PySem.W.hasDictIn K (He.ga K "Lanes"),
  PySem.W.plainOver K (He.ga K "Lanes"),
  PySem.W.makesIn K (He.ga K "Lanes"),
  PySem.W.keepIn K (.ref (He.ga K "Lanes")),
  He.eqO (PySem.W.findIn K (.ref (He.ga K "Lanes")) "__setattr__") (some (some (.builtin "object.__setattr__"))),
  He.eqO (PySem.W.findIn K (.ref (He.ga K "Lanes")) "__class__") (some (some (.builtin "object.__class__"))),
  He.eqO (PySem.W.findIn K (.ref (He.ga K "Lanes")) "_names") (some none),
  He.eqO (PySem.W.findIn K (.ref (He.ga K "Lanes")) "_bounds") (some none),
  He.eqO (PySem.W.findIn K (.ref (He.ga K "Lanes")) "_spots") (some none),
  decO (PySem.W.mroIn K (He.ga K "Lanes") (.type "object")) (some true),
  decO (PySem.W.kitOne K (.ref (He.ga K "Lanes")) (.ref (He.ga K "Lanes"))) (some true),
  PySem.W.plainGet K (He.ga K "Program") Str.empty,
  PySem.W.hasDictIn K (He.ga K "Program"),
  PySem.W.plainOver K (He.ga K "Program"),
  PySem.W.makesIn K (He.ga K "Program"),
  PySem.W.keepIn K (.ref (He.ga K "Program")),
  He.eqO (PySem.W.findIn K (.ref (He.ga K "Program")) "__setattr__") (some (some (.builtin "object.__setattr__"))),
  He.eqO (PySem.W.findIn K (.ref (He.ga K "Program")) "__class__") (some (some (.builtin "object.__class__"))),
  He.eqO (PySem.W.findIn K (.ref (He.ga K "Program")) "_places") (some none),
  He.eqO (PySem.W.findIn K (.ref (He.ga K "Program")) "_used") (some none),
  decO (PySem.W.mroIn K (He.ga K "Program") (.type "object")) (some true),
  decO (PySem.W.kitOne K (.ref (He.ga K "Program")) (.ref (He.ga K "Program"))) (some true),
  He.eqO (PySem.W.specialIn K (.builtin "object.__class__") "__get__") (some (some (.builtin "getset_descriptor.__get__"))),
  decO (PySem.W.takesIn K (.builtin "object.__class__")) (some true),
  strB K "LETTERS" abc,
  intB K "LONGEST" 8,
  decO (PySem.W.kitOne K (.ref (He.ga K "Lanes")) (.type "list")) (some false),
  decO (PySem.W.kitOne K (.ref (He.ga K "Program")) (.type "list")) (some false),
  He.Fa.ok K (.glo "WORDS"),
  He.Fa.ok K (.glo "MODES"),
  tupX K (He.ga K "WORDS") ["close", "ended", "send", "take"],
  tupX K (He.ga K "MODES") ["any", "first"],
  He.Fa.ok K (.free "len"),
  He.Fa.ok K (.free "int"),
  He.Fa.ok K (.free "abs"),
  He.Fa.ok K (.free "range"),
  He.Fa.ok K (.free "repr")]
def LB1 (K : PySem.W.Frag) : List Bool := [
  He.Fa.ok K (.free "isinstance"),
  He.Fa.ok K (.free "all"),
  He.Fa.ok K (.free "tuple"),
  He.Fa.ok K (.free "list"),
  He.Fa.ok K (.free "str"),
  He.Fa.ok K (.free "bool"),
  He.Fa.ok K (.free "dict"),
  He.Fa.ok K (.free "sorted"),
  He.Fa.ok K (.free "enumerate"),
  He.Fa.ok K (.free "zip"),
  He.Fa.ok K (.free "set"),
  He.Fa.ok K (.free "max")]
def LB (K : PySem.W.Frag) : List Bool := LB0 K ++ LB1 K
def AS : (Addr → Option Obj) → List Addr := asX 4 []
abbrev hk : PySem.W.Hook := hookX AS ds LB
def ob (s : PySem.W.SharedT) : List He.FnW × Bool := obX AS ds LB s
theorem ob_eq (s : PySem.W.SharedT) : ob s = hk.obs s.abs := obX_eq AS ds LB s
abbrev RR : PySem.W.OpenRow := PySem.W.OpenLaw.row PySem.Challenge.rw_openlanes_k70_rows_known
def loose : List Str := (["_wall", "__name__", "LETTERS", "LONGEST", "WORDS", "MODES", "is_integer", "is_number", "is_name", "is_word", "is_mode", "is_arm", "is_row_of", "LaneError", "Wrong", "NoLane", "NoPlace", "NoArm", "TwoElse", "state_behind", "is_place", "is_else", "Program", "is_deal", "is_ascending", "is_item", "is_row", "is_bound", "is_bounds", "Lanes"] : List Str) ++ (["_law_bag", "_law_take", "_law_alike", "_law_names", "_law_bounds", "_law_arm", "_law_program", "_law_opens", "_law_left", "_law_choices", "_law_lone", "_law_own_steps", "_law_pairs_of", "_law_start", "_law_row", "_law_pair_right", "_law_due", "_law_bent_item", "_law_bent"] : List Str)
noncomputable abbrev RUN (w : World) (os : OsState) : Option PySem.W.SharedT := HandSHeadRun.endF (HandSHeadRun.stepQ (HandSHeadRun.denQ HandSHeadRun.tabQ) RR.prog w) 20000 RR.prog w os
abbrev QQ := PySem.W.view RR.prog [55]
abbrev KS (s : PySem.W.SharedT) : PySem.W.Frag := He.frG (HandSHeadRun.getT s) (AS (HandSHeadRun.getT s))
theorem runA (w : World) (os : OsState) : (RUN w os).map (fun s => HandSHeadRun.looksF RR.prog (PySem.W.boot_heap w.params) s.abs) = some true := by kernel_rfl
theorem runB (w : World) (os : OsState) : (RUN w os).map (fun s => HandSHeadRun.seenQ QQ loose (importedModules RR.prog.main.body) (fun s => PySem.W.xlAt QQ [] s && PySem.W.recOk RR.records s) s.abs) = some (PySem.W.openGood QQ loose) := by kernel_rfl
theorem runC0 (w : World) (os : OsState) : (RUN w os).map (fun s => ds0.map (DX.obs (KS s))) = some (ds0.map DX.val) := by kernel_rfl
theorem runE0 (w : World) (os : OsState) : (RUN w os).map (fun s => ds0.all (DX.ok (KS s))) = some true := by kernel_rfl
theorem runC1 (w : World) (os : OsState) : (RUN w os).map (fun s => ds1.map (DX.obs (KS s))) = some (ds1.map DX.val) := by kernel_rfl
theorem runE1 (w : World) (os : OsState) : (RUN w os).map (fun s => ds1.all (DX.ok (KS s))) = some true := by kernel_rfl
theorem runD0 (w : World) (os : OsState) : (RUN w os).map (fun s => (LB0 (KS s)).all id) = some true := by kernel_rfl
theorem runD1 (w : World) (os : OsState) : (RUN w os).map (fun s => (LB1 (KS s)).all id) = some true := by kernel_rfl
theorem run (w : World) : HandSHeadRun.RunEq RR QQ hk ob 20000 loose w := by
  intro os
  have hrunA := runA w os
  have hrunB := runB w os
  have hrunC0 := runC0 w os
  have hrunC1 := runC1 w os
  have hrunE0 := runE0 w os
  have hrunE1 := runE1 w os
  have hrunD0 := runD0 w os
  have hrunD1 := runD1 w os
  revert hrunA hrunB hrunC0 hrunC1 hrunE0 hrunE1 hrunD0 hrunD1
  show _
  unfold RUN
  generalize HandSHeadRun.endF (HandSHeadRun.stepQ (HandSHeadRun.denQ HandSHeadRun.tabQ) RR.prog w) 20000 RR.prog w os = o
  intro hrunA hrunB hrunC0 hrunC1 hrunE0 hrunE1 hrunD0 hrunD1
  cases o with
  | none => cases hrunA
  | some s =>
    have hrunA : HandSHeadRun.looksF RR.prog (PySem.W.boot_heap w.params) s.abs = true := Option.some.inj hrunA
    have hrunB : HandSHeadRun.seenQ QQ loose (importedModules RR.prog.main.body) (fun s => PySem.W.xlAt QQ [] s && PySem.W.recOk RR.records s) s.abs = PySem.W.openGood QQ loose := Option.some.inj hrunB
    have hrunC0 : ds0.map (DX.obs (KS s)) = ds0.map DX.val := Option.some.inj hrunC0
    have hrunC1 : ds1.map (DX.obs (KS s)) = ds1.map DX.val := Option.some.inj hrunC1
    have hrunE0 : ds0.all (DX.ok (KS s)) = true := Option.some.inj hrunE0
    have hrunE1 : ds1.all (DX.ok (KS s)) = true := Option.some.inj hrunE1
    have hrunD0 : (LB0 (KS s)).all id = true := Option.some.inj hrunD0
    have hrunD1 : (LB1 (KS s)).all id = true := Option.some.inj hrunD1
    have eo : ob s = (ds.map DX.val, true) := by
      show (ds.map (DX.obs (KS s)), (LB (KS s)).all id && ds.all (DX.ok (KS s))) = _
      have e1 : ds.map (DX.obs (KS s)) = ds.map DX.val := by unfold ds; (try simp only [List.map_append]); rw [hrunC0, hrunC1]
      have e2 : (LB (KS s)).all id = true := by unfold LB; (try simp only [List.all_append]); rw [hrunD0, hrunD1]; try rfl
      have e3 : ds.all (DX.ok (KS s)) = true := by unfold ds; (try simp only [List.all_append]); rw [hrunE0, hrunE1]; try rfl
      rw [e1, e2, e3]; rfl
    show some (_, _, ob s) = some (true, _, (ds.map DX.val, true))
    rw [eo, hrunA, hrunB]
end K70

set_option Elab.async false
set_option linter.all false
set_option maxRecDepth 100000
set_option maxHeartbeats 4000000
namespace K70
open PySem PySem.Spec PyProof.Rows L2 Ol
open TL (tl)
section
variable {P : Program} {w : World} {K : PySem.W.Frag} {mg : Str → Option Value} {base : Heap}
/-- the state of a lane, as data -/
def stD (c : Nat) (b : Bool) : PyData := .tuple [.int (c : Int), .bool b]
def optD : Option (Nat × Bool) → PyData
  | none => .none
  | some s => stD s.1 s.2
theorem st_inv {H : Hp} {v : V} {c : Nat} {b : Bool} (h : Dq H v (stD c b)) : ∃ a, v = .ref a ∧ H a = some (.tup [.int (c : Int), .bl b]) := by
  generalize e : stD c b = d at h
  cases h with
  | tup h t =>
    unfold stD at e
    cases e
    cases t with
    | cons t1 t2 =>
      cases t1
      cases t2 with
      | cons t3 t4 =>
        cases t3
        cases t4
        exact ⟨_, rfl, h⟩
  | _ => cases e
theorem st_new {H : Hp} {p : Addr} {c : Nat} {b : Bool} : Dq (upd H p (.tup [.int (c : Int), .bl b])) (.ref p) (stD c b) :=
  .tup upd_same (.cons (.int _) (.cons (.bl _) .nil))
def beh4 (word : Str) (c : Nat) (b : Bool) : Option (Nat × Bool) := if word = "close" ∧ b = false then some (c, true) else none
def beh3 (word : Str) (c : Nat) (b : Bool) : Option (Nat × Bool) := if word = "ended" ∧ b = true ∧ c = 0 then some (c, b) else beh4 word c b
def beh2 (word : Str) (c : Nat) (b : Bool) : Option (Nat × Bool) := if word = "take" ∧ 0 < c then some (c - 1, b) else beh3 word c b
/-- the state that an arm leaves -/
def beh (word : Str) (c : Nat) (b : Bool) (bd : Int) : Option (Nat × Bool) := if word = "send" ∧ b = false ∧ (c : Int) < bd then some (c + 1, false) else beh2 word c b
def spBehind : Sp := fun vs H Q _ => ∃ (word : Str) (v : V) (c : Nat) (b : Bool) (bd : Int), vs = [.str word, v, .int bd] ∧ Dq H v (stD c b) ∧
  ∀ (r : V) (H' : Hp), Ext H H' → Dq H' r (optD (beh word c b bd)) → Q r H'
theorem dec_word {a b : Str} : decide (V.str a = V.str b) = true ↔ a = b := by
  rw [decide_eq_true_eq]
  exact ⟨fun h => by injection h, fun h => by rw [h]⟩
abbrev s_state_behind : Stmt := (topS 21)
theorem sc_state_behind : FnScope ["word", "state", "bound", "count", "closed"] ["word", "state", "bound"] (defScope s_state_behind) := ⟨rfl, rfl, rfl, by decide +kernel, rfl, by decide +kernel, by decide +kernel⟩
theorem ok_state_behind {f : Addr} {fd : FuncData} (F : Fun K "state_behind" "state_behind" s_state_behind f fd) :
    FnOk P w K mg base CX0 1 f fd ["word", "state", "bound"] spBehind := by
  refine F.ok sc_state_behind (fun vs H Q E h => ?_) (fun cdv A outer s H vs Q E hr h => ?_)
  · obtain ⟨word, v, c, b, bd, rfl, _⟩ := h
    rfl
  · obtain ⟨word, v, c, b, bd, rfl, hv, q⟩ := h
    obtain ⟨a, rfl, ha⟩ := st_inv hv
    refine cutB (fun σ H' => σ = [some (.str word), some (.ref a), some (.int bd), some (.int (c : Int)), some (.bl b)] ∧ H' = H) ?_ ⟨_, (ps_asg (pv 1) (pg_tup (by rfl) (pgs_cons (pg_name (i := 3) sc_state_behind.nd rfl (.inl rfl)) (pgs_cons (pg_name (i := 4) sc_state_behind.nd rfl (.inl rfl)) pgs_nil)))), fun nx hn => ?_⟩
    rotate_left
    · exact ⟨_, rfl, a, _, rfl, SqT.of ha, rfl, _, _, rfl, _, _, rfl, rfl, hn _ _ ⟨rfl, rfl⟩⟩
    refine cutW _ (fun σ H' => σ = [some (.str word), some (.ref a), some (.int bd), some (.int (c : Int)), some (.bl b)] ∧ H' = H ∧ beh word c b bd = beh2 word c b) ⟨_, (ps_if (PW.pt (pw_and (pt_cmpR op_eq (pv 0) pe_str (nomark _)) (pw_and (pt_not (pt_val (pv 4))) (pw_and1 (pt_cmpR op_lt (pv 3) (pv 2) (nomark _))))))
      (pss_one (ps_ret (pe_tup (pa_cons (pe_op op_add (pv 3) pe_int) (pa_cons pe_bl pa_nil)))))
      pss_nil), ?_⟩ ?_
    · rintro nx hn σ H' ⟨rfl, rfl⟩
      refine ⟨_, rfl, rfl, _, rfl, ?_⟩
      refine ite2 (fun g0 => ?_) (fun g0 => ?_)
      · have g0' := dec_word.mp g0
        refine ⟨_, rfl, _, rfl, ?_⟩
        refine ite2 (fun g1 => ?_) (fun g1 => ?_)
        · have g1' : b = false := by cases b with | true => cases g1 | false => rfl
          refine ⟨_, rfl, _, rfl, _, _, rfl, rfl, _, rfl, ?_⟩
          refine ite2 (fun g2 => ?_) (fun g2 => ?_)
          · have g2' := of_decide_eq_true g2
            refine ⟨_, rfl, _, _, rfl, rfl, by show 2 ≤ sizeLine; decide, fun p hp => ?_⟩
            refine q _ _ (Ext.new hp) ?_
            unfold beh
            rw [if_pos ⟨g0', g1', g2'⟩]
            have e : ((c : Int) + 1) = ((c + 1 : Nat) : Int) := by omega
            show Dq (upd H' p (.tup [.int ((c : Int) + 1), .bl false])) _ _
            rw [e]
            exact st_new
          · exact hn _ _ ⟨rfl, rfl, by unfold beh; rw [if_neg (fun z => g2 (decide_eq_true z.2.2))]⟩
        · refine iteF ?_
          refine hn _ _ ⟨rfl, rfl, ?_⟩
          unfold beh
          rw [if_neg (fun z => g1 (by rw [z.2.1]; rfl))]
      · refine iteF ?_
        refine hn _ _ ⟨rfl, rfl, ?_⟩
        unfold beh
        rw [if_neg (fun z => g0 (dec_word.mpr z.1))]
    refine cutW _ (fun σ H' => σ = [some (.str word), some (.ref a), some (.int bd), some (.int (c : Int)), some (.bl b)] ∧ H' = H ∧ beh word c b bd = beh3 word c b) ⟨_, (ps_if (PW.pt (pw_and (pt_cmpR op_eq (pv 0) pe_str (nomark _)) (pw_and1 (pt_cmpR op_gt (pv 3) pe_int (nomark _)))))
      (pss_one (ps_ret (pe_tup (pa_cons (pe_op op_sub (pv 3) pe_int) (pa_cons (pv 4) pa_nil)))))
      pss_nil), ?_⟩ ?_
    · rintro nx hn σ H' ⟨rfl, rfl, eb⟩
      refine ⟨_, rfl, rfl, _, rfl, ?_⟩
      refine ite2 (fun g0 => ?_) (fun g0 => ?_)
      · have g0' := dec_word.mp g0
        refine ⟨_, rfl, _, _, rfl, rfl, _, rfl, ?_⟩
        refine ite2 (fun g2 => ?_) (fun g2 => ?_)
        · have g2' : (0 : Int) < c := of_decide_eq_true g2
          refine ⟨_, rfl, _, _, rfl, rfl, _, rfl, by show 2 ≤ sizeLine; decide, fun p hp => ?_⟩
          refine q _ _ (Ext.new hp) ?_
          rw [eb]
          unfold beh2
          rw [if_pos ⟨g0', by omega⟩]
          have e : ((c : Int) - 1) = ((c - 1 : Nat) : Int) := by omega
          show Dq (upd H' p (.tup [.int ((c : Int) - 1), .bl b])) _ _
          rw [e]
          exact st_new
        · refine hn _ _ ⟨rfl, rfl, ?_⟩
          rw [eb]
          unfold beh2
          rw [if_neg (fun z => g2 (decide_eq_true (by have := z.2; omega)))]
      · refine iteF ?_
        refine hn _ _ ⟨rfl, rfl, ?_⟩
        rw [eb]
        unfold beh2
        rw [if_neg (fun z => g0 (dec_word.mpr z.1))]
    refine cutW _ (fun σ H' => σ = [some (.str word), some (.ref a), some (.int bd), some (.int (c : Int)), some (.bl b)] ∧ H' = H ∧ beh word c b bd = beh4 word c b) ⟨_, (ps_if (PW.pt (pw_and (pt_cmpR op_eq (pv 0) pe_str (nomark _)) (pw_and (pt_val (pv 4)) (pw_and1 (pt_cmpR op_eq (pv 3) pe_int (nomark _))))))
      (pss_one (ps_ret (pv 1)))
      pss_nil), ?_⟩ ?_
    · rintro nx hn σ H' ⟨rfl, rfl, eb⟩
      refine ⟨_, rfl, rfl, _, rfl, ?_⟩
      refine ite2 (fun g0 => ?_) (fun g0 => ?_)
      · have g0' := dec_word.mp g0
        refine ⟨_, rfl, _, rfl, ?_⟩
        refine ite2 (fun g1 => ?_) (fun g1 => ?_)
        · refine ⟨_, rfl, rfl, _, rfl, ?_⟩
          refine ite2 (fun g2 => ?_) (fun g2 => ?_)
          · have g2' : c = 0 := by
              have z := of_decide_eq_true g2
              injection z with z
              omega
            refine ⟨_, rfl, q _ _ (Ext.refl _) ?_⟩
            rw [eb]
            unfold beh3
            rw [if_pos ⟨g0', g1, g2'⟩]
            exact hv
          · refine hn _ _ ⟨rfl, rfl, ?_⟩
            rw [eb]
            unfold beh3
            rw [if_neg (fun z => g2 (decide_eq_true (by rw [z.2.2]; rfl)))]
        · refine iteF ?_
          refine hn _ _ ⟨rfl, rfl, ?_⟩
          rw [eb]
          unfold beh3
          rw [if_neg (fun z => g1 z.2.1)]
      · refine iteF ?_
        refine hn _ _ ⟨rfl, rfl, ?_⟩
        rw [eb]
        unfold beh3
        rw [if_neg (fun z => g0 (dec_word.mpr z.1))]
    refine ⟨_, pss_cons (ps_if (PW.pt (pw_and (pt_cmpR op_eq (pv 0) pe_str (nomark _)) (pw_and1 (pt_not (pt_val (pv 4))))))
      (pss_one (ps_ret (pe_tup (pa_cons (pv 3) (pa_cons pe_bl pa_nil)))))
      pss_nil) (pss_one (ps_ret pe_non)), ?_⟩
    rintro σ H' ⟨rfl, rfl, eb⟩
    refine ⟨_, rfl, rfl, _, rfl, ?_⟩
    refine ite2 (fun g0 => ?_) (fun g0 => ?_)
    · have g0' := dec_word.mp g0
      refine ⟨_, rfl, _, rfl, ?_⟩
      refine ite2 (fun g1 => ?_) (fun g1 => ?_)
      · have g1' : b = false := by cases b with | true => cases g1 | false => rfl
        refine ⟨_, rfl, by show 2 ≤ sizeLine; decide, fun p hp => ?_⟩
        refine q _ _ (Ext.new hp) ?_
        rw [eb]
        unfold beh4
        rw [if_pos ⟨g0', g1'⟩]
        exact st_new
      · refine q _ _ (Ext.refl _) ?_
        rw [eb]
        unfold beh4
        rw [if_neg (fun z => g1 (by rw [z.2]; rfl))]
        exact .non
    · refine iteF ?_
      refine q _ _ (Ext.refl _) ?_
      rw [eb]
      unfold beh4
      rw [if_neg (fun z => g0 (dec_word.mpr z.1))]
      exact .non
end
end K70

set_option Elab.async false
set_option linter.all false
set_option maxRecDepth 100000
set_option maxHeartbeats 4000000
namespace K70
open PySem PySem.Spec PyProof.Rows L2 Ol
open TL (tl)
section
variable {P : Program} {w : World} {K : PySem.W.Frag} {mg : Str → Option Value} {base : Heap}
def spReplaced : Sp := fun vs H Q _ => ∃ (a : Addr) (xs : List V) (n : Nat) (v : V), vs = [.ref a, .int n, v] ∧ H a = some (.tup xs) ∧ n < xs.length ∧ xs.length ≤ 1000 ∧
  ∀ p H', Ext H H' → H' p = some (.tup (xs.set n v)) → Q (.ref p) H'
theorem sl_any {K' : PySem.W.Frag} {H : Hp} {a : Addr} {xs : List V} {lo hi : Option Int} {Q : V → Hp → Prop} (h : H a = some (.tup xs))
    (k : ∀ p H', Ext H H' → H' p = some (.tup (cutV xs lo hi)) → Q (.ref p) H') : rSlA K' (.ref a) lo hi H Q := by
  refine ⟨a, xs, rfl, SqT.of h, fun z => k _ _ (Ext.refl _) ?_, fun _ p hp => k _ _ (Ext.new hp) upd_same⟩
  rw [h]
  unfold cutV
  rw [z.1, z.2]
  simp
theorem cat_any {K' : PySem.W.Frag} {H : Hp} {a b : Addr} {xs ys : List V} {Q : V → Hp → Prop} (h : H a = some (.tup xs)) (h2 : H b = some (.tup ys)) (hl : xs.length + ys.length ≤ sizeLine)
    (k : ∀ p H', Ext H H' → H' p = some (.tup (xs ++ ys)) → Q (.ref p) H') : rCatA K' (.ref a) (.ref b) H Q := by
  refine ⟨a, b, xs, ys, rfl, rfl, SqT.of h, SqT.of h2, hl, fun z => k _ _ (Ext.refl _) ?_, fun _ z => k _ _ (Ext.refl _) ?_, fun _ _ p hp => k _ _ (Ext.new hp) upd_same⟩
  · rw [h2, z]
    rfl
  · rw [h, z, List.append_nil]
end
end K70

set_option Elab.async false
set_option linter.all false
set_option maxRecDepth 100000
set_option maxHeartbeats 4000000
namespace K70
open PySem PySem.Spec PyProof.Rows L2 Ol
open TL (tl)
/-- the fields -/
def lf (n b s : Addr) : List (Str × V) := [("_names", .ref n), ("_bounds", .ref b), ("_spots", .ref s)]
theorem n_b : ¬ (("_names" : Str) = "_bounds") := by decide +kernel
theorem n_s : ¬ (("_names" : Str) = "_spots") := by decide +kernel
theorem b_s : ¬ (("_bounds" : Str) = "_spots") := by decide +kernel
theorem b_n : ¬ (("_bounds" : Str) = "_names") := by decide +kernel
theorem s_n : ¬ (("_spots" : Str) = "_names") := by decide +kernel
theorem s_b : ¬ (("_spots" : Str) = "_bounds") := by decide +kernel
theorem lf_n (n b s : Addr) : (lf n b s).lookup ("_names" : Str) = some (.ref n) := by
  unfold lf
  rw [List.lookup_cons_self]
theorem lf_b (n b s : Addr) : (lf n b s).lookup ("_bounds" : Str) = some (.ref b) := by
  unfold lf
  rw [List.lookup_cons, beq_eq_false_iff_ne.mpr b_n]
  dsimp only
  rw [List.lookup_cons_self]
theorem lf_s (n b s : Addr) : (lf n b s).lookup ("_spots" : Str) = some (.ref s) := by
  unfold lf
  rw [List.lookup_cons, beq_eq_false_iff_ne.mpr s_n]
  dsimp only
  rw [List.lookup_cons, beq_eq_false_iff_ne.mpr s_b]
  dsimp only
  rw [List.lookup_cons_self]
theorem lf_no (n b s : Addr) {m : Str} (h1 : ¬ m = "_names") (h2 : ¬ m = "_bounds") (h3 : ¬ m = "_spots") : (lf n b s).lookup m = none := by
  unfold lf
  rw [List.lookup_cons, beq_eq_false_iff_ne.mpr h1]
  dsimp only
  rw [List.lookup_cons, beq_eq_false_iff_ne.mpr h2]
  dsimp only
  rw [List.lookup_cons, beq_eq_false_iff_ne.mpr h3]
  rfl
theorem put1 (n : Addr) : putF "_names" (.ref n) [] = ([("_names", V.ref n)] : List (Str × V)) := rfl
theorem put2 (n b : Addr) : putF "_bounds" (.ref b) [("_names", V.ref n)] = ([("_names", V.ref n), ("_bounds", V.ref b)] : List (Str × V)) := by
  show (if ("_names" : Str) = "_bounds" then _ else (("_names" : Str), V.ref n) :: putF "_bounds" (V.ref b) []) = _
  rw [if_neg n_b]
  rfl
theorem put3 (n b s : Addr) : putF "_spots" (.ref s) [("_names", V.ref n), ("_bounds", V.ref b)] = lf n b s := by
  show (if ("_names" : Str) = "_spots" then _ else (("_names" : Str), V.ref n) :: (if ("_bounds" : Str) = "_spots" then _ else (("_bounds" : Str), V.ref b) :: putF "_spots" (V.ref s) [])) = _
  rw [if_neg n_s, if_neg b_s]
  rfl
/-- Lanes with these names and bounds stand at p -/
def LanesAt (C : Addr) (H : Hp) (p : Addr) (ns : List Str) (bs : List Int) : Prop :=
  ∃ dx n b s, H p = some (.ins C dx (lf n b s)) ∧ H n = some (.tup (ns.map V.str)) ∧ H b = some (.tup (bs.map V.int)) ∧ H s = some (.dK (spots ns)) ∧
    bs.length = ns.length ∧ ns.Nodup ∧ ns.length ≤ 60 ∧ (∀ x ∈ ns, isNameS x = true) ∧ (∀ i ∈ bs, 1 ≤ i)
theorem LanesAt.up {C : Addr} {H H' : Hp} {p : Addr} {ns : List Str} {bs : List Int} (e : Ext H H') : LanesAt C H p ns bs → LanesAt C H' p ns bs
  | ⟨dx, n, b, s, h1, h2, h3, h4, r⟩ => ⟨dx, n, b, s, e _ _ h1, e _ _ h2, e _ _ h3, e _ _ h4, r⟩
/-- what the text says of the class -/
structure LT (K : PySem.W.Frag) (mg : Str → Option Value) (C : Addr) : Prop where
  cl : Cls K C
  nN : NoAttr K C "_names"
  nB : NoAttr K C "_bounds"
  nS : NoAttr K C "_spots"
  gC : mg "Lanes" = some (.ref C)
  n_enum : mg "enumerate" = none
  n_zip : mg "zip" = none
abbrev cL (i : Nat) : Stmt := inClass (topS 34) i
section
variable {P : Program} {w : World} {K : PySem.W.Frag} {mg : Str → Option Value} {base : Heap} {C : Addr}
def bdOf (ps : List (Str × Int)) (x : Str) : Int := ((ps.find? fun p => decide (p.1 = x)).map (·.2)).getD 0
def spInit (C : Addr) : Sp := fun vs H Q _ => ∃ (H0 : Hp) (p dx a : Addr) (ps : List (Str × Int)), vs = [.ref p, .ref a] ∧ H0 p = none ∧ Ext H0 H ∧ H p = some (.ins C dx []) ∧ H0 a = some (.dK (kvI ps)) ∧
  ps ≠ [] ∧ ps.length ≤ 60 ∧ (∀ q ∈ ps, isNameS q.1 = true ∧ 1 ≤ q.2) ∧ (ps.map (·.1)).Nodup ∧
  ∀ H' ns, Ext H0 H' → ns.Perm (ps.map (·.1)) → sortedS ns = true → LanesAt C H' p ns (ns.map (bdOf ps)) → Q .non H'
theorem sc_init : FnScope ["self", "bounds", "name", "spot"] ["self", "bounds"] (defScope (cL 0)) := ⟨rfl, rfl, rfl, by decide +kernel, rfl, by decide +kernel, by decide +kernel⟩
theorem tyes' {σ : L2.St} {H : Hp} {Q : Bool → Hp → Prop} (h : Q true H) : tYes σ H Q := h
theorem range_getD {α β : Type} (h : α → β) (d : α) : ∀ l : List α, (List.range l.length).map (fun i => h (l.getD i d)) = l.map h
  | [] => rfl
  | a :: l => by
    rw [List.length_cons, List.range_succ_eq_map, List.map_cons, List.map_map, List.map_cons]
    congr 1
    exact range_getD h d l
theorem kvI_val {ps : List (Str × Int)} {x : Str} (h : x ∈ ps.map (·.1)) : valV (kvI ps) (.inr x) = some (.int (bdOf ps x)) := by
  induction ps with
  | nil => cases h
  | cons p ps ih =>
    unfold kvI bdOf
    rw [List.map_cons, List.find?_cons]
    by_cases c : p.1 = x
    · rw [valV_pos (by rw [c]), decide_eq_true c]
      rfl
    · rw [valV_neg (fun z => c (Sum.inr.inj z)), decide_eq_false c]
      rw [List.map_cons, List.mem_cons] at h
      exact ih (h.resolve_left fun z => c z.symm)
theorem bd_mem {ps : List (Str × Int)} {x : Str} (h : x ∈ ps.map (·.1)) : ∃ p ∈ ps, p.1 = x ∧ p.2 = bdOf ps x := by
  induction ps with
  | nil => cases h
  | cons p ps ih =>
    unfold bdOf
    rw [List.find?_cons]
    by_cases c : p.1 = x
    · rw [decide_eq_true c]
      exact ⟨p, List.mem_cons_self, c, rfl⟩
    · rw [decide_eq_false c]
      rw [List.map_cons, List.mem_cons] at h
      obtain ⟨r, h1, h2, h3⟩ := ih (h.resolve_left fun z => c z.symm)
      exact ⟨r, List.mem_cons_of_mem _ h1, h2, h3⟩
theorem ok_init {f : Addr} {fd : FuncData} (F : Fun K "__init__" "Lanes.__init__" (cL 0) f fd) (T : BT mg) (L : LT K mg C)
    (C5 : Ca P w K mg base 3 "is_bounds" ["thing"] spIsBounds) :
    FnOk P w K mg base CX0 4 f fd ["self", "bounds"] (spInit C) := by
  refine F.ok sc_init (fun vs H Q E h => ?_) (fun cdv A outer s H vs Q E hr h => ?_)
  · obtain ⟨H0, p, dx, a, ps, rfl, _⟩ := h
    rfl
  · obtain ⟨H0, p, dx, a, ps, rfl, hp0, e0, hp, ha, hne, hl, hps, hnd, q⟩ := h
    refine ⟨_, (pss_cons (ps_if (pt_not (pt_val (pe_ca C5 (hr.mono (by decide)) (by rfl) (pa_cons (pv 1) pa_nil)))) (pss_one ps_never) pss_nil)
      (pss_cons (ps_fld (pv 0) (pe_callTy call_tuple_of (by rfl) T.n_tuple (by decide +kernel) (pa_cons (pe_callB (call_sortedD rfl) (by rfl) T.n_sorted (by decide +kernel) (pa_cons (pv 1) pa_nil)) pa_nil)) rfl)
      (pss_cons (ps_fld (pv 0) (pe_callTy call_tuple_of (by rfl) T.n_tuple (by decide +kernel) (pa_cons (pe_lc (own := [("name", 2)]) (g := gName 2) (tt := tYes) rfl sc_init.nd (pi_tup (pe_fld (pv 0) rfl)) (blkOk_by (N := ["self", "bounds", "name", "spot"]) (sc := defScope (cL 0)) (by decide +kernel)) (fun _ _ _ _ _ => pg_name (i := 2) sc_init.nd rfl (.inl rfl)) (fun _ _ _ _ _ => pts_nil) (fun _ _ _ _ _ => pe_dget (hu_of hr) (pv 1) (pv 2) (fun _ _ => rfl))) pa_nil)) rfl)
      (pss_one (ps_fld (pv 0) (pe_dc (own := [("name", 2), ("spot", 3)]) (g := gTup K 2 (gCons (gName 3) (gCons (gName 2) gNil))) (tt := tYes) rfl sc_init.nd (pi_enumT (by rfl) L.n_enum (pa_cons (pe_fld (pv 0) rfl) pa_nil)) (blkOk_by (N := ["self", "bounds", "name", "spot"]) (sc := defScope (cL 0)) (by decide +kernel)) (fun _ _ _ _ _ => pg_tup (by rfl) (pgs_cons (pg_name (i := 3) sc_init.nd rfl (.inl rfl)) (pgs_cons (pg_name (i := 2) sc_init.nd rfl (.inl rfl)) pgs_nil))) (fun _ _ _ _ _ => pts_nil) (fun _ _ _ _ _ => pv 2) (fun _ _ _ _ _ => pv 3)) rfl))))), ?_⟩
    have kl : (kvI ps).map (·.1) = (ps.map (·.1)).map Sum.inr := by
      unfold kvI
      rw [List.map_map, List.map_map]
      rfl
    refine ⟨_, rfl, a, ps, rfl, e0 _ _ ha, hne, Nat.le_trans hl (by decide), hps, fun H1 e1 => ⟨_, rfl, ?_⟩⟩
    refine iteF ?_
    have e01 := e0.trans e1
    refine ⟨_, rfl, a, _, _, rfl, Rd.of (e01 _ _ ha), kl, (by rw [List.length_map]; omega), fun ns l hperm hso hl1 => ?_⟩
    have hx2 : H1 a = some (.dK (kvI ps)) := e01 _ _ ha
    have hpH : H1 p = some (.ins C dx []) := e1 _ _ hp
    have nd : ns.Nodup := hperm.nodup_iff.mpr hnd
    have len : ns.length = ps.length := by rw [hperm.length_eq, List.length_map]
    have el := Ext.new (o := .lst (ns.map V.str)) hl1
    refine ⟨l, _, rfl, .inl ⟨SqL.of upd_same, fun n hn => ?_⟩⟩
    have en := Ext.new (o := .tup (ns.map V.str)) hn
    refine ⟨_, rfl, p, C, dx, [], rfl, (el.trans en) _ _ hpH, L.cl, L.nN, (by show 0 < 1000; decide), ?_⟩
    rw [put1]
    have e4 : Ext H0 (upd (upd (upd H1 l (.lst (ns.map V.str))) n (.tup (ns.map V.str))) p (.ins C dx [("_names", .ref n)])) := Ext.mut (e01.trans (el.trans en)) hp0
    have npn : p ≠ n := fun z => by
      have := (el _ _ hpH)
      rw [z, hn] at this
      cases this
    have h4n : (upd (upd (upd H1 l (.lst (ns.map V.str))) n (.tup (ns.map V.str))) p (.ins C dx [("_names", .ref n)])) n = some (.tup (ns.map V.str)) := by
      rw [upd_ne (Ne.symm npn)]
      exact upd_same
    have h4p : (upd (upd (upd H1 l (.lst (ns.map V.str))) n (.tup (ns.map V.str))) p (.ins C dx [("_names", .ref n)])) p = some (.ins C dx [("_names", .ref n)]) := upd_same
    generalize hH4 : upd (upd (upd H1 l (.lst (ns.map V.str))) n (.tup (ns.map V.str))) p (.ins C dx [("_names", .ref n)]) = H4 at *
    refine ⟨_, rfl, p, C, dx, _, _, rfl, h4p, L.cl, L.nN, rfl, n, rfl, ⟨_, SqT.of h4n⟩, fun D hD => ?_⟩
    have nm : ∀ i, i < ns.length → ns.getD i Str.empty ∈ ps.map (·.1) := fun i hi => by
      rw [List.getD_eq_getElem?_getD, List.getElem?_eq_getElem hi]
      exact hperm.mem_iff.mp (List.getElem_mem hi)
    have ml : (ns.map V.str).length = ns.length := List.length_map ..
    refine lc_det (w := walk_tup (xs := ns.map V.str)) (fun i => V.str (ns.getD i Str.empty)) (fun _ => true) (fun i => V.int (bdOf ps (ns.getD i Str.empty))) hD (by rw [ml]; exact Nat.le_trans (by omega) (show 60 ≤ sizeLine by decide)) ?_ (fun H' e => SqT.of (e _ _ h4n)) (fun _ _ _ _ _ h => tyes' h) ?_ ?_
    · rintro i Hi x H' hi ⟨rfl, hx⟩
      refine ⟨rfl, ?_⟩
      rw [List.getElem?_map] at hx
      rw [ml] at hi
      rw [List.getElem?_eq_getElem hi] at hx
      rw [List.getD_eq_getElem?_getD, List.getElem?_eq_getElem hi]
      exact (Option.some.inj hx).symm
    · intro i Hi hi _ e Q' q'
      rw [ml] at hi
      have hai : Hi a = some (.dK (kvI ps)) := (e4.trans e) _ _ ha
      have g := DGet.k (k := .inr (ns.getD i Str.empty)) hai
      rw [kvI_val (nm i hi)] at g
      exact ⟨_, rfl, _, rfl, a, _, rfl, g, q'⟩
    have e5 := Ext.new (o := .lst ((ns.map (bdOf ps)).map V.int)) hD
    have mm : (((List.range (ns.map V.str).length).filter fun _ => true).map fun i => V.int (bdOf ps (ns.getD i Str.empty))) = (ns.map (bdOf ps)).map V.int := by
      rw [ml, List.filter_eq_self.mpr (fun _ _ => rfl), List.map_map]
      exact range_getD (V.int ∘ bdOf ps) Str.empty ns
    rw [mm]
    refine ⟨D, _, rfl, .inl ⟨SqL.of upd_same, fun b hb => ?_⟩⟩
    have e6 := Ext.new (o := .tup ((ns.map (bdOf ps)).map V.int)) hb
    have e46 := e5.trans e6
    refine ⟨_, rfl, p, C, dx, _, rfl, e46 _ _ h4p, L.cl, L.nB, (by show 1 < 1000; decide), ?_⟩
    rw [put2]
    have e7 := Ext.mut (o := .ins C dx [("_names", .ref n), ("_bounds", .ref b)]) (e4.trans e46) hp0
    have npb : p ≠ b := fun z => by
      have := e5 _ _ h4p
      rw [z, hb] at this
      cases this
    have h7n : (upd (upd (upd H4 D (.lst ((ns.map (bdOf ps)).map V.int))) b (.tup ((ns.map (bdOf ps)).map V.int))) p (.ins C dx [("_names", .ref n), ("_bounds", .ref b)])) n = some (.tup (ns.map V.str)) := by
      rw [upd_ne (Ne.symm npn)]
      exact e46 _ _ h4n
    have h7b : (upd (upd (upd H4 D (.lst ((ns.map (bdOf ps)).map V.int))) b (.tup ((ns.map (bdOf ps)).map V.int))) p (.ins C dx [("_names", .ref n), ("_bounds", .ref b)])) b = some (.tup ((ns.map (bdOf ps)).map V.int)) := by
      rw [upd_ne (Ne.symm npb)]
      exact upd_same
    have h7p : (upd (upd (upd H4 D (.lst ((ns.map (bdOf ps)).map V.int))) b (.tup ((ns.map (bdOf ps)).map V.int))) p (.ins C dx [("_names", .ref n), ("_bounds", .ref b)])) p = some (.ins C dx [("_names", .ref n), ("_bounds", .ref b)]) := upd_same
    generalize upd (upd (upd H4 D (.lst ((ns.map (bdOf ps)).map V.int))) b (.tup ((ns.map (bdOf ps)).map V.int))) p (.ins C dx [("_names", .ref n), ("_bounds", .ref b)]) = H7 at *
    refine ⟨_, rfl, p, C, dx, _, _, rfl, h7p, L.cl, L.nN, rfl, n, _, rfl, SqT.of h7n, fun D2 hD2 => ?_⟩
    refine dc_it (w := walk_enumT (xs := ns.map V.str)) (fun i Hi => Ext H7 Hi ∧ Hi D2 = some (.dK (spots (ns.take i)))) ⟨Ext.new hD2, upd_same⟩ (fun i Hi _ h => SqT.of (h.1 _ _ h7n)) ?_ ?_
    · rintro i v Hi H' hi ⟨ei, hdi⟩ ⟨T', y1, y2, rfl, hT, rfl, g1, g2⟩
      rw [ml] at hi
      cases g1
      dsimp only at g2
      rw [List.getElem?_map, List.getElem?_eq_getElem hi] at g2
      cases g2
      have eT := Ext.new (o := .tup [.int (i : Int), .str ns[i]]) hT
      refine ⟨T', _, rfl, SqT.of upd_same, rfl, _, _, rfl, _, _, rfl, rfl, rfl, ?_⟩
      refine tyes ?_
      have hns : ns[i] ∉ ns.take i := fun z => by
        obtain ⟨j, hj, ej⟩ := List.getElem_of_mem z
        rw [List.length_take] at hj
        rw [List.getElem_take] at ej
        exact List.pairwise_iff_getElem.mp nd j i (by omega) hi (by omega) ej
      refine ⟨_, rfl, _, rfl, spots (ns.take i), .inr ns[i], rfl, eT _ _ hdi, ?_, Ext.mut (ei.trans eT) hD2, ?_⟩
      · rw [spots_len, List.length_take]
        exact Nat.lt_of_le_of_lt (show _ ≤ 60 by omega) (by decide)
      · rw [upd_same, putK_new (spots_none hns), List.take_add_one, List.getElem?_eq_getElem hi]
        show _ = some (HO.dK (spots (ns.take i ++ [ns[i]])))
        rw [spots_snoc, List.length_take, Nat.min_eq_left (Nat.le_of_lt hi)]
    · rintro H8 ⟨e8, h8d⟩
      rw [ml, List.take_length] at h8d
      refine ⟨_, rfl, p, C, dx, _, rfl, e8 _ _ h7p, L.cl, L.nS, (by show 2 < 1000; decide), ?_⟩
      rw [put3]
      have npD : p ≠ D2 := fun z => by rw [← z, h7p] at hD2; cases hD2
      refine q _ ns (Ext.mut (e7.trans e8) hp0) hperm hso ⟨dx, n, b, D2, upd_same, ?_, ?_, ?_, List.length_map .., nd, by omega, ?_, ?_⟩
      · rw [upd_ne (Ne.symm npn)]; exact e8 _ _ h7n
      · rw [upd_ne (Ne.symm npb)]; exact e8 _ _ h7b
      · rw [upd_ne (Ne.symm npD)]; exact h8d
      · intro x hx
        obtain ⟨r, hr1, hr2, _⟩ := bd_mem (hperm.mem_iff.mp hx)
        rw [← hr2]
        exact (hps r hr1).1
      · intro i hi
        obtain ⟨x, hx, rfl⟩ := List.mem_map.mp hi
        obtain ⟨r, hr1, _, hr3⟩ := bd_mem (hperm.mem_iff.mp hx)
        rw [← hr3]
        exact (hps r hr1).2
end
end K70

set_option Elab.async false
set_option linter.all false
set_option maxRecDepth 100000
set_option maxHeartbeats 4000000
namespace K70
open PySem PySem.Spec PyProof.Rows L2 Ol
open TL (tl)
theorem DqAll_get {H : Hp} : ∀ {xs : List V} {ds : List PyData}, DqAll H xs ds → ∀ (i : Nat) (d : PyData), ds[i]? = some d → ∃ v, xs[i]? = some v ∧ Dq H v d
  | _, _, .nil, i, d, h => by simp at h
  | _, _, .cons a t, 0, d, h => by
    cases h
    exact ⟨_, rfl, a⟩
  | _, _, .cons a t, i + 1, d, h => DqAll_get t i d h
theorem DqAll_set {H : Hp} : ∀ {xs : List V} {ds : List PyData}, DqAll H xs ds → ∀ (i : Nat) (v : V) (d : PyData), Dq H v d → DqAll H (xs.set i v) (ds.set i d)
  | _, _, .nil, i, v, d, h => .nil
  | _, _, .cons a t, 0, v, d, h => .cons h t
  | _, _, .cons a t, i + 1, v, d, h => .cons a (DqAll_set t i v d h)
/-- a content, as data -/
def ctL (cs : List (Nat × Bool)) : List PyData := cs.map fun s => stD s.1 s.2
def ctD (cs : List (Nat × Bool)) : PyData := .tuple (ctL cs)
theorem ct_inv {H : Hp} {v : V} {cs : List (Nat × Bool)} (h : Dq H v (ctD cs)) : ∃ a xs, v = .ref a ∧ H a = some (.tup xs) ∧ DqAll H xs (ctL cs) ∧ xs.length = cs.length := by
  obtain ⟨a, xs, ds, rfl, e, h1, h2⟩ := dq_tup h rfl
  unfold ctD at e
  cases e
  exact ⟨a, xs, rfl, h1, h2, by rw [h2.len]; unfold ctL; rw [List.length_map]⟩
section
variable {P : Program} {w : World} {K : PySem.W.Frag} {mg : Str → Option Value} {base : Heap} {C : Addr}
/-! ### thing in lanes -/
def spHas (C : Addr) : Sp := fun vs H Q _ => ∃ (p : Addr) (ns : List Str) (bs : List Int) (x : Str), vs = [.ref p, .str x] ∧ LanesAt C H p ns bs ∧ isNameS x = true ∧
  ∀ H', Ext H H' → Q (.bl (decide (x ∈ ns))) H'
theorem sc_has : FnScope ["self", "thing"] ["self", "thing"] (defScope (cL 4)) := ⟨rfl, rfl, rfl, by decide +kernel, rfl, by decide +kernel, by decide +kernel⟩
theorem spots_mem {ns : List Str} (hd : ns.Nodup) (x : Str) : (valV (spots ns) (.inr x)).isSome = decide (x ∈ ns) := by
  by_cases h : x ∈ ns
  · obtain ⟨i, hi, e⟩ := List.getElem_of_mem h
    rw [decide_eq_true h, ← e, spots_val hd hi]
    rfl
  · rw [decide_eq_false h, spots_none h]
    rfl
theorem ok_has {f : Addr} {fd : FuncData} (F : Fun K "__contains__" "Lanes.__contains__" (cL 4) f fd) (T : BT mg) (L : LT K mg C) :
    FnOk P w K mg base CX0 2 f fd ["self", "thing"] (spHas C) := by
  refine F.ok sc_has (fun vs H Q E h => ?_) (fun cdv A outer s H vs Q E hr h => ?_)
  · obtain ⟨p, ns, bs, x, rfl, _⟩ := h
    rfl
  · obtain ⟨p, ns, bs, x, rfl, hL, hx, q⟩ := h
    refine ⟨_, (pss_one (ps_ret (pe_and (pe_callB call_isi (by rfl) T.n_isinstance (by decide +kernel) (pa_cons (pv 1) (pa_cons (pe_bltn (v := .ty "str") (by rfl) T.n_str (by decide +kernel) rfl) pa_nil))) (pe_one (pe_cmp (pc_din (hu_of hr) (pv 1) (pe_fld (pv 0) rfl)) rfl))))), ?_⟩
    obtain ⟨dx, n, b, sp, h1, h2, h3, h4, _, hnd, _⟩ := id hL
    refine ⟨_, rfl, _, _, _, _, _, rfl, .ty "str", ty_of (.str x), ki_str (.str x), _, rfl, ?_⟩
    refine ite2 (fun _ => ?_) (fun g => absurd rfl g)
    refine ⟨_, rfl, _, rfl, p, C, dx, _, _, rfl, h1, L.cl, L.nS, lf_s _ _ _, sp, _, rfl, DGet.k (k := Sum.inr x) h4, ?_⟩
    rw [spots_mem hnd]
    exact q _ (Ext.refl H)
/-! ### the index of a lane -/
def spSpot (C : Addr) : Sp := fun vs H Q _ => ∃ (p : Addr) (ns : List Str) (bs : List Int) (i : Nat) (hi : i < ns.length), vs = [.ref p, .str ns[i]] ∧ LanesAt C H p ns bs ∧
  ∀ H', Ext H H' → Q (.int (i : Int)) H'
theorem sc_spot : FnScope ["self", "lane"] ["self", "lane"] (defScope (cL 7)) := ⟨rfl, rfl, rfl, by decide +kernel, rfl, by decide +kernel, by decide +kernel⟩
theorem ok_spot {f : Addr} {fd : FuncData} (F : Fun K "_spot" "Lanes._spot" (cL 7) f fd) (L : LT K mg C)
    (M : Cm P w K mg base C 2 "__contains__" ["self", "thing"] (spHas C)) :
    FnOk P w K mg base CX0 3 f fd ["self", "lane"] (spSpot C) := by
  refine F.ok sc_spot (fun vs H Q E h => ?_) (fun cdv A outer s H vs Q E hr h => ?_)
  · obtain ⟨p, ns, bs, i, hi, rfl, _⟩ := h
    rfl
  · obtain ⟨p, ns, bs, i, hi, rfl, hL, q⟩ := h
    refine ⟨_, (pss_cons (ps_if (pt_cmpR (op_notInM M (hr.mono (by decide))) (pv 1) (pv 0) (by rfl)) (pss_one ps_never) pss_nil)
      (pss_one (ps_ret (pe_dget (hu_of hr) (pe_fld (pv 0) rfl) (pv 1) (fun _ _ => rfl))))), ?_⟩
    have hm : ns[i] ∈ ns := List.getElem_mem hi
    obtain ⟨dx, n, b, sp, h1, h2, h3, h4, hl, hnd, hl2, hns, hbs⟩ := id hL
    refine ⟨_, rfl, _, rfl, p, dx, _, rfl, h1, p, ns, bs, _, rfl, hL, hns _ hm, fun H1 e1 => ⟨_, rfl, ?_⟩⟩
    rw [decide_eq_true hm]
    refine ⟨_, rfl, ?_⟩
    refine iteF ?_
    refine ⟨_, rfl, p, C, dx, _, _, rfl, e1 _ _ h1, L.cl, L.nS, lf_s _ _ _, _, rfl, sp, _, rfl, ?_, q _ e1⟩
    have g := DGet.k (k := Sum.inr ns[i]) (e1 _ _ h4)
    rw [spots_val hnd hi] at g
    exact g
/-! ### the state behind an arm -/
def spBeh (C : Addr) : Sp := fun vs H Q _ => ∃ (p : Addr) (ns : List Str) (bs : List Int) (v : V) (cs : List (Nat × Bool)) (word : Str) (i : Nat) (hi : i < ns.length) (st : Nat × Bool) (bd : Int), vs = [.ref p, v, .str word, .int (i : Int)] ∧ LanesAt C H p ns bs ∧ Dq H v (ctD cs) ∧
  cs[i]? = some st ∧ bs[i]? = some bd ∧ ∀ (r : V) (H' : Hp), Ext H H' → Dq H' r (optD (beh word st.1 st.2 bd)) → Q r H'
theorem sc_beh : FnScope ["self", "content", "word", "spot"] ["self", "content", "word", "spot"] (defScope (cL 8)) := ⟨rfl, rfl, rfl, by decide +kernel, rfl, by decide +kernel, by decide +kernel⟩
theorem ok_beh {f : Addr} {fd : FuncData} (F : Fun K "_behind" "Lanes._behind" (cL 8) f fd) (L : LT K mg C)
    (C7 : Ca P w K mg base 1 "state_behind" ["word", "state", "bound"] spBehind) :
    FnOk P w K mg base CX0 2 f fd ["self", "content", "word", "spot"] (spBeh C) := by
  refine F.ok sc_beh (fun vs H Q E h => ?_) (fun cdv A outer s H vs Q E hr h => ?_)
  · obtain ⟨p, ns, bs, v, cs, word, i, hi, st, bd, rfl, _⟩ := h
    rfl
  · obtain ⟨p, ns, bs, v, cs, word, i, hi, st, bd, rfl, hL, hv, hcs, hb, q⟩ := h
    refine ⟨_, (pss_one (ps_ret (pe_ca C7 (hr.mono (by decide)) (by rfl) (pa_cons (pv 2) (pa_cons (pe_ix ix_tup (pv 1) (pv 3) (fun _ _ => rfl)) (pa_cons (pe_ix ix_tup (pe_fld (pv 0) rfl) (pv 3) (fun _ _ => rfl)) pa_nil)))))), ?_⟩
    obtain ⟨dx, n, b, sp, h1, h2, h3, h4, hl, hnd, hl2, hns, hbs⟩ := id hL
    obtain ⟨a, xs, rfl, ha, hxs, hxl⟩ := ct_inv hv
    obtain ⟨u, hu, du⟩ := DqAll_get hxs i (stD st.1 st.2) (by unfold ctL; rw [List.getElem?_map, hcs]; rfl)
    refine ⟨_, rfl, _, rfl, _, rfl, a, _, _, _, rfl, rfl, SqT.of ha, atI_nat hu, _, rfl, p, C, dx, _, _, rfl, h1, L.cl, L.nB, lf_b _ _ _, _, rfl, b, _, _, _, rfl, rfl, SqT.of h3, atI_nat (by rw [List.getElem?_map, hb]; rfl), word, u, st.1, st.2, bd, rfl, du, q⟩
end
end K70

set_option Elab.async false
set_option linter.all false
set_option maxRecDepth 100000
set_option maxHeartbeats 4000000
namespace K70
open PySem PySem.Spec PyProof.Rows L2 Ol
open TL (tl)
section
variable {P : Program} {w : World} {K : PySem.W.Frag} {mg : Str → Option Value} {base : Heap} {C S : Addr}
/-! ### is_open -/
def spOpen (C : Addr) : Sp := fun vs H Q _ => ∃ (p : Addr) (ns : List Str) (bs : List Int) (v : V) (cs : List (Nat × Bool)) (word : Str) (i : Nat) (hi : i < ns.length) (st : Nat × Bool) (bd : Int), vs = [.ref p, v, .str word, .str ns[i]] ∧ LanesAt C H p ns bs ∧ Dq H v (ctD cs) ∧
  cs[i]? = some st ∧ bs[i]? = some bd ∧ ∀ (H' : Hp), Ext H H' → Q (.bl (beh word st.1 st.2 bd).isSome) H'
theorem sc_open : FnScope ["self", "content", "word", "lane"] ["self", "content", "word", "lane"] (defScope (cL 13)) := ⟨rfl, rfl, rfl, by decide +kernel, rfl, by decide +kernel, by decide +kernel⟩
theorem opt_non {H : Hp} {r : V} {o : Option (Nat × Bool)} (h : Dq H r (optD o)) : (!decide (r = V.non)) = o.isSome := by
  cases o with
  | none =>
    have h' : Dq H r .none := h
    cases h'
    rfl
  | some s =>
    obtain ⟨a, rfl, _⟩ := st_inv (show Dq H r (stD s.1 s.2) from h)
    rfl
theorem ok_open {f : Addr} {fd : FuncData} (F : Fun K "is_open" "Lanes.is_open" (cL 13) f fd) (L : LT K mg C)
    (MS : Cm P w K mg base C 3 "_spot" ["self", "lane"] (spSpot C)) (MB : Cm P w K mg base C 2 "_behind" ["self", "content", "word", "spot"] (spBeh C)) :
    FnOk P w K mg base CX0 4 f fd ["self", "content", "word", "lane"] (spOpen C) := by
  refine F.ok sc_open (fun vs H Q E h => ?_) (fun cdv A outer s H vs Q E hr h => ?_)
  · obtain ⟨p, ns, bs, v, cs, word, i, hi, st, bd, rfl, _⟩ := h
    rfl
  · obtain ⟨p, ns, bs, v, cs, word, i, hi, st, bd, rfl, hL, hv, hcs, hb, q⟩ := h
    refine ⟨_, (pss_one (ps_ret (pe_cmpR op_notN (pe_cm MB L.cl (hr.mono (by decide)) (pv 0) (pa_cons (pv 1) (pa_cons (pv 2) (pa_cons (pe_cm MS L.cl (hr.mono (by decide)) (pv 0) (pa_cons (pv 3) pa_nil)) pa_nil)))) pe_non (nomark _)))), ?_⟩
    obtain ⟨dx, n, b, sp, h1, h2, h3, h4, hl, hnd, hl2, hns, hbs⟩ := id hL
    refine ⟨_, rfl, p, dx, _, rfl, h1, lf_no _ _ _ (by decide +kernel) (by decide +kernel) (by decide +kernel), _, rfl, _, rfl, _, rfl, p, dx, _, rfl, h1, lf_no _ _ _ (by decide +kernel) (by decide +kernel) (by decide +kernel), _, rfl, p, ns, bs, i, hi, rfl, hL, fun H1 e1 => ?_⟩
    refine ⟨p, ns, bs, v, cs, word, i, hi, st, bd, rfl, hL.up e1, hv.up e1, hcs, hb, fun r H2 e2 hr2 => ⟨rfl, ?_⟩⟩
    rw [opt_non hr2]
    exact q _ (e1.trans e2)
/-! ### done -/
def spDone (C : Addr) : Sp := fun vs H Q _ => ∃ (p : Addr) (ns : List Str) (bs : List Int) (v : V) (cs : List (Nat × Bool)) (word : Str) (i : Nat) (hi : i < ns.length) (st : Nat × Bool) (bd : Int), vs = [.ref p, v, .str word, .str ns[i]] ∧ LanesAt C H p ns bs ∧ Dq H v (ctD cs) ∧
  cs[i]? = some st ∧ bs[i]? = some bd ∧ cs.length ≤ 1000 ∧
  ∃ st', beh word st.1 st.2 bd = some st' ∧ ∀ (r : V) (H' : Hp), Ext H H' → Dq H' r (ctD (cs.set i st')) → Q r H'
end
end K70

set_option Elab.async false
set_option linter.all false
set_option maxRecDepth 100000
set_option maxHeartbeats 4000000
namespace K70
open PySem PySem.Spec PyProof.Rows L2 Ol
open TL (tl)
-- a
section
variable {P : Program} {w : World} {K : PySem.W.Frag} {mg : Str → Option Value} {base : Heap}
abbrev s__law_take : Stmt := (topS 37)
theorem sc__law_take : FnScope ["_law_bag_here", "_law_many", "_law_cell", "_law_mixed", "_law_value", "_law_begin", "_law_second"] ["_law_bag_here", "_law_many"] (defScope s__law_take) := ⟨rfl, rfl, rfl, by decide +kernel, rfl, by decide +kernel, by decide +kernel⟩

theorem pos_of {j : Int} (h : 0 < j) : 0 < j := h
theorem upd_self {H : Hp} {a : Addr} {o : HO} (h : H a = some o) : upd H a o = H := by
  funext b
  by_cases z : b = a
  · rw [z, upd_same, h]
  · rw [upd_ne z]
theorem ok_take {f : Addr} {fd : FuncData} (F : Fun K "_law_take" "_law_take" s__law_take f fd) (T : BT mg) :
    FnOk P w K mg base CX0 1 f fd ["_law_bag_here", "_law_many"] spTake0 := by
  refine F.ok sc__law_take (fun vs H Q E h => ?_) (fun cdv A outer s H vs Q E hr h => ?_)
  · obtain ⟨a, c, b0, b1, b2, ns, m, rfl, _⟩ := h
    rfl
  · obtain ⟨a, c, b0, b1, b2, ns, m, rfl, ha, hc, hns, bi, hm, hm2, q⟩ := h
    have hca : c ≠ a := by
      intro z
      rw [z, ha] at hc
      have e : bagL b0 b1 b2 c = ns.map V.int := by
        injection hc with hc
        injection hc
      have e3 : (bagL b0 b1 b2 c)[3]? = (ns.map V.int)[3]? := by rw [e]
      rw [List.getElem?_map] at e3
      have e4 : some (V.ref c) = (ns[3]?).map V.int := e3
      cases q3 : ns[3]? with
      | none =>
        rw [q3] at e4
        cases e4
      | some z3 =>
        rw [q3] at e4
        cases e4
    refine cutB (fun σ H' => ∃ x0 x1 x2 v2 v3, BagI x0 x1 x2 ∧ σ = [some (.ref a), some (.int m), v2, v3, none, none, none] ∧ H' = upd H a (.lst (bagL x0 x1 x2 c)))
      ⟨_, (pss_cons (ps_if (pt_cmpR op_gt (pe_ix ix_list (pv 0) pe_int (fun _ _ => rfl)) pe_int (nomark _))
      (pss_cons (ps_set (i := 4) sc__law_take.nd rfl (.inl rfl) (pe_op op_mod (pe_callTy call_int1 (by rfl) T.n_int (by decide +kernel) (pa_cons (pe_ix ix_list (pv 0) pe_int (fun _ _ => rfl)) pa_nil)) (pv 1)))
      (pss_cons (ps_asg (pe_op op_fdiv (pe_ix ix_list (pv 0) pe_int (fun _ _ => rfl)) (pv 1)) (pg_sub (pv 0) pe_int set_list))
      (pss_one (ps_ret (pv 4)))))
      pss_nil)
    (pss_cons (ps_set (i := 5) sc__law_take.nd rfl (.inl rfl) (pe_op op_mod (pe_callTy call_int1 (by rfl) T.n_int (by decide +kernel) (pa_cons (pe_op op_mul (pe_op op_add (pe_ix ix_list (pv 0) pe_int (fun _ _ => rfl)) pe_int) pe_int) pa_nil)) pe_int))
    (pss_cons (ps_set (i := 6) sc__law_take.nd rfl (.inl rfl) (pe_op op_mod (pe_callTy call_int1 (by rfl) T.n_int (by decide +kernel) (pa_cons (pe_op op_mul (pe_op op_mod (pe_callTy call_int1 (by rfl) T.n_int (by decide +kernel) (pa_cons (pe_op op_mul (pv 5) (pv 5)) pa_nil)) pe_int) pe_int) pa_nil)) pe_int))
    (pss_cons (ps_if (pt_cmpR op_gt (pv 1) pe_int (nomark _))
      (pss_one (ps_ret (pe_op op_mod (pe_callTy call_int1 (by rfl) T.n_int (by decide +kernel) (pa_cons (pe_op op_add (pe_op op_mul (pv 6) pe_int) (pv 5)) pa_nil)) (pv 1))))
      pss_nil)
    (pss_one (ps_ret (pe_op op_mod (pe_callTy call_int1 (by rfl) T.n_int (by decide +kernel) (pa_cons (pe_op op_fdiv (pv 6) pe_int) pa_nil)) (pv 1)))))))), ?_⟩
      ⟨_, (ps_if (pt_cmpR op_eq (pe_ix ix_list (pv 0) pe_int (fun _ _ => rfl)) pe_int (nomark _))
      (pss_cons (ps_set (i := 2) sc__law_take.nd rfl (.inl rfl) pe_int)
      (pss_cons (ps_if (pt_cmpR op_lt (pe_ix ix_list (pv 0) pe_int (fun _ _ => rfl)) (pe_callB call_len_seq (by rfl) T.n_len (by decide +kernel) (pa_cons (pe_ix ix_list (pv 0) pe_int (fun _ _ => rfl)) pa_nil)) (nomark _))
        (pss_one (ps_set (i := 2) sc__law_take.nd rfl (.inl rfl) (pe_ix ix_list (pe_ix ix_list (pv 0) pe_int (fun _ _ => rfl)) (pe_ix ix_list (pv 0) pe_int (fun _ _ => rfl)) (fun _ _ => rfl))))
        pss_nil)
      (pss_cons (ps_augS (pv 0) pe_int get_list pe_int ip_add set_list)
      (pss_cons (ps_if (pt_cmpR op_ge (pv 2) pe_int (nomark _))
        (pss_one (ps_asg (pv 2) (pg_sub (pv 0) pe_int set_list)))
        pss_nil)
      (pss_cons (ps_set (i := 3) sc__law_take.nd rfl (.inl rfl) (pe_op op_add (pe_op op_add (pe_op op_mul (pe_ix ix_list (pv 0) pe_int (fun _ _ => rfl)) pe_int) (pe_op op_mod (pe_callTy call_int1 (by rfl) T.n_int (by decide +kernel) (pa_cons (pv 2) pa_nil)) pe_int)) (pe_op op_mul pe_int (pe_ix ix_list (pv 0) pe_int (fun _ _ => rfl)))))
      (pss_one (ps_asg (pe_op op_mod (pe_callTy call_int1 (by rfl) T.n_int (by decide +kernel) (pa_cons (pv 3) pa_nil)) pe_int) (pg_sub (pv 0) pe_int set_list))))))))
      pss_nil), fun nx hn => ?_⟩
    · rintro σ H' ⟨x0, x1, x2, v2, v3, xi, rfl, rfl⟩
      have hL : SqL K (upd H a (.lst (bagL x0 x1 x2 c))) a (bagL x0 x1 x2 c) := SqL.of upd_same
      have p0 := xi.h0
      have p1 := xi.h1
      have p1' := xi.h1'
      -- if bag[0] > 0
      refine ⟨_, rfl, a, _, _, _, rfl, rfl, hL, rfl, _, _, rfl, rfl, _, rfl, ?_⟩
      refine ite2 (fun h0 => ?_) (fun h0 => ?_)
      · refine ⟨_, rfl, a, _, _, _, rfl, rfl, hL, rfl, .inl ⟨_, rfl, _, rfl, _, _, rfl, rfl, hm, ?_⟩⟩
        refine ⟨_, rfl, a, _, _, _, rfl, rfl, hL, rfl, _, rfl, _, _, rfl, rfl, ⟨hm, hm2⟩, _, rfl, a, _, _, 0, rfl, rfl, upd_same, rfl, ?_⟩
        refine ⟨_, rfl, ?_⟩
        have z := q (x0 % m) (x0 / m) x1 x2 (Int.emod_nonneg _ (by omega)) (Int.emod_lt_of_pos _ hm) ⟨Int.ediv_nonneg p0 (by omega), xi.h1, xi.h1', xi.h2⟩
        have e : upd (upd H a (.lst (bagL x0 x1 x2 c))) a (.lst ((bagL x0 x1 x2 c).set 0 (.int (x0 / m)))) = upd H a (.lst (bagL (x0 / m) x1 x2 c)) := upd_upd
        rw [e]
        exact z
      · -- begin, second
        refine ⟨_, rfl, a, _, _, _, rfl, rfl, hL, rfl, _, _, rfl, rfl, _, _, rfl, rfl, .inl ⟨by omega, by omega⟩, .inl ⟨_, rfl, _, _, rfl, rfl, pos_of (by decide), ?_⟩⟩
        have g1 : 0 ≤ ((x1 + 1) * 39373) % 1000000007 := Int.emod_nonneg _ (by decide)
        have g2 : ((x1 + 1) * 39373) % 1000000007 < 1000000007 := Int.emod_lt_of_pos _ (by decide)
        generalize ((x1 + 1) * 39373) % 1000000007 = bg at g1 g2 ⊢
        refine ⟨_, rfl, _, rfl, _, _, rfl, rfl, .inl ⟨by omega, by omega⟩, .inl ⟨_, rfl, _, _, rfl, rfl, pos_of (by decide), ?_⟩⟩
        have g3 : 0 ≤ (bg * bg) % 998244353 := Int.emod_nonneg _ (by decide)
        have g4 : (bg * bg) % 998244353 < 998244353 := Int.emod_lt_of_pos _ (by decide)
        generalize (bg * bg) % 998244353 = sq at g3 g4 ⊢
        refine ⟨_, _, rfl, rfl, .inl ⟨by omega, by omega⟩, .inl ⟨_, rfl, _, _, rfl, rfl, pos_of (by decide), ?_⟩⟩
        have g5 : 0 ≤ (sq * 30011) % 998244353 := Int.emod_nonneg _ (by decide)
        have g6 : (sq * 30011) % 998244353 < 998244353 := Int.emod_lt_of_pos _ (by decide)
        generalize (sq * 30011) % 998244353 = sc at g5 g6 ⊢
        refine ⟨_, rfl, _, _, rfl, rfl, _, rfl, ?_⟩
        refine ite2 (fun h1 => ?_) (fun h1 => ?_)
        · refine ⟨_, rfl, _, _, rfl, rfl, .inl ⟨by omega, by omega⟩, _, rfl, _, _, rfl, rfl, .inl ⟨_, rfl, _, rfl, _, _, rfl, rfl, hm, ?_⟩⟩
          exact q _ x0 x1 x2 (Int.emod_nonneg _ (by omega)) (Int.emod_lt_of_pos _ hm) xi
        · refine ⟨_, rfl, _, _, rfl, rfl, ⟨by decide, by decide⟩, .inl ⟨_, rfl, _, rfl, _, _, rfl, rfl, hm, ?_⟩⟩
          exact q _ x0 x1 x2 (Int.emod_nonneg _ (by omega)) (Int.emod_lt_of_pos _ hm) xi
    · -- the cell
      have sa : SqL K H a (bagL b0 b1 b2 c) := SqL.of ha
      have p1 := bi.h1
      have p1' := bi.h1'
      have p2 := bi.h2
      refine ⟨_, rfl, a, _, _, _, rfl, rfl, sa, rfl, rfl, _, rfl, ?_⟩
      refine ite2 (fun h0 => ?_) (fun h0 => ?_)
      · refine ⟨_, rfl, a, _, _, _, rfl, rfl, sa, rfl, _, rfl, a, _, _, _, rfl, rfl, sa, rfl, c, _, rfl, .inl (SqL.of hc), _, _, rfl, rfl, _, rfl, ?_⟩
        refine ite2 (fun h1 => ?_) (fun h1 => ?_)
        · have h1' : b2 < (ns.length : Int) := by
            have z := of_decide_eq_true h1
            rwa [List.length_map] at z
          obtain ⟨j, ej⟩ : ∃ j : Nat, b2 = (j : Int) := ⟨b2.toNat, by omega⟩
          have hj : j < ns.length := by omega
          have hz : 0 ≤ ns[j] := hns _ (List.getElem_mem hj)
          refine ⟨_, rfl, a, _, _, _, rfl, rfl, sa, rfl, _, rfl, a, _, _, _, rfl, rfl, sa, rfl, c, _, _, V.int ns[j], rfl, rfl, SqL.of hc, at_of (j := j) ej (by rw [List.getElem?_map, List.getElem?_eq_getElem hj]; rfl), ?_⟩
          refine ⟨_, rfl, a, _, 2, _, rfl, rfl, sa, rfl, _, _, rfl, rfl, a, _, _, 2, rfl, rfl, ha, rfl, ?_⟩
          refine ⟨_, rfl, _, _, rfl, rfl, _, rfl, ?_⟩
          refine ite2 (fun h2 => ?_) (fun h2 => ?_)
          · refine ⟨_, rfl, _, rfl, a, _, _, 0, rfl, rfl, upd_same, rfl, ?_⟩
            refine ⟨_, rfl, a, _, _, _, rfl, rfl, SqL.of upd_same, rfl, _, _, rfl, rfl, .inl ⟨by omega, by omega⟩, _, rfl, .inl ⟨_, rfl, _, _, rfl, rfl, pos_of (by decide), _, _, rfl, rfl, _, rfl, a, _, _, _, rfl, rfl, SqL.of upd_same, rfl, _, _, rfl, rfl, .inl ⟨by decide, by decide⟩, _, _, rfl, rfl, ?_⟩⟩
            refine ⟨_, rfl, .inl ⟨_, rfl, _, _, rfl, rfl, pos_of (by decide), _, rfl, a, _, _, 1, rfl, rfl, upd_same, rfl, ?_⟩⟩
            exact hn _ _ ⟨_, _, b2 + 1, _, _, ⟨hz, Int.emod_nonneg _ (by decide), Int.emod_lt_of_pos _ (by decide), by omega⟩, rfl, by rw [upd_upd, upd_upd]; rfl⟩
          · refine ⟨_, rfl, a, _, _, _, rfl, rfl, SqL.of upd_same, rfl, _, _, rfl, rfl, .inl ⟨by omega, by omega⟩, _, rfl, .inl ⟨_, rfl, _, _, rfl, rfl, pos_of (by decide), _, _, rfl, rfl, _, rfl, a, _, _, _, rfl, rfl, SqL.of upd_same, rfl, _, _, rfl, rfl, .inl ⟨by decide, by decide⟩, _, _, rfl, rfl, ?_⟩⟩
            refine ⟨_, rfl, .inl ⟨_, rfl, _, _, rfl, rfl, pos_of (by decide), _, rfl, a, _, _, 1, rfl, rfl, upd_same, rfl, ?_⟩⟩
            exact hn _ _ ⟨_, _, b2 + 1, _, _, ⟨bi.h0, Int.emod_nonneg _ (by decide), Int.emod_lt_of_pos _ (by decide), by omega⟩, rfl, by rw [upd_upd]; rfl⟩
        · refine ⟨_, rfl, a, _, 2, _, rfl, rfl, sa, rfl, _, _, rfl, rfl, a, _, _, 2, rfl, rfl, ha, rfl, ?_⟩
          refine ⟨_, rfl, _, _, rfl, rfl, _, rfl, ?_⟩
          refine ite2 (fun h2 => ?_) (fun h2 => ?_)
          · exact absurd (of_decide_eq_true h2) (by decide)
          · refine ⟨_, rfl, a, _, _, _, rfl, rfl, SqL.of upd_same, rfl, _, _, rfl, rfl, .inl ⟨by omega, by omega⟩, _, rfl, .inl ⟨_, rfl, _, _, rfl, rfl, pos_of (by decide), _, _, rfl, rfl, _, rfl, a, _, _, _, rfl, rfl, SqL.of upd_same, rfl, _, _, rfl, rfl, .inl ⟨by decide, by decide⟩, _, _, rfl, rfl, ?_⟩⟩
            refine ⟨_, rfl, .inl ⟨_, rfl, _, _, rfl, rfl, pos_of (by decide), _, rfl, a, _, _, 1, rfl, rfl, upd_same, rfl, ?_⟩⟩
            exact hn _ _ ⟨_, _, b2 + 1, _, _, ⟨bi.h0, Int.emod_nonneg _ (by decide), Int.emod_lt_of_pos _ (by decide), by omega⟩, rfl, by rw [upd_upd]; rfl⟩
      · exact hn _ _ ⟨b0, b1, b2, none, none, bi, rfl, (upd_self ha).symm⟩
end

-- b
section
variable {P : Program} {w : World} {K : PySem.W.Frag} {mg : Str → Option Value} {base : Heap}

abbrev s_is_integer : Stmt := (topS 6)
theorem sc_is_integer : FnScope ["thing"] ["thing"] (defScope s_is_integer) := ⟨rfl, rfl, rfl, by decide +kernel, rfl, by decide +kernel, by decide +kernel⟩
theorem ok_is_integer {f : Addr} {fd : FuncData} (F : Fun K "is_integer" "is_integer" s_is_integer f fd) (T : BT mg) :
    FnOk P w K mg base CX0 1 f fd ["thing"] (spPred Any isIntD) := by
  refine F.ok sc_is_integer (fun vs H Q E h => ?_) (fun cdv A outer s H vs Q E hr h => ?_)
  · obtain ⟨v, d, rfl, _⟩ := h
    rfl
  · obtain ⟨v, d, rfl, hd, hz, q⟩ := h
    have q' := q H (Ext.refl H)
    rw [isIntD_eq] at q'
    refine ⟨_, (pss_one (ps_ret (pe_and (pe_callB call_isi (by rfl) T.n_isinstance (by decide +kernel) (pa_cons (pv 0) (pa_cons (pe_bltn (v := .ty "int") (by rfl) T.n_int (by decide +kernel) rfl) pa_nil))) (pe_one (pe_not (pe_callB call_isi (by rfl) T.n_isinstance (by decide +kernel) (pa_cons (pv 0) (pa_cons (pe_bltn (v := .ty "bool") (by rfl) T.n_bool (by decide +kernel) rfl) pa_nil)))))))), ?_⟩
    refine ⟨_, rfl, _, _, _, _, _, rfl, .ty "int", ty_of hd, ki_int d, _, rfl, ?_⟩
    refine ite2 (fun h => ?_) (fun h => ?_)
    · refine ⟨_, rfl, _, _, _, _, _, rfl, .ty "bool", ty_of hd, ki_bool d, _, rfl, ?_⟩
      rw [h, Bool.true_and] at q'
      exact q'
    · rw [Bool.eq_false_iff.mpr h, Bool.false_and] at q'
      exact q'

abbrev s_is_number : Stmt := (topS 7)
theorem sc_is_number : FnScope ["thing"] ["thing"] (defScope s_is_number) := ⟨rfl, rfl, rfl, by decide +kernel, rfl, by decide +kernel, by decide +kernel⟩
theorem ok_is_number {f : Addr} {fd : FuncData} (F : Fun K "is_number" "is_number" s_is_number f fd) (C1 : Ca P w K mg base 1 "is_integer" ["thing"] (spPred Any isIntD)) :
    FnOk P w K mg base CX0 2 f fd ["thing"] (spPred Any isNumD) := by
  refine F.ok sc_is_number (fun vs H Q E h => ?_) (fun cdv A outer s H vs Q E hr h => ?_)
  · obtain ⟨v, d, rfl, _⟩ := h
    rfl
  · obtain ⟨v, d, rfl, hd, hz, q⟩ := h
    refine ⟨_, (pss_one (ps_ret (pe_and (pe_ca C1 (hr.mono (by decide)) (by rfl) (pa_cons (pv 0) pa_nil)) (pe_one (pe_cmpR op_ge (pv 0) pe_int (nomark _)))))), ?_⟩
    refine ⟨_, rfl, v, d, rfl, hd, trivial, fun H1 e1 => ⟨_, rfl, ?_⟩⟩
    refine ite2 (fun h => ?_) (fun h => ?_)
    · obtain ⟨i, rfl, rfl⟩ := dq_int hd h
      refine ⟨_, rfl, _, _, rfl, rfl, ?_⟩
      exact q H1 e1
    · have e : isNumD d = false := by
        cases d with
        | int i => exact absurd rfl h
        | _ => rfl
      have q' := q H1 e1
      rw [e] at q'
      exact q'

abbrev s_is_name : Stmt := (topS 8)
theorem sc_is_name : FnScope ["thing", "letter"] ["thing"] (defScope s_is_name) := ⟨rfl, rfl, rfl, by decide +kernel, rfl, by decide +kernel, by decide +kernel⟩
theorem ok_is_name {f : Addr} {fd : FuncData} (F : Fun K "is_name" "is_name" s_is_name f fd) (T : BT mg) {tl : Tok} {tn : Tok} (gLet : mg "LETTERS" = some (.str abc tl)) (gLong : mg "LONGEST" = some (.int 8 tn)) :
    FnOk P w K mg base CX0 1 f fd ["thing"] (spPred Ok1 isNameD) := by
  refine F.ok sc_is_name (fun vs H Q E h => ?_) (fun cdv A outer s H vs Q E hr h => ?_)
  · obtain ⟨v, d, rfl, _⟩ := h
    rfl
  · obtain ⟨v, d, rfl, hd, hz, q⟩ := h
    refine ⟨_, (pss_cons (ps_if (PW.pt (pw_or (pt_not (pt_val (pe_callB call_isi (by rfl) T.n_isinstance (by decide +kernel) (pa_cons (pv 0) (pa_cons (pe_bltn (v := .ty "str") (by rfl) T.n_str (by decide +kernel) rfl) pa_nil))))) (pw_or1 (pt_not (pt_chain op_le op_le pe_int (pe_callB call_len_str (by rfl) T.n_len (by decide +kernel) (pa_cons (pv 0) pa_nil)) (pe_glob (v := .int 8) rfl gLong ⟨_, rfl⟩))))))
      (pss_one (ps_ret pe_bl))
      pss_nil)
    (pss_one (ps_ret (pe_callB (cr_all rfl) (by rfl) T.n_all (by decide +kernel) (pa_cons (pe_lc (own := [("letter", 1)]) (g := gName 1) (tt := tYes) rfl sc_is_name.nd (pi_str (pv 0)) (blkOk_by (N := ["thing", "letter"]) (sc := defScope s_is_name) (by decide +kernel)) (fun _ _ _ _ _ => (pg_name (i := 1) sc_is_name.nd rfl (.inl rfl))) (fun _ _ _ _ _ => pts_nil) (fun _ _ _ _ _ => (pe_cmpR op_in_sign (pv 1) (pe_glob (v := .str abc) rfl gLet ⟨_, rfl⟩) (by rfl)))) pa_nil))))), ?_⟩
    refine ⟨_, rfl, _, _, _, _, _, rfl, .ty "str", ty_of hd, ki_str d, _, rfl, ?_⟩
    refine ite2 (fun h => ?_) (fun h => ?_)
    · have q' := q H (Ext.refl H)
      rw [kS_not h] at q'
      exact iteT q'
    · obtain ⟨x, rfl, rfl⟩ := dq_str hd (kS_yes h)
      have hx : x.length ≤ 1000 := (hz x rfl).1
      have hx2 : x.length ≤ sizeLine := Nat.le_trans hx (by decide)
      have qx : Q (.bl (isNameS x)) H := q H (Ext.refl H)
      refine ⟨_, rfl, _, rfl, hx2, _, _, rfl, rfl, _, rfl, ?_⟩
      refine ite2 (fun h1 => ?_) (fun h1 => ?_)
      · refine ⟨_, _, rfl, rfl, _, rfl, ?_⟩
        have h1' : (1 : Int) ≤ (x.length : Int) := of_decide_eq_true h1
        refine ite2 (fun h2 => ?_) (fun h2 => ?_)
        · have h2' : ¬ (x.length : Int) ≤ 8 := by simpa using h2
          rw [isNameS_short (by omega)] at qx
          exact qx
        · have h2' : (x.length : Int) ≤ 8 := by simpa using h2
          rw [isNameS_long (by omega)] at qx
          refine ⟨_, rfl, x, rfl, fun D hD => ?_⟩
          refine lc_det walk_str (sg x) (fun _ => true) (fun i => V.bl (decide (x.cps.toList.getD i 0 ∈ abc.cps.toList))) hD hx2 its_sg (fun _ _ => trivial)
            (fun i H' _ _ Q' q' => q') (fun i H' _ _ _ Q' q' => ⟨_, rfl, _, abc, rfl, rfl, q'⟩) ?_
          rw [signs_all x fun c => decide (c ∈ abc.cps.toList)]
          refine ⟨D, _, rfl, SqL.of upd_same, ?_⟩
          rw [all_id_map]
          have q2 := q (upd H D (.lst ((x.cps.toList.map fun c => decide (c ∈ abc.cps.toList)).map V.bl))) (Ext.new hD)
          have e2 : isNameD (.str x) = x.cps.toList.all fun c => decide (c ∈ abc.cps.toList) := isNameS_long (by omega)
          rw [e2] at q2
          exact q2
      · have h1' : ¬ (1 : Int) ≤ (x.length : Int) := by simpa using h1
        rw [isNameS_short (by omega)] at qx
        exact ⟨_, rfl, iteT qx⟩
end

-- d
section
variable {P : Program} {w : World} {K : PySem.W.Frag} {mg : Str → Option Value} {base : Heap}

abbrev s__law_bag : Stmt := (topS 36)
theorem sc__law_bag : FnScope ["_law_script", "_law_cell"] ["_law_script"] (defScope s__law_bag) := ⟨rfl, rfl, rfl, by decide +kernel, rfl, by decide +kernel, by decide +kernel⟩
theorem ok_bag {f : Addr} {fd : FuncData} (F : Fun K "_law_bag" "_law_bag" s__law_bag f fd) (T : BT mg) :
    FnOk P w K mg base CX0 1 f fd ["_law_script"] (spBag0 K) := by
  refine F.ok sc__law_bag (fun vs H Q E h => ?_) (fun cdv A outer s H vs Q E hr h => ?_)
  · obtain ⟨a, ns, rfl, _⟩ := h
    rfl
  · obtain ⟨a, ns, rfl, hs, hl, q⟩ := h
    refine ⟨_, (pss_one (ps_ret (pe_lst (pa_cons pe_int (pa_cons pe_int (pa_cons pe_int (pa_cons (pe_lc (own := [("_law_cell", 1)]) (g := gName 1) (tt := tYes) rfl sc__law_bag.nd (pi_list (pe_slice sl_list (pv 0) po_none (po_some pe_int))) (blkOk_by (N := ["_law_script", "_law_cell"]) (sc := defScope s__law_bag) (by decide +kernel)) (fun _ _ _ _ _ => (pg_name (i := 1) sc__law_bag.nd rfl (.inl rfl))) (fun _ _ _ _ _ => pts_nil) (fun _ _ _ _ _ => (pe_callB call_abs (by rfl) T.n_abs (by decide +kernel) (pa_cons (pv 1) pa_nil)))) pa_nil))))))), ?_⟩
    obtain ⟨cs, ec, hc⟩ := cut_ints ns none (some 63)
    refine ⟨_, rfl, _, rfl, a, _, rfl, hs, fun p hp => ?_⟩
    rw [ec]
    have e1 : Ext H (upd H p (.lst (cs.map V.int))) := Ext.new hp
    refine ⟨p, rfl, ⟨_, SqL.of upd_same⟩, fun D hD => ?_⟩
    have e2 : Ext (upd H p (.lst (cs.map V.int))) (upd (upd H p (.lst (cs.map V.int))) D (.lst ((cs.map fun i => if i < 0 then -i else i).map V.int))) := Ext.new hD
    refine lc_det (walk_list (K := K) (a := p) (xs := cs.map V.int)) (fun i => .int (cs.getD i 0)) (fun _ => true) (fun i => .int (if cs.getD i 0 < 0 then -(cs.getD i 0) else cs.getD i 0)) hD (by rw [List.length_map]; exact Nat.le_trans hc (Nat.le_trans hl (by decide)))
      ?_ (fun H' e => SqL.of (e _ _ upd_same)) (fun i H' _ _ Q' q' => q') (fun i H' _ _ _ Q' q' => ⟨_, rfl, _, rfl, q'⟩) ?_
    · rintro i H' x H'' hi ⟨rfl, hx⟩
      refine ⟨rfl, ?_⟩
      rw [List.getElem?_map] at hx
      rw [List.getD_eq_getElem?_getD]
      cases e : cs[i]? with
      | none => rw [e] at hx; cases hx
      | some z => rw [e] at hx; exact (Option.some.inj hx).symm
    · rw [List.filter_eq_self.mpr (fun _ _ => rfl), List.length_map, map_range_getI (fun i => V.int (if i < 0 then -i else i)) cs]
      have em : (cs.map fun i => V.int (if i < 0 then -i else i)) = (cs.map fun i => if i < 0 then -i else i).map V.int := by
        rw [List.map_map]
        rfl
      rw [em]
      refine ⟨by show 4 ≤ sizeLine; decide, fun r hr' => ?_⟩
      have e3 := Ext.new (o := .lst (bagL 0 1234567891 0 D)) hr'
      have nDr : D ≠ r := fun z => by rw [← z, upd_same] at hr'; cases hr'
      refine q r D (cs.map fun i => if i < 0 then -i else i) _ ((e1.trans e2).free hr') ((e1.trans e2).trans e3) upd_same (by rw [upd_ne nDr, upd_same]) ?_ nDr
      intro n hn
      obtain ⟨i, _, rfl⟩ := List.mem_map.mp hn
      split <;> omega
end

-- g
section
variable {P : Program} {w : World} {K : PySem.W.Frag} {mg : Str → Option Value} {base : Heap}
abbrev s__law_names : Stmt := (topS 39)
theorem sc__law_names : FnScope ["_law_bag_here", "_law_many", "_law_letters", "_law_words", "_law_style", "_law_turn", "_law_base", "_law_at", "_law_k"] ["_law_bag_here", "_law_many"] (defScope s__law_names) := ⟨rfl, rfl, rfl, by decide +kernel, rfl, by decide +kernel, by decide +kernel⟩
theorem ok_names {f : Addr} {fd : FuncData} (F : Fun K "_law_names" "_law_names" s__law_names f fd) (T : BT mg)
    (CT : Ca P w K mg base 1 "_law_take" ["_law_bag_here", "_law_many"] spTake) :
    FnOk P w K mg base CX0 2 f fd ["_law_bag_here", "_law_many"] spNames := by
  refine F.ok sc__law_names (fun vs H Q E h => ?_) (fun cdv A outer s H vs Q E hr h => ?_)
  · obtain ⟨a, m, rfl, _⟩ := h
    rfl
  · obtain ⟨a, m, rfl, hb, hm1, hm8, q⟩ := h
    refine ⟨_, (pss_cons (ps_set (i := 2) sc__law_names.nd rfl (.inr rfl) pe_str)
    (pss_cons (ps_set (i := 3) sc__law_names.nd rfl (.inl rfl) pe_str)
    (pss_cons (ps_set (i := 3) sc__law_names.nd rfl (.inl rfl) (pe_split (pe_op op_add_str (pv 3) pe_str) pe_str))
    (pss_cons (ps_asg (pe_tup (pa_cons (pe_ca CT (hr.mono (by decide)) (by rfl) (pa_cons (pv 0) (pa_cons pe_int pa_nil))) (pa_cons (pe_ca CT (hr.mono (by decide)) (by rfl) (pa_cons (pv 0) (pa_cons pe_int pa_nil))) pa_nil))) (pg_tup (by rfl) (pgs_cons (pg_name (i := 4) sc__law_names.nd rfl (.inl rfl)) (pgs_cons (pg_name (i := 5) sc__law_names.nd rfl (.inr rfl)) pgs_nil))))
    (pss_cons (ps_set (i := 6) sc__law_names.nd rfl (.inr rfl) (pe_join pe_str (pe_lc (own := [("_law_k", 8)]) (g := gName 8) (tt := tYes) rfl sc__law_names.nd (pi_range1 (by rfl) T.n_range (pa_cons (pe_op op_add pe_int (pe_ca CT (hr.mono (by decide)) (by rfl) (pa_cons (pv 0) (pa_cons pe_int pa_nil)))) pa_nil)) (blkOk_by (N := ["_law_bag_here", "_law_many", "_law_letters", "_law_words", "_law_style", "_law_turn", "_law_base", "_law_at", "_law_k"]) (sc := defScope s__law_names) (by decide +kernel)) (fun _ _ _ _ _ => (pg_name (i := 8) sc__law_names.nd rfl (.inl rfl))) (fun _ _ _ _ _ => pts_nil) (fun _ _ _ _ _ => (pe_ix ix_str (pv 2) (pe_ca CT (hr.mono (by decide)) (by rfl) (pa_cons (pv 0) (pa_cons pe_int pa_nil))) (fun _ _ => rfl))))))
    (pss_cons (ps_set (i := 7) sc__law_names.nd rfl (.inr rfl) (pe_ca CT (hr.mono (by decide)) (by rfl) (pa_cons (pv 0) (pa_cons (pe_op op_add (pe_callB call_len_str (by rfl) T.n_len (by decide +kernel) (pa_cons (pv 6) pa_nil)) pe_int) pa_nil))))
    (pss_cons (ps_if (pt_cmpR op_eq (pv 4) pe_int (nomark _))
      (pss_one (ps_ret (pe_slice sl_list (pe_op op_cat (pe_slice sl_list (pv 3) (po_some (pv 5)) po_none) (pe_slice sl_list (pv 3) po_none (po_some (pv 5)))) po_none (po_some (pv 1)))))
      pss_nil)
    (pss_cons (ps_if (pt_cmpR op_eq (pv 4) pe_int (nomark _))
      (pss_one (ps_ret (pe_lc (own := [("_law_k", 8)]) (g := gName 8) (tt := tYes) rfl sc__law_names.nd (pi_range1 (by rfl) T.n_range (pa_cons (pv 1) pa_nil)) (blkOk_by (N := ["_law_bag_here", "_law_many", "_law_letters", "_law_words", "_law_style", "_law_turn", "_law_base", "_law_at", "_law_k"]) (sc := defScope s__law_names) (by decide +kernel)) (fun _ _ _ _ _ => (pg_name (i := 8) sc__law_names.nd rfl (.inl rfl))) (fun _ _ _ _ _ => pts_nil) (fun _ _ _ _ _ => (pe_ix ix_str (pv 2) (pe_op op_mod (pe_callTy call_int1 (by rfl) T.n_int (by decide +kernel) (pa_cons (pe_op op_add (pv 5) (pe_op op_mul pe_int (pv 8))) pa_nil)) pe_int) (fun _ _ => rfl))))))
      pss_nil)
    (pss_one (ps_ret (pe_lc (own := [("_law_k", 8)]) (g := gName 8) (tt := tYes) rfl sc__law_names.nd (pi_range1 (by rfl) T.n_range (pa_cons (pv 1) pa_nil)) (blkOk_by (N := ["_law_bag_here", "_law_many", "_law_letters", "_law_words", "_law_style", "_law_turn", "_law_base", "_law_at", "_law_k"]) (sc := defScope s__law_names) (by decide +kernel)) (fun _ _ _ _ _ => (pg_name (i := 8) sc__law_names.nd rfl (.inl rfl))) (fun _ _ _ _ _ => pts_nil) (fun _ _ _ _ _ => (pe_op op_add_str (pe_op op_add_str (pe_slice sl_str (pv 6) po_none (po_some (pv 7))) (pe_ix ix_str (pv 2) (pe_op op_mod (pe_callTy call_int1 (by rfl) T.n_int (by decide +kernel) (pa_cons (pe_op op_add (pv 5) (pe_op op_mul pe_int (pv 8))) pa_nil)) pe_int) (fun _ _ => rfl))) (pe_slice sl_str (pv 6) (po_some (pv 7)) po_none)))))))))))))), ?_⟩
    -- the words
    refine ⟨_, rfl, _, _, rfl, rfl, by decide +kernel, ⟨_, rfl⟩, _, _, rfl, rfl, by decide +kernel, by decide +kernel, fun pw hpw => ?_⟩
    rw [show Txt.split (Str.ofString "send take ended close else first any step quit server back again where log a b ab ba z" ++ Str.ofString " stuck seat sticks lane") (Str.ofString " ") = wordL from split_words]
    have e1 := Ext.new (o := .lst (wordL.map V.str)) hpw
    have hw1 : upd H pw (.lst (wordL.map V.str)) pw = some (.lst (wordL.map V.str)) := upd_same
    generalize upd H pw (.lst (wordL.map V.str)) = H1 at e1 hw1 ⊢
    -- style, turn
    refine ⟨_, rfl, a, 4, rfl, hb.up e1, by decide, by decide, fun r0 l0 u0 => ⟨_, rfl, a, 20, rfl, hb.up e1, by decide, by decide, fun r1 l1 u1 => ⟨by show 2 ≤ sizeLine; decide, fun pt hpt => ?_⟩⟩⟩
    have e2 := e1.trans (Ext.new (o := .tup [.int r0, .int r1]) hpt)
    have hw2 := Ext.new (o := .tup [.int r0, .int r1]) hpt _ _ hw1
    refine ⟨pt, _, rfl, SqT.of upd_same, rfl, _, _, rfl, _, _, rfl, rfl, ?_⟩
    generalize upd H1 pt (.tup [.int r0, .int r1]) = H2 at e2 hw2 ⊢
    -- the base
    refine ⟨⟨_, rfl⟩, _, rfl, a, 7, rfl, hb.up e2, by decide, by decide, fun r2 l2 u2 => ⟨_, _, rfl, rfl, _, rfl, by omega, by omega, fun D hD => ?_⟩⟩
    refine lc_ext walk_range (fun _ v _ => ∃ c, c ∈ abcL ∧ v = .str (one c)) (fun _ _ _ _ _ h => h) hD (by show (1 + r2).toNat ≤ 2 ^ 24; omega) (fun _ _ => trivial) ?_ ?_
    · rintro i x H' H'' hi e ⟨rfl, rfl⟩
      refine ⟨Ext.refl _, fun Q' q' => ?_⟩
      refine ⟨_, rfl, _, rfl, a, 26, rfl, hb.up (e2.trans e), by decide, by decide, fun r l u => ?_⟩
      obtain ⟨j, rfl⟩ : ∃ j : Nat, r = (j : Int) := ⟨r.toNat, by omega⟩
      have hj : j < 26 := by omega
      exact ⟨_, _, 97 + j, rfl, rfl, by decide +kernel, atI_nat (abc_at j hj), q' _ _ (Ext.refl _) ⟨_, abc_mem hj, rfl⟩⟩
    intro H3 xs e3 hD3 hl hR
    obtain ⟨cs, rfl, hcl, hcm⟩ := ones_of hl hR
    have hcs1 : 1 ≤ cs.length := by rw [hcl]; omega
    have hcs7 : cs.length ≤ 7 := by rw [hcl]; omega
    refine ⟨_, D, cs.map one, rfl, rfl, .inl (SqL.of hD3), by rw [ones_len, List.length_map]; show cs.length + cs.length * 0 ≤ _; omega, ?_⟩
    have hj := join_signs cs
    have ej : Txt.join (Str.ofString "") (cs.map one) = Txt.join "" (cs.map one) := rfl
    rw [ej]
    generalize Txt.join "" (cs.map one) = b at hj ⊢
    have hbl : b.length = cs.length := by rw [tlen, hj]
    have e23 := e2.trans e3
    have hw3 := e3 _ _ hw2
    -- the place
    refine ⟨_, rfl, _, rfl, _, rfl, by rw [hbl]; show _ ≤ 2 ^ 24; omega, _, _, rfl, rfl, a, _, rfl, hb.up e23, by omega, by omega, fun r3 l3 u3 => ?_⟩
    obtain ⟨t, rfl⟩ : ∃ j : Nat, r1 = (j : Int) := ⟨r1.toNat, by omega⟩
    obtain ⟨at_, rfl⟩ : ∃ j : Nat, r3 = (j : Int) := ⟨r3.toNat, by omega⟩
    obtain ⟨k, rfl⟩ : ∃ j : Nat, m = (j : Int) := ⟨m.toNat, by omega⟩
    have hk8 : k ≤ 8 := by omega
    have ha : at_ ≤ cs.length := by omega
    refine ⟨_, rfl, rfl, _, rfl, ?_⟩
    refine ite2 (fun g0 => ?_) (fun g0 => ?_)
    · refine ⟨_, rfl, _, rfl, _, rfl, pw, _, rfl, SqL.of hw3, fun p1 h1 => ?_⟩
      have f1 := Ext.new (o := .lst (cutV (wordL.map V.str) (some (t : Int)) none)) h1
      refine ⟨_, rfl, _, rfl, _, rfl, pw, _, rfl, SqL.of (f1 _ _ hw3), fun p2 h2 => ?_⟩
      have f2 := Ext.new (o := .lst (cutV (wordL.map V.str) none (some (t : Int)))) h2
      refine ⟨p1, p2, _, _, rfl, rfl, f2 _ _ upd_same, upd_same, ?_, fun p3 h3 => ?_⟩
      · have z1 := cutV_length (wordL.map V.str) (some (t : Int)) none
        have z2 := cutV_length (wordL.map V.str) none (some (t : Int))
        have z3 : (wordL.map V.str).length = 23 := rfl
        show _ ≤ 2 ^ 24
        omega
      · have f3 := Ext.new (o := .lst (cutV (wordL.map V.str) (some (t : Int)) none ++ cutV (wordL.map V.str) none (some (t : Int)))) h3
        refine ⟨_, rfl, _, rfl, p3, _, rfl, SqL.of upd_same, fun p4 h4 => ?_⟩
        have el : cutV (cutV (wordL.map V.str) (some (t : Int)) none ++ cutV (wordL.map V.str) none (some (t : Int))) none (some (k : Int)) = ((wordL.drop t ++ wordL.take t).take k).map V.str := by
          rw [cut_drop, cut_take, cut_take, List.map_take, List.map_append, List.map_drop, List.map_take]
        rw [el]
        have e4 := ((e23.trans f1).trans f2).trans f3
        exact q p4 _ _ (e4.trans (Ext.new h4)) (e4.free h4) upd_same (names0 t k (by omega) (by omega))
    · refine ⟨_, rfl, rfl, _, rfl, ?_⟩
      refine ite2 (fun g1 => ?_) (fun g1 => ?_)
      · refine ⟨_, rfl, _, rfl, by omega, by omega, fun D4 hD4 => ?_⟩
        refine lc_det walk_range (fun i => .int (0 + (i : Int))) (fun _ => true) (fun i => .str (one (let1 t i))) hD4 (by show _ ≤ 2 ^ 24; omega) (fun i H x H' _ y => y) (fun _ _ => trivial) (fun i H' _ _ Q' q' => q') (fun i H' hi _ _ Q' q' => ?_) ?_
        · refine ⟨_, rfl, _, rfl, _, rfl, _, _, rfl, rfl, .inl ⟨by decide, by decide⟩, _, _, rfl, rfl, .inl ⟨_, rfl, _, _, rfl, rfl, pos_of (by decide), _, _, let1 t i, rfl, rfl, by decide +kernel, ?_, q'⟩⟩
          have ev : ((t : Int) + 3 * (0 + (i : Int))) % 26 = (((t + 3 * i) % 26 : Nat) : Int) := by omega
          show atI _ (((t : Int) + 3 * (0 + (i : Int))) % 26) = _
          rw [ev]
          exact atI_nat (abc_at _ (Nat.mod_lt _ (by decide)))
        · rw [List.filter_eq_self.mpr (fun _ _ => rfl)]
          have em : ((List.range (k : Int).toNat).map fun i => V.str (one (let1 t i))) = ((List.range k).map fun i => one (let1 t i)).map V.str := by
            rw [List.map_map]
            rfl
          rw [em]
          exact q D4 _ _ (e23.trans (Ext.new hD4)) (e23.free hD4) upd_same (names1 t k hk8)
      · refine ⟨_, rfl, _, rfl, by omega, by omega, fun D4 hD4 => ?_⟩
        refine lc_det walk_range (fun i => .int (0 + (i : Int))) (fun _ => true) (fun i => .str (cutS b none (some (at_ : Int)) ++ one (let1 t i) ++ cutS b (some (at_ : Int)) none)) hD4 (by show _ ≤ 2 ^ 24; omega) (fun i H x H' _ y => y) (fun _ _ => trivial) (fun i H' _ _ Q' q' => q') (fun i H' hi _ _ Q' q' => ?_) ?_
        · have hb2 : b.length ≤ 2 ^ 24 := by omega
          have c1 := cutS_length b none (some (at_ : Int))
          have c2 := cutS_length b (some (at_ : Int)) none
          refine ⟨_, rfl, _, rfl, _, rfl, b, rfl, hb2, ?_⟩
          refine ⟨_, rfl, _, rfl, _, rfl, _, _, rfl, rfl, .inl ⟨by decide, by decide⟩, _, _, rfl, rfl, .inl ⟨_, rfl, _, _, rfl, rfl, pos_of (by decide), _, _, let1 t i, rfl, rfl, by decide +kernel, ?_, ?_⟩⟩
          · have ev : ((t : Int) + 3 * (0 + (i : Int))) % 26 = (((t + 3 * i) % 26 : Nat) : Int) := by omega
            show atI _ (((t : Int) + 3 * (0 + (i : Int))) % 26) = _
            rw [ev]
            exact atI_nat (abc_at _ (Nat.mod_lt _ (by decide)))
          · refine ⟨_, _, rfl, rfl, by show _ + 1 ≤ 2 ^ 24; omega, ?_⟩
            refine ⟨_, rfl, _, rfl, _, rfl, b, rfl, hb2, _, _, rfl, rfl, ?_, q'⟩
            have c3 : (cutS b none (some (at_ : Int)) ++ one (let1 t i)).length = (cutS b none (some (at_ : Int))).length + 1 := by
              rw [tlen, tlen, tl_app, List.length_append]
              rfl
            show (cutS b none (some (at_ : Int)) ++ one (let1 t i)).length + _ ≤ 2 ^ 24
            omega
        · rw [List.filter_eq_self.mpr (fun _ _ => rfl)]
          have em : ((List.range (k : Int).toNat).map fun i => V.str (cutS b none (some (at_ : Int)) ++ one (let1 t i) ++ cutS b (some (at_ : Int)) none)) = ((List.range k).map fun i => cutS b none (some (at_ : Int)) ++ one (let1 t i) ++ cutS b (some (at_ : Int)) none).map V.str := by
            rw [List.map_map]
            rfl
          rw [em]
          refine q D4 _ _ (e23.trans (Ext.new hD4)) (e23.free hD4) upd_same (names2 cs at_ t k _ hcs1 hcs7 hcm hk8 ha fun i _ => ?_)
          rw [tl_app, tl_app, cutS_take, cutS_drop, hj]
          rfl
end

end K70

set_option Elab.async false
set_option linter.all false
set_option maxRecDepth 100000
set_option maxHeartbeats 4000000
namespace K70
open PySem PySem.Spec PyProof.Rows L2 Ol RZ
open TL (tl)
section
variable {P : Program} {w : World} {K : PySem.W.Frag} {mg : Str → Option Value} {base : Heap} {C S : Addr}
/-! ### _law_bounds -/
def spBounds : Sp := fun vs H Q _ => ∃ (p an : Addr) (ys : List Str) (g : Int), vs = [.ref p, .ref an, .int g] ∧ 1 ≤ g ∧ g ≤ 3 ∧ Bag H p ∧ H an = some (.lst (ys.map V.str)) ∧ ys.Nodup ∧ ys.length ≤ 3 ∧
  ∀ d H' ps, H d = none → Ext H H' → H' d = some (.dK (kvI ps)) → ps.map (·.1) = ys → (∀ q ∈ ps, 1 ≤ q.2 ∧ q.2 ≤ g) → Q (.ref d) H'
abbrev s_bounds : Stmt := (topS 40)
theorem sc_bounds : FnScope ["_law_bag_here", "_law_names_here", "_law_greatest", "_law_found", "_law_name"] ["_law_bag_here", "_law_names_here", "_law_greatest"] (defScope s_bounds) := ⟨rfl, rfl, rfl, by decide +kernel, rfl, by decide +kernel, by decide +kernel⟩
theorem kvI_none {ps : List (Str × Int)} {x : Str} (h : x ∉ ps.map (·.1)) : valV (kvI ps) (.inr x) = none := by
  refine valV_none fun p hp e => h ?_
  unfold kvI at hp
  obtain ⟨q, hq, rfl⟩ := List.mem_map.mp hp
  have e' : q.1 = x := Sum.inr.inj e
  rw [← e']
  exact List.mem_map_of_mem hq
theorem ok_bounds {f : Addr} {fd : FuncData} (F : Fun K "_law_bounds" "_law_bounds" s_bounds f fd) (T : BT mg) (CT : Ca P w K mg base 1 "_law_take" ["_law_bag_here", "_law_many"] spTake) :
    FnOk P w K mg base CX0 2 f fd ["_law_bag_here", "_law_names_here", "_law_greatest"] spBounds := by
  refine F.ok sc_bounds (fun vs H Q E h => ?_) (fun cdv A outer s H vs Q E hr h => ?_)
  · obtain ⟨p, an, ys, g, rfl, _⟩ := h
    rfl
  · obtain ⟨p, an, ys, g, rfl, hg1, hg3, hB, hN, hnd, hl, q⟩ := h
    refine ⟨_, (pss_cons (ps_set (i := 3) sc_bounds.nd rfl (.inl rfl) pe_dnewK)
    (pss_cons (ps_for PassesOwn.never rfl (pi_list (pv 1)) (pg_name (i := 4) sc_bounds.nd rfl (.inl rfl))
      (pss_one (ps_dput (hu_of hr) (pv 3) (pv 4) (pe_ifExp (pt_cmpR op_gt (pe_callB call_len_seq (by rfl) T.n_len (by decide +kernel) (pa_cons (pv 1) pa_nil)) pe_int (nomark _)) pe_int (pe_op op_add pe_int (pe_ca CT (hr.mono (by decide)) (by rfl) (pa_cons (pv 0) (pa_cons (pv 2) pa_nil))))) rfl)))
    (pss_one (ps_ret (pv 3))))), ?_⟩
    intro d hd
    have e0 := Ext.new (o := .dK []) hd
    have ml : (ys.map V.str).length = ys.length := List.length_map ..
    refine ⟨_, rfl, an, rfl, ⟨_, SqL.of (e0 _ _ hN)⟩, ?_⟩
    refine for_list (xs := ys.map V.str) (fun i σ H' => ∃ v4 ps, σ = [some (.ref p), some (.ref an), some (.int g), some (.ref d), v4] ∧ Ext H H' ∧ H' d = some (.dK (kvI ps)) ∧ ps.map (·.1) = ys.take i ∧ (∀ q ∈ ps, 1 ≤ q.2 ∧ q.2 ≤ g))
      ⟨none, [], rfl, e0, upd_same, rfl, fun q hq => by cases hq⟩ (fun i σ H' _ ⟨_, _, _, e, _⟩ => SqL.of (e _ _ hN)) ?_ ?_
    · rintro i x σ H1 hx ⟨v4, ps, rfl, e, hd1, hps, hb⟩
      have hi : i < ys.length := by have := (List.getElem?_eq_some_iff.mp hx).1; rw [ml] at this; exact this
      rw [List.getElem?_map, List.getElem?_eq_getElem hi] at hx
      cases hx
      have hni : ys[i] ∉ ps.map (·.1) := fun z => by
        rw [hps] at z
        obtain ⟨j, hj, ej⟩ := List.getElem_of_mem z
        rw [List.length_take] at hj
        rw [List.getElem_take] at ej
        exact List.pairwise_iff_getElem.mp hnd j i (by omega) hi (by omega) ej
      have htk : ys.take (i + 1) = ys.take i ++ [ys[i]] := by rw [List.take_add_one, List.getElem?_eq_getElem hi]; rfl
      have hpl : ps.length ≤ 3 := by have := congrArg List.length hps; rw [List.length_map, List.length_take] at this; omega
      -- what is stored
      have put : ∀ (z : Int) (H2 : Hp), Ext H H2 → H2 d = some (.dK (kvI ps)) → 1 ≤ z → z ≤ g →
          ∃ ps', (upd H2 d (.dK (putK (kvI ps) (.inr ys[i]) (.int z)))) d = some (.dK (kvI ps')) ∧ ps'.map (·.1) = ys.take (i + 1) ∧ (∀ q ∈ ps', 1 ≤ q.2 ∧ q.2 ≤ g) := by
        intro z H2 e2 h2 z1 z3
        refine ⟨ps ++ [(ys[i], z)], ?_, ?_, ?_⟩
        · rw [upd_same, putK_new (kvI_none hni)]
          unfold kvI
          rw [List.map_append]
          rfl
        · rw [List.map_append, hps, htk]
          rfl
        · intro q hq
          rcases List.mem_append.mp hq with h | h
          · exact hb q h
          · rw [List.mem_singleton.mp h]; exact ⟨z1, z3⟩
      refine ⟨_, rfl, an, _, rfl, .inl (SqL.of (e _ _ hN)), _, _, rfl, rfl, _, rfl, ?_⟩
      refine ite2 (fun _ => ?_) (fun _ => ?_)
      · obtain ⟨ps', g1', g2, g3⟩ := put 1 H1 e hd1 (by decide) hg1
        exact ⟨_, rfl, _, rfl, d, _, rfl, DPut.k (k := Sum.inr ys[i]) hd1 (by unfold kvI; rw [List.length_map]; exact Nat.lt_of_le_of_lt hpl (by decide)), _, ps', rfl, Ext.mut e hd, g1', g2, g3⟩
      · refine ⟨_, rfl, _, rfl, p, g, rfl, hB.up e, by omega, by omega, fun r r0 r1 => ?_⟩
        obtain ⟨ps', g1', g2, g3⟩ := put (1 + r) H1 e hd1 (by omega) (by omega)
        exact ⟨_, _, rfl, rfl, _, rfl, _, rfl, d, _, rfl, DPut.k (k := Sum.inr ys[i]) hd1 (by unfold kvI; rw [List.length_map]; exact Nat.lt_of_le_of_lt hpl (by decide)), _, ps', rfl, Ext.mut e hd, g1', g2, g3⟩
    · rintro σ H' ⟨v4, ps, rfl, e, hd1, hps, hb⟩
      rw [ml, List.take_length] at hps
      exact ⟨_, rfl, q d H' ps hd e hd1 hps hb⟩
end
end K70

set_option Elab.async false
set_option linter.all false
set_option maxRecDepth 100000
set_option maxHeartbeats 4000000
namespace K70
open PySem PySem.Spec PyProof.Rows L2 Ol RZ
open TL (tl)
def words4 : List Str := ["close", "ended", "send", "take"]
theorem DqAll_snoc {H : Hp} : ∀ {xs : List V} {ds : List PyData} {v : V} {d : PyData}, DqAll H xs ds → Dq H v d → DqAll H (xs ++ [v]) (ds ++ [d])
  | _, _, _, _, .nil, h => .cons h .nil
  | _, _, _, _, .cons a t, h => .cons a (DqAll_snoc t h)
section
variable {P : Program} {w : World} {K : PySem.W.Frag} {mg : Str → Option Value} {base : Heap}
def wordsV : List V := [.str "close", .str "ended", .str "send", .str "take"]
theorem inV_words (x : Str) : inV (.str x) wordsV = isWordS x := by
  show ((("close" : Str) == x) || ((("ended" : Str) == x) || ((("send" : Str) == x) || ((("take" : Str) == x) || false)))) = isWordS x
  unfold isWordS
  rw [Bool.eq_iff_iff]
  simp only [Bool.or_eq_true, beq_iff_eq, decide_eq_true_eq, Bool.or_false]
  constructor
  · rintro (h | h | h | h)
    · exact Or.inl h.symm
    · exact Or.inr (Or.inl h.symm)
    · exact Or.inr (Or.inr (Or.inl h.symm))
    · exact Or.inr (Or.inr (Or.inr h.symm))
  · rintro (h | h | h | h)
    · exact Or.inl h.symm
    · exact Or.inr (Or.inl h.symm)
    · exact Or.inr (Or.inr (Or.inl h.symm))
    · exact Or.inr (Or.inr (Or.inr h.symm))
theorem kS_no {d : PyData} (h : ¬ kS d = true) : isWordD d = false ∧ isElseD d = false ∧ isNameD d = false := by
  cases d with
  | str x => exact absurd rfl h
  | _ => exact ⟨rfl, rfl, rfl⟩

abbrev s_is_word : Stmt := (topS 9)
theorem sc_is_word : FnScope ["thing"] ["thing"] (defScope s_is_word) := ⟨rfl, rfl, rfl, by decide +kernel, rfl, by decide +kernel, by decide +kernel⟩
theorem ok_is_word {f : Addr} {fd : FuncData} (F : Fun K "is_word" "is_word" s_is_word f fd) (T : BT mg) {aW : Addr} (gW : mg "WORDS" = some (.ref aW)) (hW : ∀ H, SqT K H aW wordsV) :
    FnOk P w K mg base CX0 1 f fd ["thing"] (spPred Any isWordD) := by
  refine F.ok sc_is_word (fun vs H Q E h => ?_) (fun cdv A outer s H vs Q E hr h => ?_)
  · obtain ⟨v, d, rfl, _⟩ := h
    rfl
  · obtain ⟨v, d, rfl, hd, hz, q⟩ := h
    have q' := q H (Ext.refl H)
    refine ⟨_, (pss_one (ps_ret (pe_and (pe_callB call_isi (by rfl) T.n_isinstance (by decide +kernel) (pa_cons (pv 0) (pa_cons (pe_bltn (v := .ty "str") (by rfl) T.n_str (by decide +kernel) rfl) pa_nil))) (pe_one (pe_cmpR op_in_seq (pv 0) (pe_glob (v := .ref aW) rfl gW rfl) (by rfl)))))), ?_⟩
    refine ⟨_, rfl, _, _, _, _, _, rfl, .ty "str", ty_of hd, ki_str d, _, rfl, ?_⟩
    refine ite2 (fun h => ?_) (fun h => ?_)
    · obtain ⟨x, rfl, rfl⟩ := dq_str hd h
      refine ⟨_, rfl, aW, _, rfl, .inr (hW _), rfl, by decide +kernel, ?_⟩
      have e : (if false = true then !inV (.str x) wordsV else inV (.str x) wordsV) = isWordD (.str x) := by
        rw [if_neg Bool.false_ne_true, inV_words]
        rfl
      rw [e]
      exact q'
    · rw [(kS_no h).1] at q'
      exact q'

abbrev s_is_arm : Stmt := (topS 11)
theorem sc_is_arm : FnScope ["thing"] ["thing"] (defScope s_is_arm) := ⟨rfl, rfl, rfl, by decide +kernel, rfl, by decide +kernel, by decide +kernel⟩
theorem kT_not {d : PyData} (h : (!kT d) = true) : isArmD d = false := by
  cases d with
  | tuple ds => cases h
  | _ => rfl
theorem kT_yes {d : PyData} (h : ¬ (!kT d) = true) : kT d = true := by
  cases e : kT d with
  | true => rfl
  | false => rw [e] at h; exact absurd rfl h
theorem isArm_len {ds : List PyData} (h2 : ds.length ≠ 2) (h3 : ds.length ≠ 3) : isArmD (.tuple ds) = false := by
  match ds, h2, h3 with
  | [], _, _ => rfl
  | [_], _, _ => rfl
  | [_, _], h, _ => exact absurd rfl h
  | [_, _, _], _, h => exact absurd rfl h
  | _ :: _ :: _ :: _ :: _, _, _ => rfl
theorem two_of {H : Hp} {xs : List V} {ds : List PyData} (t : DqAll H xs ds) (h : xs.length = 2) : ∃ v0 v1 d0 d1, xs = [v0, v1] ∧ ds = [d0, d1] ∧ Dq H v0 d0 ∧ Dq H v1 d1 := by
  cases t with
  | nil => cases h
  | cons a t => cases t with
    | nil => cases h
    | cons b t => cases t with
      | nil => exact ⟨_, _, _, _, rfl, rfl, a, b⟩
      | cons c t => simp at h
theorem three_of {H : Hp} {xs : List V} {ds : List PyData} (t : DqAll H xs ds) (h : xs.length = 3) : ∃ v0 v1 v2 d0 d1 d2, xs = [v0, v1, v2] ∧ ds = [d0, d1, d2] ∧ Dq H v0 d0 ∧ Dq H v1 d1 ∧ Dq H v2 d2 := by
  cases t with
  | nil => cases h
  | cons a t => cases t with
    | nil => cases h
    | cons b t => cases t with
      | nil => cases h
      | cons c t => cases t with
        | nil => exact ⟨_, _, _, _, _, _, rfl, rfl, a, b, c⟩
        | cons e t => simp at h
theorem ok_is_arm {f : Addr} {fd : FuncData} (F : Fun K "is_arm" "is_arm" s_is_arm f fd) (T : BT mg)
    (C2 : Ca P w K mg base 2 "is_number" ["thing"] (spPred Any isNumD)) (C3 : Ca P w K mg base 1 "is_name" ["thing"] (spPred Ok1 isNameD)) (C4 : Ca P w K mg base 1 "is_word" ["thing"] (spPred Any isWordD)) :
    FnOk P w K mg base CX0 3 f fd ["thing"] (spPred OkT isArmD) := by
  refine F.ok sc_is_arm (fun vs H Q E h => ?_) (fun cdv A outer s H vs Q E hr h => ?_)
  · obtain ⟨v, d, rfl, _⟩ := h
    rfl
  · obtain ⟨v, d, rfl, hd, hz, q⟩ := h
    refine ⟨_, (pss_cons (ps_if (pt_not (pt_val (pe_callB call_isi (by rfl) T.n_isinstance (by decide +kernel) (pa_cons (pv 0) (pa_cons (pe_bltn (v := .ty "tuple") (by rfl) T.n_tuple (by decide +kernel) rfl) pa_nil)))))
      (pss_one (ps_ret pe_bl))
      pss_nil)
    (pss_cons (ps_if (pt_cmpR op_eq (pe_callB call_len_seq (by rfl) T.n_len (by decide +kernel) (pa_cons (pv 0) pa_nil)) pe_int (nomark _))
      (pss_one (ps_ret (pe_and (pe_callB call_isi (by rfl) T.n_isinstance (by decide +kernel) (pa_cons (pe_ix ix_tup (pv 0) pe_int (fun _ _ => rfl)) (pa_cons (pe_bltn (v := .ty "str") (by rfl) T.n_str (by decide +kernel) rfl) pa_nil))) (pe_and (pe_cmpR op_eq (pe_ix ix_tup (pv 0) pe_int (fun _ _ => rfl)) pe_str (nomark _)) (pe_one (pe_ca C2 (hr.mono (by decide)) (by rfl) (pa_cons (pe_ix ix_tup (pv 0) pe_int (fun _ _ => rfl)) pa_nil)))))))
      pss_nil)
    (pss_one (ps_ret (pe_and (pe_cmpR op_eq (pe_callB call_len_seq (by rfl) T.n_len (by decide +kernel) (pa_cons (pv 0) pa_nil)) pe_int (nomark _)) (pe_and (pe_ca C4 (hr.mono (by decide)) (by rfl) (pa_cons (pe_ix ix_tup (pv 0) pe_int (fun _ _ => rfl)) pa_nil)) (pe_and (pe_ca C3 (hr.mono (by decide)) (by rfl) (pa_cons (pe_ix ix_tup (pv 0) pe_int (fun _ _ => rfl)) pa_nil)) (pe_one (pe_ca C2 (hr.mono (by decide)) (by rfl) (pa_cons (pe_ix ix_tup (pv 0) pe_int (fun _ _ => rfl)) pa_nil)))))))))), ?_⟩
    refine ⟨_, rfl, _, _, _, _, _, rfl, .ty "tuple", ty_of hd, ki_tuple d, _, rfl, ?_⟩
    refine ite2 (fun h => ?_) (fun h => ?_)
    · have q' := q H (Ext.refl H)
      rw [kT_not h] at q'
      exact q'
    · obtain ⟨a, xs, ds, rfl, rfl, ha, t⟩ := dq_tup hd (kT_yes h)
      have sa : ∀ {H1}, Ext H H1 → SqT K H1 a xs := fun e => SqT.of (e _ _ ha)
      have hl := t.len
      refine ⟨_, rfl, a, _, rfl, .inr (SqT.of ha), rfl, _, rfl, ?_⟩
      refine ite2 (fun h2 => ?_) (fun h2 => ?_)
      · have h2' : xs.length = 2 := by
          have z := of_decide_eq_true h2
          injection z with z
          omega
        obtain ⟨v0, v1, d0, d1, rfl, rfl, t0, t1⟩ := two_of t h2'
        have ea : isArmD (.tuple [d0, d1]) = (isElseD d0 && isNumD d1) := rfl
        rw [ea] at q
        refine ⟨_, rfl, a, _, _, _, rfl, rfl, SqT.of ha, rfl, _, _, _, _, _, rfl, .ty "str", ty_of t0, ki_str d0, _, rfl, ?_⟩
        refine ite2 (fun h0 => ?_) (fun h0 => ?_)
        · obtain ⟨x, rfl, rfl⟩ := dq_str t0 h0
          refine ⟨_, rfl, a, _, _, _, rfl, rfl, SqT.of ha, rfl, rfl, _, rfl, ?_⟩
          refine ite2 (fun h1 => ?_) (fun h1 => ?_)
          · refine ⟨_, rfl, a, _, _, _, rfl, rfl, SqT.of ha, rfl, v1, d1, rfl, t1, trivial, fun H1 e1 => ?_⟩
            have z := q H1 e1
            have e0 : isElseD (.str x) = true := by
              have z := of_decide_eq_true h1
              injection z with z
              exact decide_eq_true z
            rw [e0, Bool.true_and] at z
            exact z
          · have z := q H (Ext.refl H)
            have e0 : isElseD (.str x) = false := decide_eq_false fun z => h1 (decide_eq_true (by rw [z]))
            rw [e0, Bool.false_and] at z
            exact z
        · have z := q H (Ext.refl H)
          rw [(kS_no h0).2.1, Bool.false_and] at z
          exact z
      · have h2' : xs.length ≠ 2 := fun z => h2 (decide_eq_true (by rw [z]; rfl))
        refine ⟨_, rfl, a, _, rfl, .inr (SqT.of ha), rfl, _, rfl, ?_⟩
        refine ite2 (fun h3 => ?_) (fun h3 => ?_)
        · have h3' : xs.length = 3 := by
            have z := of_decide_eq_true h3
            injection z with z
            omega
          obtain ⟨v0, v1, v2, d0, d1, d2, rfl, rfl, t0, t1, t2⟩ := three_of t h3'
          have ea : isArmD (.tuple [d0, d1, d2]) = (isWordD d0 && (isNameD d1 && isNumD d2)) := rfl
          rw [ea] at q
          refine ⟨_, rfl, a, _, _, _, rfl, rfl, SqT.of ha, rfl, v0, d0, rfl, t0, trivial, fun H1 e1 => ⟨_, rfl, ?_⟩⟩
          refine ite2 (fun g0 => ?_) (fun g0 => ?_)
          · rw [g0, Bool.true_and] at q
            refine ⟨_, rfl, a, _, _, _, rfl, rfl, sa e1, rfl, v1, d1, rfl, t1.up e1, hz _ _ rfl (by simp), fun H2 e2 => ⟨_, rfl, ?_⟩⟩
            refine ite2 (fun g1 => ?_) (fun g1 => ?_)
            · rw [g1, Bool.true_and] at q
              refine ⟨_, rfl, a, _, _, _, rfl, rfl, sa (e1.trans e2), rfl, v2, d2, rfl, t2.up (e1.trans e2), trivial, fun H3 e3 => ?_⟩
              exact q H3 ((e1.trans e2).trans e3)
            · have z := q H2 (e1.trans e2)
              rw [Bool.eq_false_iff.mpr g1, Bool.false_and] at z
              exact z
          · have z := q H1 e1
            rw [Bool.eq_false_iff.mpr g0, Bool.false_and] at z
            exact z
        · have h3' : xs.length ≠ 3 := fun z => h3 (decide_eq_true (by rw [z]; rfl))
          have z := q H (Ext.refl H)
          rw [isArm_len (by omega) (by omega)] at z
          exact z
end
end K70

set_option Elab.async false
set_option linter.all false
set_option maxRecDepth 100000
set_option maxHeartbeats 4000000
namespace Ol
open PySem PySem.Spec PyProof.Rows L2

theorem lt_anti : ∀ a b : List Nat, ltCps a b = false → ltCps b a = false → a = b
  | [], [], _, _ => rfl
  | [], _ :: _, h, _ => by cases h
  | _ :: _, [], _, h => by cases h
  | a :: r, b :: t, h1, h2 => by
    unfold ltCps at h1 h2
    simp only [Bool.or_eq_false_iff, decide_eq_false_iff_not, Bool.and_eq_false_iff, beq_eq_false_iff_ne] at h1 h2
    have e : a = b := by omega
    subst e
    have r1 : ltCps r t = false := h1.2.resolve_left (fun z => z rfl)
    have r2 : ltCps t r = false := h2.2.resolve_left (fun z => z rfl)
    rw [lt_anti r t r1 r2]
theorem lt_trans : ∀ x y z : List Nat, ltCps y x = false → ltCps z y = false → ltCps z x = false
  | [], _, [], _, _ => rfl
  | [], _, _ :: _, _, _ => rfl
  | _ :: _, [], _, h, _ => by cases h
  | _ :: _, _ :: _, [], _, h => by cases h
  | c :: r, b :: t, d :: u, h1, h2 => by
    unfold ltCps at h1 h2 ⊢
    simp only [Bool.or_eq_false_iff, decide_eq_false_iff_not, Bool.and_eq_false_iff, beq_eq_false_iff_ne] at h1 h2 ⊢
    refine ⟨by omega, ?_⟩
    by_cases e : d = c
    · right
      have e1 : b = c := by omega
      have e2 : d = b := by omega
      exact lt_trans r t u (h1.2.resolve_left (fun z => z e1)) (h2.2.resolve_left (fun z => z e2))
    · exact .inl e
theorem rising_pw : ∀ (p : Str) (l : List Str), risingS p l = true → (p :: l).Pairwise (fun a b => ltCps b.cps.toList a.cps.toList = false)
  | p, [], _ => by simp
  | p, x :: r, h => by
    unfold risingS at h
    rw [Bool.and_eq_true, Bool.not_eq_true'] at h
    have ih := rising_pw x r h.2
    refine List.pairwise_cons.mpr ⟨fun y hy => ?_, ih⟩
    rcases List.mem_cons.mp hy with rfl | hy
    · exact h.1
    · exact lt_trans _ _ _ h.1 (List.rel_of_pairwise_cons ih hy)
theorem sorted_pw : ∀ l : List Str, sortedS l = true → l.Pairwise (fun a b => ltCps b.cps.toList a.cps.toList = false)
  | [], _ => .nil
  | x :: r, h => rising_pw x r h
theorem sorted_one {xs ys : List Str} (h1 : sortedS xs = true) (h2 : sortedS ys = true) (hp : xs.Perm ys) : xs = ys :=
  List.Perm.eq_of_pairwise (fun a b _ _ q1 q2 => by
    have e : a.cps.toList = b.cps.toList := lt_anti _ _ q2 q1
    cases a with | mk a => cases b with | mk b => have e2 : a = b := Array.toList_inj.mp e; rw [e2]) (sorted_pw _ h1) (sorted_pw _ h2) hp

/-! ### data without dicts -/
mutual
inductive Nd : PyData → Prop
  | non : Nd .none
  | bl (b : Bool) : Nd (.bool b)
  | int (i : Int) : Nd (.int i)
  | str (x : Str) : Nd (.str x)
  | lst {ds : List PyData} : NdAll ds → Nd (.list ds)
  | tup {ds : List PyData} : NdAll ds → Nd (.tuple ds)
inductive NdAll : List PyData → Prop
  | nil : NdAll []
  | cons {d : PyData} {ds : List PyData} : Nd d → NdAll ds → NdAll (d :: ds)
end
theorem NdAll.of : ∀ {ds : List PyData}, (∀ d ∈ ds, Nd d) → NdAll ds
  | [], _ => .nil
  | d :: ds, h => .cons (h d List.mem_cons_self) (NdAll.of fun e he => h e (List.mem_cons_of_mem _ he))
mutual
theorem Dq.off {H : Hp} {p : Addr} {kv : List (Key × V)} (hp : H p = some (.dK kv)) : ∀ {v : V} {d : PyData}, Dq H v d → Nd d → Dq (del H p) v d
  | _, _, .non, _ => .non
  | _, _, .bl b, _ => .bl b
  | _, _, .int i, _ => .int i
  | _, _, .str x, _ => .str x
  | _, _, .lst h t, n => .lst (by rw [del_ne (fun z => by rw [z, hp] at h; cases h)]; exact h) (DqAll.off hp t (by cases n; assumption))
  | _, _, .tup h t, n => .tup (by rw [del_ne (fun z => by rw [z, hp] at h; cases h)]; exact h) (DqAll.off hp t (by cases n; assumption))
  | _, _, .dct h t, n => by cases n
theorem DqAll.off {H : Hp} {p : Addr} {kv : List (Key × V)} (hp : H p = some (.dK kv)) : ∀ {vs : List V} {ds : List PyData}, DqAll H vs ds → NdAll ds → DqAll (del H p) vs ds
  | _, _, .nil, _ => .nil
  | _, _, .cons h t, n => .cons (Dq.off hp h (by cases n; assumption)) (DqAll.off hp t (by cases n; assumption))
end
end Ol

set_option Elab.async false
set_option linter.all false
set_option maxRecDepth 100000
set_option maxHeartbeats 4000000
namespace Ol
open PySem PySem.Spec PyProof.Rows L2
/-- data not in a list of data -/
def rNotInQ : R2 := fun x y H Q => ∃ d ds, Sys H ∧ Dq H x d ∧ Dq H y (.list ds) ∧ SeqAt.shaped d = true ∧ SeqAt.shaped (.list ds) = true ∧ Q (.bl (!ds.any fun z => PyData.eqv z d)) H
theorem op_notInQ {X : Cx} (hu : X.A.units + 65 < cLine) : OpR X (compareOp .NotIn) rNotInQ := by
  intro pins s σ H x y v u Q I rx ry h
  obtain ⟨d, ds, S, hd, he, sd, se, q⟩ := h
  obtain ⟨as, r1, _⟩ := Dq.reads I S hd rx
  obtain ⟨bs, r2, _⟩ := Dq.reads I S he ry
  exact SeqAt.notIn_list_reads r2 r1 (SeqAt.canLay_of_shaped se) (SeqAt.canLay_of_shaped sd) (room_in_shaped sd hu) ⟨.bl _, H, I, rfl, q⟩
end Ol

set_option Elab.async false
set_option linter.all false
set_option maxRecDepth 100000
set_option maxHeartbeats 4000000
namespace K70
open PySem PySem.Spec PyProof.Rows L2 Ol RZ
open TL (tl)
/-! ### sizes -/
theorem nd_st (c : Nat) (b : Bool) : Nd (stD c b) := .tup (.cons (.int _) (.cons (.bl _) .nil))
theorem nd_ct (cs : List (Nat × Bool)) : Nd (ctD cs) := .tup (NdAll.of fun d hd => by
  obtain ⟨s, _, rfl⟩ := List.mem_map.mp hd
  exact nd_st _ _)
theorem nd_all (f : List (List (Nat × Bool))) : Nd (.list (f.map ctD)) := .lst (NdAll.of fun d hd => by
  obtain ⟨s, _, rfl⟩ := List.mem_map.mp hd
  exact nd_ct _)
theorem lay_all : ∀ {ds : List PyData}, (∀ d ∈ ds, d.canLay0 = true) → PyData.canLayAll0 ds = true
  | [], _ => by simp [PyData.canLayAll0]
  | d :: ds, h => by simp [PyData.canLayAll0, h d List.mem_cons_self, lay_all fun e he => h e (List.mem_cons_of_mem _ he)]
theorem lay_shaped {d : PyData} (h : d.canLay0 = true) (hd : d.depth ≤ 64) : SeqAt.shaped d = true := by
  unfold SeqAt.shaped
  rw [h, decide_eq_true hd]
  rfl
theorem lay_st (c : Nat) (b : Bool) : (stD c b).canLay0 = true := by simp [stD, PyData.canLay0, PyData.canLayAll0]
theorem lay_ct (cs : List (Nat × Bool)) : (ctD cs).canLay0 = true := by
  unfold ctD
  rw [PyData.canLay0]
  refine lay_all fun d hd => ?_
  obtain ⟨s, _, rfl⟩ := List.mem_map.mp hd
  exact lay_st _ _
theorem lay_cts (f : List (List (Nat × Bool))) : (PyData.list (f.map ctD)).canLay0 = true := by
  rw [PyData.canLay0]
  refine lay_all fun d hd => ?_
  obtain ⟨s, _, rfl⟩ := List.mem_map.mp hd
  exact lay_ct _
theorem gd_st (c : Nat) (b : Bool) (h : c ≤ 3) : Gd 1 (stD c b) := by
  refine gd_tuple (fun d hd => ?_) (by simp)
  simp only [List.mem_cons, List.not_mem_nil, or_false] at hd
  rcases hd with rfl | rfl
  · have : c = 0 ∨ c = 1 ∨ c = 2 ∨ c = 3 := by omega
    rcases this with rfl | rfl | rfl | rfl <;> exact gd_int _ (by decide +kernel) (by decide +kernel)
  · exact gd_bl b
theorem gd_ct (cs : List (Nat × Bool)) (hl : cs.length ≤ 3) (h : ∀ s ∈ cs, s.1 ≤ 3) : Gd 2 (ctD cs) := by
  refine gd_tuple (fun d hd => ?_) (by unfold ctL; rw [List.length_map]; omega)
  obtain ⟨s, hs, rfl⟩ := List.mem_map.mp hd
  exact gd_st _ _ (h s hs)
theorem fits_list {n : Nat} {ds : List PyData} (h : ∀ d ∈ ds, Gd n d) (hn : n ≤ 3) (h5 : ds.length ≤ 20) : Fits (.list ds) := by
  have h' : ∀ d ∈ ds, Gd 3 d := fun d hd => (h d hd).up hn
  obtain ⟨h1, h2, h3, h4⟩ := all_sh h'
  refine ⟨by simpa [PyData.showable] using h1, by simp only [PyData.depth]; omega, ?_⟩
  simp only [PyData.shown]
  have z := pile_le _ h3
  have z1 := listText_le (PyData.shownAll ds)
  rw [h4] at z
  have z2 : ds.length * (200 * 8 ^ 3 + 2) ≤ 20 * (200 * 8 ^ 3 + 2) := Nat.mul_le_mul_right _ h5
  exact Nat.le_trans (show _ ≤ 20 * (200 * 8 ^ 3 + 2) + 2 by omega) (by decide)
theorem name_gd {x : Str} (h : isNameS x = true) : Gd 0 (.str x) := by
  obtain ⟨h1, h2, h3⟩ := name_tl h
  exact gd_str x (by rw [tlen]; omega) fun c hc => abc_low c (h3 c hc)
theorem word_gd : ∀ x ∈ words4, Gd 0 (.str x) := fun x hx => by
  unfold words4 at hx
  simp only [List.mem_cons, List.not_mem_nil, or_false] at hx
  rcases hx with rfl | rfl | rfl | rfl <;> exact gd_str _ (by decide +kernel) (by decide +kernel)
theorem name_ok {x : Str} (h : isNameS x = true) : PyData.strOk x = true := by
  obtain ⟨h1, h2, h3⟩ := name_tl h
  unfold PyData.strOk
  rw [Array.all_eq_true_iff_forall_mem]
  intro c hc
  have hc' : c ∈ tl x := Array.mem_toList_iff.mpr hc
  exact decide_eq_true (Nat.lt_of_lt_of_le (abc_low c (h3 c hc')) (by decide))
theorem word_ok : ∀ x ∈ words4, PyData.strOk x = true := by decide +kernel
/-! ### what an arm does, by counting -/
def addW (word : Str) : Int := if word = "send" then 1 else if word = "take" then -1 else 0
theorem beh_counts {word : Str} {c : Nat} {b : Bool} {bd : Int} {s' : Nat × Bool} (hc : (c : Int) ≤ bd) (h : beh word c b bd = some s') :
    ((s'.1 : Nat) : Int) = (c : Int) + addW word ∧ s'.2 = (b || decide (word = "close")) ∧ (s'.1 : Int) ≤ bd := by
  unfold beh at h
  split at h
  · rename_i g
    obtain ⟨rfl, rfl, g3⟩ := g
    cases h
    refine ⟨by unfold addW; rw [if_pos rfl]; omega, by rw [decide_eq_false (by decide +kernel)]; rfl, by omega⟩
  · rename_i g0
    unfold beh2 at h
    split at h
    · rename_i g
      obtain ⟨rfl, g2⟩ := g
      cases h
      refine ⟨?_, ?_, by show ((c - 1 : Nat) : Int) ≤ bd; omega⟩
      · unfold addW
        rw [if_neg (by decide +kernel), if_pos rfl]
        show ((c - 1 : Nat) : Int) = _
        omega
      · rw [decide_eq_false (by decide +kernel), Bool.or_false]
    · rename_i g1
      unfold beh3 at h
      split at h
      · rename_i g
        obtain ⟨rfl, rfl, rfl⟩ := g
        cases h
        refine ⟨?_, by rfl, by omega⟩
        unfold addW
        rw [if_neg (by decide +kernel), if_neg (by decide +kernel)]
        omega
      · unfold beh4 at h
        split at h
        · rename_i g
          obtain ⟨rfl, rfl⟩ := g
          cases h
          refine ⟨?_, by rw [decide_eq_true rfl]; rfl, by omega⟩
          unfold addW
          rw [if_neg (by decide +kernel), if_neg (by decide +kernel)]
          omega
        · cases h
theorem ix_get {ns : List Str} (j : Nat) (hj : j < ns.length) : (ns.map V.str)[j]? = some (.str ns[j]) := by
  rw [List.getElem?_map, List.getElem?_eq_getElem hj]
  rfl
end K70

set_option Elab.async false
set_option linter.all false
set_option maxRecDepth 100000
set_option maxHeartbeats 4000000
namespace K70
open PySem PySem.Spec PyProof.Rows L2 Ol RZ
open TL (tl)
/-! ### arms and places -/
abbrev Arm := Option (Str × Str) × Nat
def armD : Arm → PyData
  | (some (w, l), g) => .tuple [.str w, .str l, .int g]
  | (none, g) => .tuple [.str "else", .int g]
def GArm (a : Arm) : Prop := match a.1 with
  | some (w, l) => w ∈ words4 ∧ isNameS l = true
  | none => True
abbrev Place := Str × List Arm
def placeD (p : Place) : PyData := .tuple [.str p.1, .tuple (p.2.map armD)]
/-- places of a program with n of them -/
structure GPlace (n : Nat) (p : Place) : Prop where
  mode : p.1 = "first" ∨ p.1 = "any"
  arms : ∀ a ∈ p.2, GArm a ∧ a.2 < n
  els : (p.2.filter fun a => a.1.isNone).length ≤ 1
  few : p.2.length ≤ 20
theorem isArm_of {a : Arm} (h : GArm a) : isArmD (armD a) = true ∧ OkT (armD a) := by
  obtain ⟨o, g⟩ := a
  cases o with
  | none =>
    refine ⟨?_, fun ds e he hm => ?_⟩
    · show (isElseD (.str "else") && isNumD (.int (g : Int))) = true
      have : (0 : Int) ≤ (g : Int) := by omega
      simp [isElseD, isNumD, this]
    · cases he
      simp only [List.mem_cons, List.not_mem_nil, or_false] at hm
      rcases hm with rfl | rfl
      · exact fun y hy => by cases hy; exact ⟨by decide +kernel, by decide +kernel⟩
      · exact nope1 rfl
  | some p =>
    obtain ⟨w, l⟩ := p
    have h' : w ∈ words4 ∧ isNameS l = true := h
    have hw : isWordS w = true := by
      unfold isWordS
      have := h'.1
      unfold words4 at this
      simp only [List.mem_cons, List.not_mem_nil, or_false] at this
      exact decide_eq_true this
    refine ⟨?_, fun ds e he hm => ?_⟩
    · show (isWordD (.str w) && (isNameD (.str l) && isNumD (.int (g : Int)))) = true
      have : (0 : Int) ≤ (g : Int) := by omega
      have e1 : isWordD (.str w) = true := hw
      have e2 : isNameD (.str l) = true := h'.2
      rw [e1, e2]
      simp [isNumD, this]
    · cases he
      simp only [List.mem_cons, List.not_mem_nil, or_false] at hm
      rcases hm with rfl | rfl | rfl
      · exact fun y hy => by
          cases hy
          have := h'.1
          unfold words4 at this
          simp only [List.mem_cons, List.not_mem_nil, or_false] at this
          rcases this with rfl | rfl | rfl | rfl <;> exact ⟨by decide +kernel, by decide +kernel⟩
      · exact fun y hy => by cases hy; exact name_tx h'.2
      · exact nope1 rfl
section
variable {P : Program} {w : World} {K : PySem.W.Frag} {mg : Str → Option Value} {base : Heap} {C : Addr}
/-! ### is_mode -/
def modesV : List V := [.str "any", .str "first"]
def spGood (G : PyData → Prop) : Sp := fun vs H Q _ => ∃ (v : V) (d : PyData), vs = [v] ∧ Dq H v d ∧ G d ∧ ∀ H', Ext H H' → Q (.bl true) H'
abbrev s_mode : Stmt := (topS 10)
theorem sc_mode : FnScope ["thing"] ["thing"] (defScope s_mode) := ⟨rfl, rfl, rfl, by decide +kernel, rfl, by decide +kernel, by decide +kernel⟩
theorem ok_mode {f : Addr} {fd : FuncData} (F : Fun K "is_mode" "is_mode" s_mode f fd) (T : BT mg) {aM : Addr} (gM : mg "MODES" = some (.ref aM)) (hM : ∀ H, SqT K H aM modesV) :
    FnOk P w K mg base CX0 1 f fd ["thing"] (spGood fun d => d = .str "first" ∨ d = .str "any") := by
  refine F.ok sc_mode (fun vs H Q E h => ?_) (fun cdv A outer s H vs Q E hr h => ?_)
  · obtain ⟨v, d, rfl, _⟩ := h
    rfl
  · obtain ⟨v, d, rfl, hd, hg, q⟩ := h
    refine ⟨_, (pss_one (ps_ret (pe_and (pe_callB call_isi (by rfl) T.n_isinstance (by decide +kernel) (pa_cons (pv 0) (pa_cons (pe_bltn (v := .ty "str") (by rfl) T.n_str (by decide +kernel) rfl) pa_nil))) (pe_one (pe_cmpR op_in_seq (pv 0) (pe_glob (v := .ref aM) rfl gM rfl) (by rfl)))))), ?_⟩
    refine ⟨_, rfl, _, _, _, _, _, rfl, .ty "str", ty_of hd, ki_str d, _, rfl, ?_⟩
    have ks : kS d = true := by rcases hg with rfl | rfl <;> rfl
    rw [ks]
    refine iteT ?_
    obtain ⟨x, rfl, rfl⟩ := dq_str hd ks
    refine ⟨_, rfl, aM, _, rfl, .inr (hM _), rfl, by decide +kernel, ?_⟩
    have e : (if false = true then !inV (.str x) modesV else inV (.str x) modesV) = true := by
      rw [if_neg Bool.false_ne_true]
      rcases hg with z | z <;> cases z <;> decide +kernel
    rw [e]
    exact q _ (Ext.refl _)
/-! ### is_row_of -/
def spRow (G : PyData → Prop) (fN : Addr) : Sp := fun vs H Q _ => ∃ (a : Addr) (xs : List V) (ds : List PyData), vs = [.ref a, .ref fN] ∧ (H a = some (.lst xs) ∨ H a = some (.tup xs)) ∧ DqAll H xs ds ∧ (∀ d ∈ ds, G d) ∧ ds.length ≤ 60 ∧ ∀ H', Ext H H' → Q (.bl true) H'
abbrev s_row : Stmt := (topS 12)
theorem sc_row : FnScope ["thing", "is_part", "part"] ["thing", "is_part"] (defScope s_row) := ⟨rfl, rfl, rfl, by decide +kernel, rfl, by decide +kernel, by decide +kernel⟩
theorem kit_lt : PySem.W.kitAny K (.type "list") [.type "list", .type "tuple"] = some true :=
  kitAny_cons (kit_ty (by decide +kernel : kitB "list" "list" = some true)) (fun z => Bool.noConfusion z) (fun _ => rfl)
theorem kit_tt : PySem.W.kitAny K (.type "tuple") [.type "list", .type "tuple"] = some true :=
  kitAny_cons (kit_ty (by decide +kernel : kitB "tuple" "list" = some false)) (fun _ => kitAny_cons (kit_ty (by decide +kernel : kitB "tuple" "tuple" = some true)) (fun z => Bool.noConfusion z) (fun _ => rfl)) (fun z => Bool.noConfusion z)
theorem ok_row {G : PyData → Prop} {k : Nat} {f fN : Addr} {fd fdN : FuncData} (F : Fun K "is_row_of" "is_row_of" s_row f fd) (T : BT mg)
    (FN : FnOk P w K mg base CX0 k fN fdN ["thing"] (spGood G)) (kN : PySem.W.keepIn K (.ref fN) = true) (bN : Binds K fdN ["thing"] []) :
    FnOk P w K mg base CX0 (k + 1) f fd ["thing", "is_part"] (spRow G fN) := by
  refine F.ok sc_row (fun vs H Q E h => ?_) (fun cdv A outer s H vs Q E hr h => ?_)
  · obtain ⟨a, xs, ds, rfl, _⟩ := h
    rfl
  · obtain ⟨a, xs, ds, rfl, ha, hx, hg, hl, q⟩ := h
    have lx : xs.length = ds.length := hx.len
    rcases ha with ha | ha
    · refine ⟨_, (pss_one (ps_ret (pe_and (pe_callB call_isiT (by rfl) T.n_isinstance (by decide +kernel) (pa_cons (pv 0) (pa_cons (pe_tup (pa_cons (pe_bltn (v := .ty "list") (by rfl) T.n_list (by decide +kernel) rfl) (pa_cons (pe_bltn (v := .ty "tuple") (by rfl) T.n_tuple (by decide +kernel) rfl) pa_nil))) pa_nil)))
        (pe_one (pe_callB (cr_all rfl) (by rfl) T.n_all (by decide +kernel) (pa_cons (pe_lc (own := [("part", 2)]) (g := gName 2) (tt := tYes) rfl sc_row.nd (pi_list (pv 0)) (blkOk_by (N := ["thing", "is_part", "part"]) (sc := defScope s_row) (by decide +kernel)) (fun _ _ _ _ _ => pg_name (i := 2) sc_row.nd rfl (.inl rfl)) (fun _ _ _ _ _ => pts_nil)
          (fun _ _ _ _ _ => pe_callL (i := 1) FN (hr.mono (by omega)) rfl (by first | exact .inl rfl | exact .inr (.inl rfl) | exact .inr (.inr rfl)) kN bN .nil pass0 (pa_cons (pv 2) pa_nil))) pa_nil)))))), ?_⟩
      refine ⟨_, rfl, by show 2 ≤ sizeLine; decide, fun tp htp => ?_⟩
      have e1 := Ext.new (o := .tup [.ty "list", .ty "tuple"]) htp
      refine ⟨_, tp, _, _, _, true, rfl, upd_same, .cons (.ty _) (.cons (.ty _) .nil), .base (.lst (e1 _ _ ha)), kit_lt, _, rfl, ?_⟩
      refine iteT ?_
      have ha1 := e1 _ _ ha
      refine ⟨_, rfl, a, rfl, ⟨_, SqL.of ha1⟩, fun D hD => ?_⟩
      refine lc1_acc (walk_list (xs := xs)) (fun i ys _ => ys = List.replicate i (V.bl true) ∧ i ≤ 60) (fun _ _ _ _ _ h => h) ⟨rfl, by decide⟩ hD (fun i ys _ h => by rw [h.1, List.length_replicate]; exact Nat.lt_of_le_of_lt h.2 (by decide)) (fun H' e => SqL.of (e _ _ ha1)) ?_ ?_
      · rintro i x Hi H' ys hi e hy ⟨rfl, hxi⟩ ⟨hp, _⟩ QY QN kY kN
        have hi2 : i < ds.length := by omega
        obtain ⟨x', hx', dx⟩ := DqAll_get hx i ds[i] (List.getElem?_eq_getElem hi2)
        rw [hxi] at hx'
        cases hx'
        refine ⟨rfl, ?_⟩
        refine tyes ?_
        refine ⟨rfl, _, rfl, x, ds[i], rfl, dx.up (e1.trans e), hg _ (List.getElem_mem hi2), fun H4 e4 => ?_⟩
        exact kY _ H4 e4 ⟨by rw [hp, List.replicate_succ'], by omega⟩
      · rintro H4 ys e4 hy ⟨hp, _⟩
        refine ⟨D, List.replicate xs.length true, rfl, SqL.of (by rw [hy, hp, List.map_replicate]), ?_⟩
        rw [show (List.replicate xs.length true).all id = true by simp]
        exact q _ (e1.trans e4)
    · refine ⟨_, (pss_one (ps_ret (pe_and (pe_callB call_isiT (by rfl) T.n_isinstance (by decide +kernel) (pa_cons (pv 0) (pa_cons (pe_tup (pa_cons (pe_bltn (v := .ty "list") (by rfl) T.n_list (by decide +kernel) rfl) (pa_cons (pe_bltn (v := .ty "tuple") (by rfl) T.n_tuple (by decide +kernel) rfl) pa_nil))) pa_nil)))
        (pe_one (pe_callB (cr_all rfl) (by rfl) T.n_all (by decide +kernel) (pa_cons (pe_lc (own := [("part", 2)]) (g := gName 2) (tt := tYes) rfl sc_row.nd (pi_tup (pv 0)) (blkOk_by (N := ["thing", "is_part", "part"]) (sc := defScope s_row) (by decide +kernel)) (fun _ _ _ _ _ => pg_name (i := 2) sc_row.nd rfl (.inl rfl)) (fun _ _ _ _ _ => pts_nil)
          (fun _ _ _ _ _ => pe_callL (i := 1) FN (hr.mono (by omega)) rfl (by first | exact .inl rfl | exact .inr (.inl rfl) | exact .inr (.inr rfl)) kN bN .nil pass0 (pa_cons (pv 2) pa_nil))) pa_nil)))))), ?_⟩
      refine ⟨_, rfl, by show 2 ≤ sizeLine; decide, fun tp htp => ?_⟩
      have e1 := Ext.new (o := .tup [.ty "list", .ty "tuple"]) htp
      refine ⟨_, tp, _, _, _, true, rfl, upd_same, .cons (.ty _) (.cons (.ty _) .nil), .base (.tup (e1 _ _ ha)), kit_tt, _, rfl, ?_⟩
      refine iteT ?_
      have ha1 := e1 _ _ ha
      refine ⟨_, rfl, a, rfl, ⟨_, SqT.of ha1⟩, fun D hD => ?_⟩
      refine lc1_acc (walk_tup (xs := xs)) (fun i ys _ => ys = List.replicate i (V.bl true) ∧ i ≤ 60) (fun _ _ _ _ _ h => h) ⟨rfl, by decide⟩ hD (fun i ys _ h => by rw [h.1, List.length_replicate]; exact Nat.lt_of_le_of_lt h.2 (by decide)) (fun H' e => SqT.of (e _ _ ha1)) ?_ ?_
      · rintro i x Hi H' ys hi e hy ⟨rfl, hxi⟩ ⟨hp, _⟩ QY QN kY kN
        have hi2 : i < ds.length := by omega
        obtain ⟨x', hx', dx⟩ := DqAll_get hx i ds[i] (List.getElem?_eq_getElem hi2)
        rw [hxi] at hx'
        cases hx'
        refine ⟨rfl, ?_⟩
        refine tyes ?_
        refine ⟨rfl, _, rfl, x, ds[i], rfl, dx.up (e1.trans e), hg _ (List.getElem_mem hi2), fun H4 e4 => ?_⟩
        exact kY _ H4 e4 ⟨by rw [hp, List.replicate_succ'], by omega⟩
      · rintro H4 ys e4 hy ⟨hp, _⟩
        refine ⟨D, List.replicate xs.length true, rfl, SqL.of (by rw [hy, hp, List.map_replicate]), ?_⟩
        rw [show (List.replicate xs.length true).all id = true by simp]
        exact q _ (e1.trans e4)
/-! ### is_place, is_else -/
abbrev GA : PyData → Prop := fun d => ∃ a, GArm a ∧ d = armD a
abbrev GP : PyData → Prop := fun d => ∃ n p, GPlace n p ∧ d = placeD p
abbrev s_place : Stmt := (topS 23)
theorem sc_place : FnScope ["thing"] ["thing"] (defScope s_place) := ⟨rfl, rfl, rfl, by decide +kernel, rfl, by decide +kernel, by decide +kernel⟩
theorem place_inv {H : Hp} {v : V} {p : Place} (h : Dq H v (placeD p)) : ∃ a t xs, v = .ref a ∧ H a = some (.tup [.str p.1, .ref t]) ∧ H t = some (.tup xs) ∧ DqAll H xs (p.2.map armD) := by
  obtain ⟨a, xs, ds, rfl, e, h1, h2⟩ := dq_tup h rfl
  unfold placeD at e
  cases e
  cases h2 with
  | cons a1 t1 => cases t1 with
    | cons a2 t2 =>
      cases t2
      cases a1
      obtain ⟨t, ys, es, rfl, e2, h3, h4⟩ := dq_tup a2 rfl
      cases e2
      exact ⟨a, t, ys, rfl, h1, h3, h4⟩
theorem ok_place {f fA : Addr} {fd : FuncData} (F : Fun K "is_place" "is_place" s_place f fd) (T : BT mg) (gA : mg "is_arm" = some (.ref fA))
    (CM : Ca P w K mg base 1 "is_mode" ["thing"] (spGood fun d => d = .str "first" ∨ d = .str "any")) (CR : Ca P w K mg base 4 "is_row_of" ["thing", "is_part"] (spRow GA fA)) :
    FnOk P w K mg base CX0 5 f fd ["thing"] (spGood GP) := by
  refine F.ok sc_place (fun vs H Q E h => ?_) (fun cdv A outer s H vs Q E hr h => ?_)
  · obtain ⟨v, d, rfl, _⟩ := h
    rfl
  · obtain ⟨v, d, rfl, hd, ⟨n, p, hp, rfl⟩, q⟩ := h
    obtain ⟨a, t, xs, rfl, ha, ht, hx⟩ := place_inv hd
    refine ⟨_, (pss_cons (ps_if (PW.pt (pw_or (pt_not (pt_val (pe_callB call_isiT (by rfl) T.n_isinstance (by decide +kernel) (pa_cons (pv 0) (pa_cons (pe_tup (pa_cons (pe_bltn (v := .ty "list") (by rfl) T.n_list (by decide +kernel) rfl) (pa_cons (pe_bltn (v := .ty "tuple") (by rfl) T.n_tuple (by decide +kernel) rfl) pa_nil))) pa_nil))))) (pw_or1 (pt_cmpR op_ne (pe_callB call_len_seq (by rfl) T.n_len (by decide +kernel) (pa_cons (pv 0) pa_nil)) pe_int (nomark _))))) (pss_one (ps_ret pe_bl)) pss_nil)
      (pss_one (ps_ret (pe_and (pe_ca CM (hr.mono (by decide)) (by rfl) (pa_cons (pe_ix ix_tup (pv 0) pe_int (fun _ _ => rfl)) pa_nil)) (pe_one (pe_ca CR (hr.mono (by decide)) (by rfl) (pa_cons (pe_ix ix_tup (pv 0) pe_int (fun _ _ => rfl)) (pa_cons (pe_glob (v := .ref fA) rfl gA rfl) pa_nil)))))))), ?_⟩
    refine ⟨_, rfl, by show 2 ≤ sizeLine; decide, fun tp htp => ?_⟩
    have e1 := Ext.new (o := .tup [.ty "list", .ty "tuple"]) htp
    refine ⟨_, tp, _, _, _, true, rfl, upd_same, .cons (.ty _) (.cons (.ty _) .nil), .base (.tup (e1 _ _ ha)), kit_tt, _, rfl, ?_⟩
    refine iteF ?_
    refine ⟨_, rfl, a, _, rfl, .inr (SqT.of (e1 _ _ ha)), rfl, _, rfl, ?_⟩
    refine iteF ?_
    refine ⟨_, rfl, a, _, _, _, rfl, rfl, SqT.of (e1 _ _ ha), rfl, _, _, rfl, .str _, ?_, fun H2 e2 => ⟨_, rfl, ?_⟩⟩
    · rcases hp.mode with z | z
      · exact .inl (by rw [z])
      · exact .inr (by rw [z])
    refine iteT ?_
    have e12 := e1.trans e2
    refine ⟨_, rfl, a, _, _, _, rfl, rfl, SqT.of (e12 _ _ ha), rfl, t, xs, p.2.map armD, rfl, .inr (e12 _ _ ht), DqAll.up e12 hx, fun d hd => ?_, by rw [List.length_map]; have := hp.few; omega, fun H3 e3 => q _ (e12.trans e3)⟩
    obtain ⟨b, hb, rfl⟩ := List.mem_map.mp hd
    exact ⟨b, (hp.arms b hb).1, rfl⟩
def spElse : Sp := fun vs H Q _ => ∃ (v : V) (a : Arm), vs = [v] ∧ Dq H v (armD a) ∧ Q (.bl a.1.isNone) H
abbrev s_else : Stmt := (topS 24)
theorem sc_else : FnScope ["arm"] ["arm"] (defScope s_else) := ⟨rfl, rfl, rfl, by decide +kernel, rfl, by decide +kernel, by decide +kernel⟩
theorem ok_else {f : Addr} {fd : FuncData} (F : Fun K "is_else" "is_else" s_else f fd) (T : BT mg) :
    FnOk P w K mg base CX0 1 f fd ["arm"] spElse := by
  refine F.ok sc_else (fun vs H Q E h => ?_) (fun cdv A outer s H vs Q E hr h => ?_)
  · obtain ⟨v, a, rfl, _⟩ := h
    rfl
  · obtain ⟨v, a, rfl, hd, q⟩ := h
    refine ⟨_, (pss_one (ps_ret (pe_cmpR op_eq (pe_callB call_len_seq (by rfl) T.n_len (by decide +kernel) (pa_cons (pv 0) pa_nil)) pe_int (nomark _)))), ?_⟩
    obtain ⟨o, g⟩ := a
    cases o with
    | none =>
      obtain ⟨b, xs, ds, rfl, e, h1, h2⟩ := dq_tup (d := .tuple [.str "else", .int (g : Int)]) hd rfl
      cases e
      have l := h2.len
      refine ⟨_, rfl, b, _, rfl, .inr (SqT.of h1), rfl, ?_⟩
      rw [l]
      exact q
    | some p =>
      obtain ⟨b, xs, ds, rfl, e, h1, h2⟩ := dq_tup (d := .tuple [.str p.1, .str p.2, .int (g : Int)]) hd rfl
      cases e
      have l := h2.len
      refine ⟨_, rfl, b, _, rfl, .inr (SqT.of h1), rfl, ?_⟩
      rw [l]
      exact q
end
end K70

set_option Elab.async false
set_option linter.all false
set_option maxRecDepth 100000
set_option maxHeartbeats 4000000
namespace K70
open PySem PySem.Spec PyProof.Rows L2 Ol RZ
open TL (tl)
theorem arm_inv {H : Hp} {v : V} {a : Arm} (h : Dq H v (armD a)) : ∃ t xs, v = .ref t ∧ H t = some (.tup xs) ∧ atI xs (-1) = some (.int (a.2 : Int)) ∧ atI xs 0 = some (.str (match a.1 with | some p => p.1 | none => "else")) ∧ (∀ p, a.1 = some p → atI xs 1 = some (.str p.2)) := by
  obtain ⟨o, g⟩ := a
  cases o with
  | none =>
    obtain ⟨t, xs, ds, rfl, e, h1, h2⟩ := dq_tup (d := .tuple [.str "else", .int (g : Int)]) h rfl
    cases e
    cases h2 with
    | cons a1 t1 => cases t1 with
      | cons a2 t2 =>
        cases t2
        cases a1
        cases a2
        exact ⟨t, _, rfl, h1, rfl, rfl, fun p z => nomatch z⟩
  | some p =>
    obtain ⟨t, xs, ds, rfl, e, h1, h2⟩ := dq_tup (d := .tuple [.str p.1, .str p.2, .int (g : Int)]) h rfl
    cases e
    cases h2 with
    | cons a1 t1 => cases t1 with
      | cons a2 t2 => cases t2 with
        | cons a3 t3 =>
          cases t3
          cases a1
          cases a2
          cases a3
          exact ⟨t, _, rfl, h1, rfl, rfl, fun q z => by cases z; rfl⟩
section
variable {P : Program} {w : World} {K : PySem.W.Frag} {mg : Str → Option Value} {base : Heap} {C : Addr}
/-- what the text says of the class Program -/
structure PT (K : PySem.W.Frag) (mg : Str → Option Value) (C : Addr) : Prop where
  cl : Cls K C
  nP : NoAttr K C "_places"
  nU : NoAttr K C "_used"
  gC : mg "Program" = some (.ref C)
  n_enum : mg "enumerate" = none
abbrev cP (i : Nat) : Stmt := inClass (topS 25) i
/-- the places of a program -/
def lanesA (as : List Arm) : List Str := as.filterMap fun a => a.1.map (·.2)
def lanesP (ps : List Place) : List Str := ps.flatMap fun p => lanesA p.2
structure Pls (ps : List Place) : Prop where
  ne : ps ≠ []
  few : ps.length ≤ 20
  ok : ∀ p ∈ ps, GPlace ps.length p
  ln : ∃ ns : List Str, ns.length ≤ 40 ∧ ∀ x ∈ lanesP ps, x ∈ ns
def spCheck (C : Addr) : Sp := fun vs H Q _ => ∃ (p dx t : Addr) (fs : List (Str × V)) (xs : List V) (ps : List Place), vs = [.ref p] ∧ H p = some (.ins C dx fs) ∧ fs.lookup ("_places" : Str) = some (.ref t) ∧ fs.lookup ("_check" : Str) = none ∧ H t = some (.tup xs) ∧ DqAll H xs (ps.map placeD) ∧ Pls ps ∧ ∀ H', Ext H H' → Q .non H'
abbrev nChk : List Str := ["self", "_", "arms", "arm", "place"]
theorem sc_check : FnScope nChk ["self"] (defScope (cP 1)) := ⟨rfl, rfl, rfl, by decide +kernel, rfl, by decide +kernel, by decide +kernel⟩
theorem ok_check {f : Addr} {fd : FuncData} (F : Fun K "_check" "Program._check" (cP 1) f fd) (T : BT mg) (L : PT K mg C) (CE : Ca P w K mg base 1 "is_else" ["arm"] spElse) :
    FnOk P w K mg base CX0 2 f fd ["self"] (spCheck C) := by
  refine F.ok sc_check (fun vs H Q E h => ?_) (fun cdv A outer s H vs Q E hr h => ?_)
  · obtain ⟨p, dx, t, fs, xs, ps, rfl, _⟩ := h
    rfl
  · obtain ⟨p, dx, t, fs, xs, ps, rfl, hp, hl, _, ht, hx, ok, q⟩ := h
    refine ⟨_, (pss_cons (ps_for PassesOwn.never rfl (pi_tup (pe_fld (pv 0) rfl)) (pg_tup (by rfl) (pgs_cons (pg_name (i := 1) sc_check.nd rfl (.inl rfl)) (pgs_cons (pg_name (i := 2) sc_check.nd rfl (.inl rfl)) pgs_nil)))
        (pss_one (ps_for PassesOwn.never rfl (pi_tup (pv 2)) (pg_name (i := 3) sc_check.nd rfl (.inl rfl))
          (pss_one (ps_if (pt_cmpR op_ge (pe_ix ix_tup (pv 3) (pe_un un_neg pe_int) (fun _ _ => rfl)) (pe_callB call_len_seq (by rfl) T.n_len (by decide +kernel) (pa_cons (pe_fld (pv 0) rfl) pa_nil)) (nomark _)) (pss_one ps_never) pss_nil)))))
      (pss_one (ps_for PassesOwn.never rfl (pi_enumT (by rfl) L.n_enum (pa_cons (pe_fld (pv 0) rfl) pa_nil)) (pg_tup (by rfl) (pgs_cons (pg_name (i := 4) sc_check.nd rfl (.inl rfl)) (pgs_cons (pg_tup (by rfl) (pgs_cons (pg_name (i := 1) sc_check.nd rfl (.inl rfl)) (pgs_cons (pg_name (i := 2) sc_check.nd rfl (.inl rfl)) pgs_nil))) pgs_nil)))
        (pss_one (ps_if (pt_cmpR op_gt (pe_callB call_len_seq (by rfl) T.n_len (by decide +kernel) (pa_cons (pe_lc (own := [("arm", 3)]) (g := gName 3) rfl sc_check.nd (pi_tup (pv 2)) (blkOk_by (N := nChk) (sc := defScope (cP 1)) (by decide +kernel)) (fun _ _ _ _ _ => pg_name (i := 3) sc_check.nd rfl (.inl rfl)) (fun _ _ _ _ _ => pts_one (pt_val (pe_ca CE (hr.mono (by decide)) (by rfl) (pa_cons (pv 3) pa_nil)))) (fun _ _ _ _ _ => pv 3)) pa_nil)) pe_int (nomark _)) (pss_one ps_never) pss_nil))))), ?_⟩
    have lx : xs.length = ps.length := by rw [hx.len, List.length_map]
    refine ⟨_, rfl, p, C, dx, _, _, rfl, hp, L.cl, L.nP, hl, t, rfl, ⟨_, SqT.of ht⟩, ?_⟩
    refine for_tup (xs := xs) (fun i σ H' => ∃ s1 s2 s3, σ = [some (.ref p), s1, s2, s3, none] ∧ H' = H)
      ⟨none, none, none, rfl, rfl⟩ (fun i σ H' _ ⟨_, _, _, _, e⟩ => by rw [e]; exact SqT.of ht) ?_ ?_
    · rintro i x σ H1 hxi ⟨s1, s2, s3, rfl, rfl⟩
      have hi : i < ps.length := by have := (List.getElem?_eq_some_iff.mp hxi).1; omega
      obtain ⟨x', hx', dx'⟩ := DqAll_get hx i (placeD ps[i]) (by rw [List.getElem?_map, List.getElem?_eq_getElem hi]; rfl)
      rw [hxi] at hx'
      cases hx'
      obtain ⟨a, t2, ys, rfl, ha, ht2, hys⟩ := place_inv dx'
      have gp := ok.ok _ (List.getElem_mem hi)
      have ly : ys.length = ps[i].2.length := by rw [hys.len, List.length_map]
      refine ⟨a, _, rfl, SqT.of ha, rfl, _, _, rfl, _, _, rfl, rfl, ?_⟩
      refine ⟨_, rfl, t2, rfl, ⟨_, SqT.of ht2⟩, ?_⟩
      refine for_tup (xs := ys) (fun j σ H' => ∃ s3, σ = [some (.ref p), some (.str ps[i].1), some (.ref t2), s3, none] ∧ H' = H1)
        ⟨_, rfl, rfl⟩ (fun j σ H' _ ⟨_, _, e⟩ => by rw [e]; exact SqT.of ht2) ?_ ?_
      · rintro j y σ H2 hyj ⟨s3, rfl, rfl⟩
        have hj : j < ps[i].2.length := by have := (List.getElem?_eq_some_iff.mp hyj).1; omega
        obtain ⟨y', hy', dy'⟩ := DqAll_get hys j (armD ps[i].2[j]) (by rw [List.getElem?_map, List.getElem?_eq_getElem hj]; rfl)
        rw [hyj] at hy'
        cases hy'
        obtain ⟨t3, zs, rfl, h3, l3, _⟩ := arm_inv dy'
        have lt := (gp.arms _ (List.getElem_mem hj)).2
        refine ⟨_, rfl, _, rfl, t3, _, _, _, rfl, rfl, SqT.of h3, l3, _, rfl, p, C, dx, _, _, rfl, hp, L.cl, L.nP, hl, t, _, rfl, .inr (SqT.of ht), _, _, rfl, rfl, _, rfl, ?_⟩
        refine ite2 (fun g => ?_) (fun _ => ?_)
        · have := of_decide_eq_true g
          omega
        · exact ⟨_, rfl, rfl⟩
      · rintro σ H2 ⟨s3, rfl, rfl⟩
        exact ⟨_, _, _, rfl, rfl⟩
    · rintro σ H1 ⟨s1, s2, s3, rfl, rfl⟩
      refine ⟨_, rfl, p, C, dx, _, _, rfl, hp, L.cl, L.nP, hl, t, _, rfl, SqT.of ht, ?_⟩
      refine for_it (walk_enumT (xs := xs)) (fun i σ H' => ∃ s1 s2 s3 s4, σ = [some (.ref p), s1, s2, s3, s4] ∧ Ext H1 H')
        ⟨_, _, _, _, rfl, Ext.refl _⟩ (fun i σ H' _ ⟨_, _, _, _, _, e⟩ => SqT.of (e _ _ ht)) ?_ ?_
      · rintro i v σ H2 H3 hi ⟨s1, s2, s3, s4, rfl, e⟩ ⟨T', y1, y2, rfl, hT, rfl, g1, g2⟩
        have hi2 : i < ps.length := by omega
        obtain ⟨x', hx', dx'⟩ := DqAll_get hx i (placeD ps[i]) (by rw [List.getElem?_map, List.getElem?_eq_getElem hi2]; rfl)
        cases g1
        dsimp only at g2
        rw [hx'] at g2
        cases g2
        obtain ⟨a, t2, ys, rfl, ha, ht2, hys⟩ := place_inv dx'
        have gp := ok.ok _ (List.getElem_mem hi2)
        have ly : ys.length = ps[i].2.length := by rw [hys.len, List.length_map]
        have eT := Ext.new (o := .tup [.int (i : Int), .ref a]) hT
        have e2 := e.trans eT
        refine ⟨T', _, rfl, SqT.of upd_same, rfl, _, _, rfl, _, _, rfl, a, _, rfl, SqT.of (e2 _ _ ha), rfl, _, _, rfl, _, _, rfl, rfl, rfl, ?_⟩
        refine ⟨_, rfl, t2, rfl, ⟨_, SqT.of (e2 _ _ ht2)⟩, fun D hD => ?_⟩
        refine lc1_acc (walk_tup (xs := ys)) (fun k zs _ => zs.length = ((ps[i].2.take k).filter fun a => a.1.isNone).length) (fun _ _ _ _ _ h => h) rfl hD
          (fun k zs _ h => by rw [h]; exact Nat.lt_of_le_of_lt (Nat.le_trans (List.length_filter_le ..) (by rw [List.length_take]; have := gp.few; omega : _ ≤ 20)) (by decide)) (fun H' e' => SqT.of ((e2.trans e') _ _ ht2)) ?_ ?_
        · rintro k y Hi H' zs hk e' hy ⟨rfl, hyk⟩ hz QY QN kY kN
          have hk2 : k < ps[i].2.length := by omega
          obtain ⟨y', hy', dy'⟩ := DqAll_get hys k (armD ps[i].2[k]) (by rw [List.getElem?_map, List.getElem?_eq_getElem hk2]; rfl)
          rw [hyk] at hy'
          cases hy'
          refine ⟨rfl, _, rfl, y, ps[i].2[k], rfl, dy'.up (e2.trans e'), _, rfl, ?_⟩
          refine ite2 (fun g => ?_) (fun g => ?_)
          · refine ⟨_, rfl, kY _ _ (Ext.refl _) ?_⟩
            rw [List.take_add_one, List.getElem?_eq_getElem hk2, Option.toList_some, List.filter_append, List.length_append, List.length_append, hz, List.filter_cons_of_pos (p := fun a : Arm => a.1.isNone) (a := ps[i].2[k]) g]
            rfl
          · refine kN _ (Ext.refl _) ?_
            rw [List.take_add_one, List.getElem?_eq_getElem hk2, Option.toList_some, List.filter_append, List.length_append, hz, List.filter_cons_of_neg (p := fun a : Arm => a.1.isNone) (a := ps[i].2[k]) g]
            rfl
        · rintro H4 zs e4 h4 hz
          rw [ly, List.take_length] at hz
          refine ⟨D, _, rfl, .inl (SqL.of h4), _, _, rfl, rfl, _, rfl, ?_⟩
          refine ite2 (fun g => ?_) (fun _ => ?_)
          · have := of_decide_eq_true g
            have := gp.els
            omega
          · exact ⟨_, _, _, _, rfl, e2.trans e4⟩
      · rintro σ H2 ⟨s1, s2, s3, s4, rfl, e⟩
        exact q _ e
end
end K70

set_option Elab.async false
set_option linter.all false
set_option maxRecDepth 100000
set_option maxHeartbeats 4000000
namespace K70
open PySem PySem.Spec PyProof.Rows L2 Ol RZ
open TL (tl)
/-- the fields -/
def pf (t u : Addr) : List (Str × V) := [("_places", .ref t), ("_used", .ref u)]
theorem p_u : ¬ (("_places" : Str) = "_used") := by decide +kernel
theorem u_p : ¬ (("_used" : Str) = "_places") := by decide +kernel
theorem pf_p (t u : Addr) : (pf t u).lookup ("_places" : Str) = some (.ref t) := by
  unfold pf
  rw [List.lookup_cons_self]
theorem pf_u (t u : Addr) : (pf t u).lookup ("_used" : Str) = some (.ref u) := by
  unfold pf
  rw [List.lookup_cons, beq_eq_false_iff_ne.mpr u_p]
  dsimp only
  rw [List.lookup_cons_self]
theorem pf_no (t u : Addr) {m : Str} (h1 : ¬ m = "_places") (h2 : ¬ m = "_used") : (pf t u).lookup m = none := by
  unfold pf
  rw [List.lookup_cons, beq_eq_false_iff_ne.mpr h1]
  dsimp only
  rw [List.lookup_cons, beq_eq_false_iff_ne.mpr h2]
  rfl
theorem putp1 (t : Addr) : putF "_places" (.ref t) [] = ([("_places", V.ref t)] : List (Str × V)) := rfl
theorem putp2 (t u : Addr) : putF "_used" (.ref u) [("_places", V.ref t)] = pf t u := by
  show (if ("_places" : Str) = "_used" then _ else (("_places" : Str), V.ref t) :: putF "_used" (V.ref u) []) = _
  rw [if_neg p_u]
  rfl
/-- the lanes that stand in arms -/
theorem nodup_le {α : Type} [DecidableEq α] : ∀ {xs ys : List α}, xs.Nodup → (∀ x ∈ xs, x ∈ ys) → xs.length ≤ ys.length
  | [], _, _, _ => Nat.zero_le _
  | x :: xs, ys, nd, h => by
    obtain ⟨n1, n2⟩ := List.nodup_cons.mp nd
    have m := h x (.head _)
    have ih := nodup_le (xs := xs) (ys := ys.erase x) n2 fun y hy => (List.mem_erase_of_ne fun (e : y = x) => n1 (by rw [← e]; exact hy)).mpr (h y (.tail _ hy))
    rw [List.length_erase_of_mem m] at ih
    have : 0 < ys.length := List.length_pos_of_mem m
    rw [List.length_cons]
    omega
theorem lanesA_snoc (as : List Arm) (a : Arm) : lanesA (as ++ [a]) = lanesA as ++ lanesA [a] := List.filterMap_append ..
theorem lanesP_snoc (ps : List Place) (p : Place) : lanesP (ps ++ [p]) = lanesP ps ++ lanesA p.2 := by
  unfold lanesP
  rw [List.flatMap_append]
  simp
/-- a Program of these places stands at p -/
def ProgAt (C : Addr) (H : Hp) (p : Addr) (ps : List Place) : Prop :=
  ∃ dx t u xs us, H p = some (.ins C dx (pf t u)) ∧ H t = some (.tup xs) ∧ DqAll H xs (ps.map placeD) ∧ H u = some (.tup (us.map V.str)) ∧ sortedS us = true ∧ us.Nodup ∧ us.length ≤ 40 ∧ (∀ x, x ∈ us ↔ x ∈ lanesP ps) ∧ Pls ps
theorem ProgAt.up {C : Addr} {H H' : Hp} {p : Addr} {ps : List Place} (e : Ext H H') : ProgAt C H p ps → ProgAt C H' p ps
  | ⟨dx, t, u, xs, us, h1, h2, h3, h4, r⟩ => ⟨dx, t, u, xs, us, e _ _ h1, e _ _ h2, DqAll.up e h3, e _ _ h4, r⟩
def kvT (ns : List Str) : List (Key × V) := ns.map fun x => (.inr x, .bl true)
theorem kvT_val {ns : List Str} {x : Str} : valV (kvT ns) (.inr x) = if x ∈ ns then some (.bl true) else none := by
  induction ns with
  | nil => rfl
  | cons y ns ih =>
    unfold kvT
    rw [List.map_cons]
    by_cases c : y = x
    · rw [valV_pos (by rw [c]), if_pos (by rw [c]; exact List.mem_cons_self)]
    · rw [valV_neg (fun z => c (Sum.inr.inj z))]
      have ih' : valV (ns.map fun x => (Sum.inr x, V.bl true)) (.inr x) = if x ∈ ns then some (.bl true) else none := ih
      rw [ih']
      by_cases m : x ∈ ns
      · rw [if_pos m, if_pos (List.mem_cons_of_mem _ m)]
      · rw [if_neg m, if_neg]
        intro z
        rcases List.mem_cons.mp z with z | z
        · exact c z.symm
        · exact m z
section
variable {P : Program} {w : World} {K : PySem.W.Frag} {mg : Str → Option Value} {base : Heap} {C : Addr}
abbrev rTupOf (K : PySem.W.Frag) : List V → Hp → VK → Prop := fun xs H Q => ∃ p ys, xs = [.ref p] ∧ ((SqL K H p ys ∧ ∀ l, H l = none → Q (.ref l) (upd H l (.tup ys))) ∨ (SqT K H p ys ∧ Q (.ref p) H))
theorem kvT_put {ns : List Str} {x : Str} (h : x ∈ ns) : putK (kvT ns) (.inr x) (.bl true) = kvT ns := by
  have some_ : (valV (kvT ns) (.inr x)).isSome = true := by rw [kvT_val, if_pos h]; rfl
  unfold putK
  rw [valV_any, some_, if_pos rfl]
  unfold kvT
  rw [List.map_map]
  refine List.map_congr_left fun y _ => ?_
  show (if Sum.inr y = (Sum.inr x : Key) then (Sum.inr y, V.bl true) else (Sum.inr y, V.bl true)) = _
  split <;> rfl
theorem kvT_new {ns : List Str} {x : Str} (h : x ∉ ns) : putK (kvT ns) (.inr x) (.bl true) = kvT (ns ++ [x]) := by
  rw [putK_new (by rw [kvT_val, if_neg h])]
  unfold kvT
  rw [List.map_append]
  rfl
def armsAt (ps : List Place) (i : Nat) : List Arm := (ps[i]?.map (·.2)).getD []
theorem one_field (t : Addr) {m : Str} (h : ¬ m = "_places") : ([("_places", V.ref t)] : List (Str × V)).lookup m = none := by
  rw [List.lookup_cons, beq_eq_false_iff_ne.mpr h]
  rfl
theorem dq_app {H : Hp} : ∀ {a b : List V} {da db : List PyData}, DqAll H a da → DqAll H b db → DqAll H (a ++ b) (da ++ db)
  | _, _, _, _, .nil, h => h
  | _, _, _, _, .cons x t, h => .cons x (dq_app t h)
structure ChM (P : Program) (w : World) (K : PySem.W.Frag) (mg : Str → Option Value) (base : Heap) (C : Addr) : Prop where
  has : ∃ (f : Addr) (fd : FuncData), FnOk P w K mg base CX0 2 f fd ["self"] (spCheck C) ∧ Meth K C "_check" f ∧ Binds K fd ["self"] []
def spProg (C : Addr) : Sp := fun vs H Q _ => ∃ (H0 : Hp) (p dx a : Addr) (xs : List V) (ps : List Place), vs = [.ref p, .ref a] ∧ H0 p = none ∧ Ext H0 H ∧ H p = some (.ins C dx []) ∧ H0 a = some (.lst xs) ∧ DqAll H0 xs (ps.map placeD) ∧ Pls ps ∧
  ∀ H', Ext H0 H' → ProgAt C H' p ps → Q .non H'
abbrev nInit : List Str := ["self", "places", "names", "_", "arms", "arm", "mode"]
theorem sc_prog : FnScope nInit ["self", "places"] (defScope (cP 0)) := ⟨rfl, rfl, rfl, by decide +kernel, rfl, by decide +kernel, by decide +kernel⟩
theorem ok_prog {f fP : Addr} {fd : FuncData} (F : Fun K "__init__" "Program.__init__" (cP 0) f fd) (T : BT mg) (L : PT K mg C) (gP : mg "is_place" = some (.ref fP))
    (CR : Ca P w K mg base 6 "is_row_of" ["thing", "is_part"] (spRow GP fP)) (CE : Ca P w K mg base 1 "is_else" ["arm"] spElse) (MC : ChM P w K mg base C) :
    FnOk P w K mg base CX0 7 f fd ["self", "places"] (spProg C) := by
  obtain ⟨fC, fdC, FC, mc, bC⟩ := MC.has
  refine F.ok sc_prog (fun vs H Q E h => ?_) (fun cdv A outer s H vs Q E hr h => ?_)
  · obtain ⟨H0, p, dx, a, xs, ps, rfl, _⟩ := h
    rfl
  · obtain ⟨H0, p, dx, a, xs, ps, rfl, hp0, e0, hp, ha, hx, ok, q⟩ := h
    refine ⟨_, (pss_cons (ps_if (PW.pt (pw_or (pt_not (pt_val (pe_ca CR (hr.mono (by decide)) (by rfl) (pa_cons (pv 1) (pa_cons (pe_glob (v := .ref fP) rfl gP rfl) pa_nil))))) (pw_or1 (pt_cmpR op_eq (pe_callB call_len_seq (by rfl) T.n_len (by decide +kernel) (pa_cons (pv 1) pa_nil)) pe_int (nomark _))))) (pss_one ps_never) pss_nil)
      (pss_cons (ps_fld (pv 0) (pe_callTy call_tuple_of (by rfl) T.n_tuple (by decide +kernel) (pa_cons (pe_lc (own := [("mode", 6), ("arms", 4)]) (g := gTup K 2 (gCons (gName 6) (gCons (gName 4) gNil))) (tt := tYes) rfl sc_prog.nd (pi_list (pv 1)) (blkOk_by (N := nInit) (sc := defScope (cP 0)) (by decide +kernel)) (fun _ _ _ _ _ => pg_tup (by rfl) (pgs_cons (pg_name (i := 6) sc_prog.nd rfl (.inl rfl)) (pgs_cons (pg_name (i := 4) sc_prog.nd rfl (.inl rfl)) pgs_nil))) (te := tTup (tCons (tVar 6) (tCons (tCB (rTupOf K) (tCons (tVar 4) tNil)) tNil))) (fun _ _ _ _ _ => pts_nil) (fun _ _ _ _ _ => pe_tup (pa_cons (pv 6) (pa_cons (pe_callTy (r := rTupOf K) (T := "tuple") call_tuple_of (by rfl) T.n_tuple (by decide +kernel) (pa_cons (pv 4) pa_nil)) pa_nil)))) pa_nil)) rfl)
      (pss_cons (ps_expr (pe_meth0 (pv 0) L.cl mc FC (hr.mono (by decide)) bC .nil pass0))
      (pss_cons (ps_setDc2 (i := 2) (own := [("_", 3), ("arms", 4), ("arm", 5)]) (vs1 := [5]) (g := gTup K 2 (gCons (gName 3) (gCons (gName 4) gNil))) (g1 := gName 5) (tt := tYes) (wi1 := iTup K (tVar 4)) rfl sc_prog.nd rfl rfl (sw_dict rfl rfl rfl (by decide +kernel)) (pi_tup (pe_fld (pv 0) rfl)) (blkOk_by (N := nInit) (sc := defScope (cP 0)) (by decide +kernel)) (by decide)
          (fun _ _ _ _ _ => pg_tup (by rfl) (pgs_cons (pg_name (i := 3) sc_prog.nd rfl (.inl rfl)) (pgs_cons (pg_name (i := 4) sc_prog.nd rfl (.inl rfl)) pgs_nil))) (fun _ _ _ _ _ => pts_nil) (fun _ _ _ _ _ => pi_tup (pv 4)) (fun _ _ _ _ _ => pg_name (i := 5) sc_prog.nd rfl (.inl rfl))
          (fun _ _ _ _ _ => pts_one (pt_not (pt_val (pe_ca CE (hr.mono (by decide)) (by rfl) (pa_cons (pv 5) pa_nil))))) (tk := tOp (rIxT K) (tVar 5) (tC (.int 1))) (fun _ _ _ _ _ => pe_ix ix_tup (pv 5) pe_int (fun _ _ => rfl)) (fun _ _ _ _ _ => pe_bl))
      (pss_one (ps_fld (pv 0) (pe_callTy call_tuple_of (by rfl) T.n_tuple (by decide +kernel) (pa_cons (pe_callB (call_sortedD rfl) (by rfl) T.n_sorted (by decide +kernel) (pa_cons (pv 2) pa_nil)) pa_nil)) rfl)))))), ?_⟩
    have lx : xs.length = ps.length := by rw [hx.len, List.length_map]
    have p0 : 0 < ps.length := List.length_pos_iff.mpr ok.ne
    have pf6 := ok.few
    refine ⟨_, rfl, a, xs, ps.map placeD, rfl, .inl (e0 _ _ ha), DqAll.up e0 hx, (fun d hd => by
      obtain ⟨b, hb, rfl⟩ := List.mem_map.mp hd
      exact ⟨_, b, ok.ok b hb, rfl⟩), by rw [List.length_map]; omega, fun H1 e1 => ⟨_, rfl, ?_⟩⟩
    refine iteF ?_
    have e01 := e0.trans e1
    have hp1 := e1 _ _ hp
    refine ⟨_, rfl, a, _, rfl, .inl (SqL.of (e01 _ _ ha)), rfl, _, rfl, ?_⟩
    refine ite2 (fun g => ?_) (fun _ => ?_)
    · have z := of_decide_eq_true g
      injection z with z
      omega
    -- the places
    refine ⟨_, rfl, a, rfl, ⟨_, SqL.of (e01 _ _ ha)⟩, fun D hD => ?_⟩
    refine lc1_acc (walk_list (xs := xs)) (fun i zs Hd => DqAll (del Hd p) zs ((ps.take i).map placeD)) (fun _ _ _ _ e h => DqAll.up (ext_del e) h) .nil hD
      (fun i zs _ h => by rw [h.len, List.length_map, List.length_take]; exact Nat.lt_of_le_of_lt (show _ ≤ 20 by omega) (by decide)) (fun H' e => SqL.of ((e01.trans e) _ _ ha)) ?_ ?_
    · rintro i x Hi H' zs hi e hy ⟨rfl, hxi⟩ hz QY QN kY kN
      have hi2 : i < ps.length := by omega
      obtain ⟨x', hx', dx'⟩ := DqAll_get hx i (placeD ps[i]) (by rw [List.getElem?_map, List.getElem?_eq_getElem hi2]; rfl)
      rw [hxi] at hx'
      cases hx'
      obtain ⟨b, t2, ys, rfl, hb, ht2, hys⟩ := place_inv dx'
      have e0i := e01.trans e
      refine ⟨b, _, rfl, SqT.of (e0i _ _ hb), rfl, _, _, rfl, _, _, rfl, rfl, rfl, ?_⟩
      refine tyes ?_
      refine ⟨_, rfl, _, rfl, t2, ys, rfl, .inr ⟨SqT.of (e0i _ _ ht2), by show 2 ≤ sizeLine; decide, fun t3 ht3 => ?_⟩⟩
      have e3 := Ext.new (o := .tup [.str ps[i].1, .ref t2]) ht3
      refine kY _ _ e3 ?_
      have n1 : t3 ≠ p := fun z => by rw [z, e _ _ hp1] at ht3; cases ht3
      have n2 : t3 ≠ D := fun z => by rw [z, hy] at ht3; cases ht3
      have hD0 : H0 D = none := e01.free hD
      have ex : Ext H0 (del (del (upd H' t3 (.tup [.str ps[i].1, .ref t2])) D) p) := ext_to (ext_to (e0i.trans e3) hD0) hp0
      rw [List.take_add_one, List.getElem?_eq_getElem hi2, Option.toList_some, List.map_append]
      have one : DqAll (del (del (upd H' t3 (.tup [.str ps[i].1, .ref t2])) D) p) [.ref t3] [placeD ps[i]] :=
        .cons (.tup (by rw [del_ne n1, del_ne n2]; exact upd_same) (.cons (.str _) (.cons (.tup (ex _ _ ht2) (DqAll.up ex hys)) .nil))) .nil
      exact dq_app (DqAll.up (ext_del (ext_del e3)) hz) one
    intro H2 zs e2 hD2 hz
    rw [lx, List.take_length] at hz
    have hp2 := e2 _ _ hp1
    refine ⟨D, _, rfl, .inl ⟨SqL.of hD2, fun t ht => ?_⟩⟩
    have et := Ext.new (o := .tup zs) ht
    have npt : p ≠ t := fun z => by rw [← z, hp2] at ht; cases ht
    refine ⟨_, rfl, p, C, dx, [], rfl, et _ _ hp2, L.cl, L.nP, (by show 0 < 1000; decide), ?_⟩
    rw [putp1]
    have e4 : Ext H0 (upd (upd H2 t (.tup zs)) p (.ins C dx [("_places", .ref t)])) := Ext.mut ((e01.trans e2).trans et) hp0
    have h4t : (upd (upd H2 t (.tup zs)) p (.ins C dx [("_places", .ref t)])) t = some (.tup zs) := by
      rw [upd_ne (Ne.symm npt)]
      exact upd_same
    have h4p : (upd (upd H2 t (.tup zs)) p (.ins C dx [("_places", .ref t)])) p = some (.ins C dx [("_places", .ref t)]) := upd_same
    have h4d : DqAll (del (upd (upd H2 t (.tup zs)) p (.ins C dx [("_places", .ref t)])) p) zs (ps.map placeD) := by
      rw [del_upd]
      exact DqAll.up (ext_del et) hz
    generalize upd (upd H2 t (.tup zs)) p (.ins C dx [("_places", .ref t)]) = H4 at *
    have h4z := DqAll.up del_ext h4d
    -- the check
    have lk : ([("_places", V.ref t)] : List (Str × V)).lookup ("_places" : Str) = some (.ref t) := List.lookup_cons_self
    have lc : ([("_places", V.ref t)] : List (Str × V)).lookup ("_check" : Str) = none := one_field t (by decide +kernel)
    refine ⟨_, rfl, p, dx, _, rfl, h4p, lc, p, dx, t, _, zs, ps, rfl, h4p, lk, lc, h4t, h4z, ok, fun H5 e5 => ?_⟩
    have h5p := e5 _ _ h4p
    have h5t := e5 _ _ h4t
    have h5z := DqAll.up e5 h4z
    have e05 := e4.trans e5
    have lz : zs.length = ps.length := by rw [h5z.len, List.length_map]
    -- the lanes in use
    refine ⟨_, rfl, p, C, dx, _, _, rfl, h5p, L.cl, L.nP, lk, t, rfl, ⟨_, SqT.of h5t⟩, fun D2 hD2 => ?_⟩
    refine dc2_acc (walk_tup (xs := zs)) (fun i j kvs _ => ∃ ns : List Str, kvs = kvT ns ∧ ns.Nodup ∧ (∀ x, x ∈ ns ↔ x ∈ lanesP (ps.take i) ++ lanesA ((armsAt ps i).take j)) ∧ ns.length ≤ 20 * i + j ∧ i ≤ 20 ∧ j ≤ 20) (fun _ _ _ _ _ _ h => h)
      ⟨[], rfl, List.nodup_nil, (fun x => by simp [lanesP, lanesA]), by decide, by decide, by decide⟩ hD2
      (fun i j kvs _ ⟨ns, e, _, _, h1, h2, h3⟩ => by rw [e]; unfold kvT; rw [List.length_map]; exact Nat.lt_of_le_of_lt (show _ ≤ 420 by omega) (by decide)) (fun H' e => SqT.of (e _ _ h5t)) ?_ ?_
    · rintro i x Hi H' kvs hi e hy ⟨rfl, hxi⟩ hP R hR
      have hi2 : i < ps.length := by omega
      obtain ⟨x', hx', dx'⟩ := DqAll_get h5z i (placeD ps[i]) (by rw [List.getElem?_map, List.getElem?_eq_getElem hi2]; rfl)
      rw [hxi] at hx'
      cases hx'
      obtain ⟨b, t2, ys, rfl, hb, ht2, hys⟩ := place_inv dx'
      have gp := ok.ok _ (List.getElem_mem hi2)
      have ly : ys.length = ps[i].2.length := by rw [hys.len, List.length_map]
      have ea : armsAt ps i = ps[i].2 := by
        unfold armsAt
        rw [List.getElem?_eq_getElem hi2]
        rfl
      refine ⟨b, _, rfl, SqT.of (e _ _ hb), rfl, _, _, rfl, _, _, rfl, rfl, rfl, ?_⟩
      refine ⟨_, rfl, t2, rfl, ⟨_, SqT.of (e _ _ ht2)⟩, hR _ _ _ ⟨Ext.refl _, ys.length, _, _, walk_tup (xs := ys), fun Hz ez => SqT.of (ez _ _ (ext_to e hD2 _ _ ht2)), ?_, ?_⟩⟩
      · rintro kvs Hz ⟨ns, h1, h2, h3, h4, h5, h6⟩
        refine ⟨ns, h1, h2, fun z => ?_, by omega, by omega, by omega⟩
        rw [h3 z, ea, ly, List.take_length, List.take_add_one, List.getElem?_eq_getElem hi2, Option.toList_some, lanesP_snoc, List.take_zero]
        simp [lanesA]
      · rintro j y Ha Hb kvs hj eH ha2 ⟨rfl, hyj⟩ ⟨ns, rfl, h2, h3, h4, h5, h6⟩ QY QN kY kN
        have hj2 : j < ps[i].2.length := by omega
        obtain ⟨y', hy', dy'⟩ := DqAll_get hys j (armD ps[i].2[j]) (by rw [List.getElem?_map, List.getElem?_eq_getElem hj2]; rfl)
        rw [hyj] at hy'
        cases hy'
        have dy := dy'.up ((ext_to e hD2).trans eH)
        obtain ⟨t4, ws, et4, h7, _, _, h8⟩ := arm_inv dy
        have few := gp.few
        have tk : (armsAt ps i).take (j + 1) = (armsAt ps i).take j ++ [ps[i].2[j]] := by
          rw [ea, List.take_add_one, List.getElem?_eq_getElem hj2]
          rfl
        refine ⟨rfl, _, rfl, y, ps[i].2[j], rfl, dy, _, rfl, ?_⟩
        cases ho : ps[i].2[j].1 with
        | none =>
          refine iteF ?_
          refine kN _ (Ext.refl _) ⟨ns, rfl, h2, fun z => ?_, by omega, h5, by omega⟩
          have l0 : lanesA [ps[i].2[j]] = [] := by simp [lanesA, ho]
          rw [h3 z, tk, lanesA_snoc, l0, List.append_nil]
        | some pr =>
          refine iteT ?_
          refine ⟨_, rfl, t4, ws, 1, .str pr.2, et4, rfl, SqT.of h7, h8 pr ho, ?_⟩
          have l1 : lanesA [ps[i].2[j]] = [pr.2] := by simp [lanesA, ho]
          by_cases m : pr.2 ∈ ns
          · refine kY (.inr pr.2) (.bl true) _ (Ext.refl _) ⟨ns, kvT_put m, h2, fun z => ?_, by omega, h5, by omega⟩
            rw [tk, lanesA_snoc, l1]
            constructor
            · intro hz
              have := (h3 z).mp hz
              simp only [List.mem_append] at this ⊢
              rcases this with h | h
              · exact .inl h
              · exact .inr (.inl h)
            · intro hz
              simp only [List.mem_append, List.mem_singleton] at hz
              rcases hz with h | h | h
              · exact (h3 z).mpr (List.mem_append_left _ h)
              · exact (h3 z).mpr (List.mem_append_right _ h)
              · rw [h]; exact m
          · refine kY (.inr pr.2) (.bl true) _ (Ext.refl _) ⟨ns ++ [pr.2], kvT_new m, ?_, fun z => ?_, by rw [List.length_append, List.length_singleton]; omega, h5, by omega⟩
            · refine List.nodup_append.mpr ⟨h2, by simp, fun c hc d hd e => ?_⟩
              rw [List.mem_singleton.mp hd] at e
              exact m (e ▸ hc)
            · rw [tk, lanesA_snoc, l1]
              simp only [List.mem_append, List.mem_singleton]
              rw [h3 z]
              simp only [List.mem_append]
              constructor
              · rintro ((h | h) | h)
                · exact .inl h
                · exact .inr (.inl h)
                · exact .inr (.inr h)
              · rintro (h | h | h)
                · exact .inl (.inl h)
                · exact .inl (.inr h)
                · exact .inr h
    rintro H6 kvs e6 hD6 ⟨ns, rfl, h2, h3, h4, _, _⟩
    rw [lz, List.take_length] at h3
    have h3' : ∀ x, x ∈ ns ↔ x ∈ lanesP ps := fun x => by rw [h3 x]; simp [lanesA]
    rw [lz] at h4
    have kk : (kvT ns).map (·.1) = ns.map Sum.inr := by
      unfold kvT
      rw [List.map_map]
      rfl
    have few40 : ns.length ≤ 40 := by
      obtain ⟨ms, m1, m2⟩ := ok.ln
      exact Nat.le_trans (nodup_le h2 fun x hx => m2 x ((h3' x).mp hx)) m1
    refine ⟨_, rfl, D2, _, ns, rfl, Rd.of hD6, kk, by omega, fun us l hperm hso hl => ?_⟩
    have e7 := Ext.new (o := .lst (us.map V.str)) hl
    refine ⟨l, _, rfl, .inl ⟨SqL.of upd_same, fun u hu => ?_⟩⟩
    have e8 := Ext.new (o := .tup (us.map V.str)) hu
    have k8 := upd_same (H := upd H6 l (.lst (us.map V.str))) (a := u) (o := HO.tup (us.map V.str))
    have e58 := (e6.trans e7).trans e8
    generalize upd (upd H6 l (.lst (us.map V.str))) u (.tup (us.map V.str)) = H8 at *
    refine ⟨_, rfl, p, C, dx, _, rfl, e58 _ _ h5p, L.cl, L.nU, (by show 1 < 1000; decide), ?_⟩
    rw [putp2]
    have npu : p ≠ u := fun z => by
      have := e58 _ _ h5p
      rw [z, k8] at this
      cases this
    refine q _ (Ext.mut (e05.trans e58) hp0) ⟨dx, t, u, zs, us, upd_same, ?_, ?_, ?_, hso, hperm.nodup_iff.mpr h2, by rw [hperm.length_eq]; omega, fun x => by rw [hperm.mem_iff, h3' x], ok⟩
    · rw [upd_ne (Ne.symm npt)]
      exact e58 _ _ h5t
    · have z1 := DqAll.up (ext_del (D := p) (e5.trans e58)) h4d
      rw [← del_upd (o := .ins C dx (pf t u))] at z1
      exact DqAll.up del_ext z1
    · rw [upd_ne (Ne.symm npu)]
      exact k8
end
end K70

set_option Elab.async false
set_option linter.all false
set_option maxRecDepth 100000
set_option maxHeartbeats 4000000
namespace K70
open PySem PySem.Spec PyProof.Rows L2 Ol RZ
open TL (tl)
section
variable {P : Program} {w : World} {K : PySem.W.Frag} {mg : Str → Option Value} {base : Heap} {C : Addr}
/-! ### what a Program tells -/
def spPl (C : Addr) : Sp := fun vs H Q _ => ∃ (p : Addr) (ps : List Place) (i : Nat) (hi : i < ps.length), vs = [.ref p, .int (i : Int)] ∧ ProgAt C H p ps ∧ ∀ (r : V) (H' : Hp), Ext H H' → Dq H' r (placeD ps[i]) → Q r H'
theorem sc_pl : FnScope ["self", "place"] ["self", "place"] (defScope (cP 4)) := ⟨rfl, rfl, rfl, by decide +kernel, rfl, by decide +kernel, by decide +kernel⟩
theorem ok_pl {f : Addr} {fd : FuncData} (F : Fun K "_place" "Program._place" (cP 4) f fd) (T : BT mg) (L : PT K mg C) (C2 : Ca P w K mg base 2 "is_number" ["thing"] (spPred Any isNumD)) :
    FnOk P w K mg base CX0 3 f fd ["self", "place"] (spPl C) := by
  refine F.ok sc_pl (fun vs H Q E h => ?_) (fun cdv A outer s H vs Q E hr h => ?_)
  · obtain ⟨p, ps, i, hi, rfl, _⟩ := h
    rfl
  · obtain ⟨p, ps, i, hi, rfl, hP, q⟩ := h
    refine ⟨_, (pss_cons (ps_if (PW.pt (pw_or (pt_not (pt_val (pe_ca C2 (hr.mono (by decide)) (by rfl) (pa_cons (pv 1) pa_nil)))) (pw_or1 (pt_cmpR op_ge (pv 1) (pe_callB call_len_seq (by rfl) T.n_len (by decide +kernel) (pa_cons (pe_fld (pv 0) rfl) pa_nil)) (nomark _))))) (pss_one ps_never) pss_nil)
      (pss_one (ps_ret (pe_ix ix_tup (pe_fld (pv 0) rfl) (pv 1) (fun _ _ => rfl))))), ?_⟩
    have nn : isNumD (.int (i : Int)) = true := by
      have : (0 : Int) ≤ (i : Int) := by omega
      simp [isNumD, this]
    refine ⟨_, rfl, _, _, rfl, .int _, trivial, fun H1 e1 => ⟨_, rfl, ?_⟩⟩
    rw [nn]
    refine iteF ?_
    obtain ⟨dx, t, u, xs, us, h1, h2, h3, _⟩ := hP.up e1
    have lx : xs.length = ps.length := by rw [h3.len, List.length_map]
    obtain ⟨v, hv, dv⟩ := DqAll_get h3 i (placeD ps[i]) (by rw [List.getElem?_map, List.getElem?_eq_getElem hi]; rfl)
    refine ⟨_, rfl, _, rfl, p, C, dx, _, _, rfl, h1, L.cl, L.nP, pf_p _ _, t, _, rfl, .inr (SqT.of h2), _, _, rfl, rfl, _, rfl, ?_⟩
    refine ite2 (fun g => ?_) (fun _ => ?_)
    · have := of_decide_eq_true g
      omega
    · exact ⟨_, rfl, p, C, dx, _, _, rfl, h1, L.cl, L.nP, pf_p _ _, _, rfl, t, _, _, _, rfl, rfl, SqT.of h2, atI_nat hv, q _ _ e1 dv⟩
def spMode (C : Addr) : Sp := fun vs H Q _ => ∃ (p : Addr) (ps : List Place) (i : Nat) (hi : i < ps.length), vs = [.ref p, .int (i : Int)] ∧ ProgAt C H p ps ∧ ∀ (H' : Hp), Ext H H' → Q (.str ps[i].1) H'
theorem sc_md : FnScope ["self", "place"] ["self", "place"] (defScope (cP 8)) := ⟨rfl, rfl, rfl, by decide +kernel, rfl, by decide +kernel, by decide +kernel⟩
theorem ok_md {f : Addr} {fd : FuncData} (F : Fun K "mode" "Program.mode" (cP 8) f fd) (L : PT K mg C) (MP : Cm P w K mg base C 3 "_place" ["self", "place"] (spPl C)) :
    FnOk P w K mg base CX0 4 f fd ["self", "place"] (spMode C) := by
  refine F.ok sc_md (fun vs H Q E h => ?_) (fun cdv A outer s H vs Q E hr h => ?_)
  · obtain ⟨p, ps, i, hi, rfl, _⟩ := h
    rfl
  · obtain ⟨p, ps, i, hi, rfl, hP, q⟩ := h
    refine ⟨_, (pss_one (ps_ret (pe_ix ix_tup (pe_cm MP L.cl (hr.mono (by decide)) (pv 0) (pa_cons (pv 1) pa_nil)) pe_int (fun _ _ => rfl)))), ?_⟩
    obtain ⟨dx, t, u, xs, us, h1, _⟩ := id hP
    refine ⟨_, rfl, p, dx, _, rfl, h1, pf_no _ _ (by decide +kernel) (by decide +kernel), _, rfl, p, ps, i, hi, rfl, hP, fun r H1 e1 hr1 => ?_⟩
    obtain ⟨a, t2, ys, rfl, ha, _⟩ := place_inv hr1
    exact ⟨a, _, _, _, rfl, rfl, SqT.of ha, rfl, q _ e1⟩
def spArms (C : Addr) : Sp := fun vs H Q _ => ∃ (p : Addr) (ps : List Place) (i : Nat) (hi : i < ps.length), vs = [.ref p, .int (i : Int)] ∧ ProgAt C H p ps ∧
  ∀ (l : Addr) (ys : List V) (H' : Hp), H l = none → Ext H H' → H' l = some (.lst ys) → DqAll H' ys (ps[i].2.map armD) → Q (.ref l) H'
theorem sc_as : FnScope ["self", "place"] ["self", "place"] (defScope (cP 9)) := ⟨rfl, rfl, rfl, by decide +kernel, rfl, by decide +kernel, by decide +kernel⟩
theorem ok_as {f : Addr} {fd : FuncData} (F : Fun K "arms" "Program.arms" (cP 9) f fd) (T : BT mg) (L : PT K mg C) (MP : Cm P w K mg base C 3 "_place" ["self", "place"] (spPl C)) :
    FnOk P w K mg base CX0 4 f fd ["self", "place"] (spArms C) := by
  refine F.ok sc_as (fun vs H Q E h => ?_) (fun cdv A outer s H vs Q E hr h => ?_)
  · obtain ⟨p, ps, i, hi, rfl, _⟩ := h
    rfl
  · obtain ⟨p, ps, i, hi, rfl, hP, q⟩ := h
    refine ⟨_, (pss_one (ps_ret (pe_callTy call_list_of (by rfl) T.n_list (by decide +kernel) (pa_cons (pe_ix ix_tup (pe_cm MP L.cl (hr.mono (by decide)) (pv 0) (pa_cons (pv 1) pa_nil)) pe_int (fun _ _ => rfl)) pa_nil)))), ?_⟩
    obtain ⟨dx, t, u, xs, us, h1, _⟩ := id hP
    refine ⟨_, rfl, p, dx, _, rfl, h1, pf_no _ _ (by decide +kernel) (by decide +kernel), _, rfl, p, ps, i, hi, rfl, hP, fun r H1 e1 hr1 => ?_⟩
    obtain ⟨a, t2, ys, rfl, ha, ht2, hys⟩ := place_inv hr1
    refine ⟨a, _, _, _, rfl, rfl, SqT.of ha, rfl, t2, ys, rfl, .inr (SqT.of ht2), fun l hl => ?_⟩
    have e2 := Ext.new (o := .lst ys) hl
    exact q l ys _ (e1.free hl) (e1.trans e2) upd_same (DqAll.up e2 hys)
/-- the arm of this index -/
def spArmAt (C : Addr) : Sp := fun vs H Q _ => ∃ (p : Addr) (ps : List Place) (i : Nat) (hi : i < ps.length) (j : Nat) (hj : j < ps[i].2.length), vs = [.ref p, .int (i : Int), .int (j : Int)] ∧ ProgAt C H p ps ∧
  ∀ (r : V) (H' : Hp), Ext H H' → Dq H' r (armD ps[i].2[j]) → Q r H'
def spPlArm (C : Addr) : Sp := fun vs H Q _ => ∃ (p : Addr) (ps : List Place) (i : Nat) (hi : i < ps.length) (j : Nat) (hj : j < ps[i].2.length), vs = [.ref p, .int (i : Int), .int (j : Int)] ∧ ProgAt C H p ps ∧
  ∀ (r : V) (H' : Hp), Ext H H' → Dq H' r (placeD ps[i]) → Q r H'
theorem sc_pla : FnScope ["self", "place", "index", "mode", "arms"] ["self", "place", "index"] (defScope (cP 5)) := ⟨rfl, rfl, rfl, by decide +kernel, rfl, by decide +kernel, by decide +kernel⟩
theorem ok_pla {f : Addr} {fd : FuncData} (F : Fun K "_place_with_arm" "Program._place_with_arm" (cP 5) f fd) (T : BT mg) (L : PT K mg C) (C2 : Ca P w K mg base 2 "is_number" ["thing"] (spPred Any isNumD)) (MP : Cm P w K mg base C 3 "_place" ["self", "place"] (spPl C)) :
    FnOk P w K mg base CX0 4 f fd ["self", "place", "index"] (spPlArm C) := by
  refine F.ok sc_pla (fun vs H Q E h => ?_) (fun cdv A outer s H vs Q E hr h => ?_)
  · obtain ⟨p, ps, i, hi, j, hj, rfl, _⟩ := h
    rfl
  · obtain ⟨p, ps, i, hi, j, hj, rfl, hP, q⟩ := h
    refine ⟨_, (pss_cons (ps_asg (pe_cm MP L.cl (hr.mono (by decide)) (pv 0) (pa_cons (pv 1) pa_nil)) (pg_tup (by rfl) (pgs_cons (pg_name (i := 3) sc_pla.nd rfl (.inl rfl)) (pgs_cons (pg_name (i := 4) sc_pla.nd rfl (.inl rfl)) pgs_nil))))
      (pss_cons (ps_if (PW.pt (pw_or (pt_not (pt_val (pe_ca C2 (hr.mono (by decide)) (by rfl) (pa_cons (pv 2) pa_nil)))) (pw_or1 (pt_cmpR op_ge (pv 2) (pe_callB call_len_seq (by rfl) T.n_len (by decide +kernel) (pa_cons (pv 4) pa_nil)) (nomark _))))) (pss_one ps_never) pss_nil)
      (pss_one (ps_ret (pe_tup (pa_cons (pv 3) (pa_cons (pv 4) pa_nil))))))), ?_⟩
    obtain ⟨dx, t, u, xs, us, h1, _⟩ := id hP
    refine ⟨_, rfl, p, dx, _, rfl, h1, pf_no _ _ (by decide +kernel) (by decide +kernel), _, rfl, p, ps, i, hi, rfl, hP, fun r H1 e1 hr1 => ?_⟩
    obtain ⟨a, t2, ys, rfl, ha, ht2, hys⟩ := place_inv hr1
    have ly : ys.length = ps[i].2.length := by rw [hys.len, List.length_map]
    have nn : isNumD (.int (j : Int)) = true := by
      have : (0 : Int) ≤ (j : Int) := by omega
      simp [isNumD, this]
    refine ⟨a, _, rfl, SqT.of ha, rfl, _, _, rfl, _, _, rfl, rfl, ?_⟩
    refine ⟨_, rfl, _, _, rfl, .int _, trivial, fun H2 e2 => ⟨_, rfl, ?_⟩⟩
    rw [nn]
    refine iteF ?_
    refine ⟨_, rfl, _, rfl, t2, _, rfl, .inr (SqT.of (e2 _ _ ht2)), _, _, rfl, rfl, _, rfl, ?_⟩
    refine ite2 (fun g => ?_) (fun _ => ?_)
    · have := of_decide_eq_true g
      omega
    · refine ⟨_, rfl, _, rfl, by show 2 ≤ sizeLine; decide, fun t3 ht3 => ?_⟩
      have e3 := Ext.new (o := .tup [.str ps[i].1, .ref t2]) ht3
      exact q _ _ ((e1.trans e2).trans e3) (.tup upd_same (.cons (.str _) (.cons (.tup ((e2.trans e3) _ _ ht2) (DqAll.up (e2.trans e3) hys)) .nil)))
theorem sc_arm : FnScope ["self", "place", "index"] ["self", "place", "index"] (defScope (cP 10)) := ⟨rfl, rfl, rfl, by decide +kernel, rfl, by decide +kernel, by decide +kernel⟩
theorem ok_arm {f : Addr} {fd : FuncData} (F : Fun K "arm" "Program.arm" (cP 10) f fd) (L : PT K mg C) (MA : Cm P w K mg base C 4 "_place_with_arm" ["self", "place", "index"] (spPlArm C)) :
    FnOk P w K mg base CX0 5 f fd ["self", "place", "index"] (spArmAt C) := by
  refine F.ok sc_arm (fun vs H Q E h => ?_) (fun cdv A outer s H vs Q E hr h => ?_)
  · obtain ⟨p, ps, i, hi, j, hj, rfl, _⟩ := h
    rfl
  · obtain ⟨p, ps, i, hi, j, hj, rfl, hP, q⟩ := h
    refine ⟨_, (pss_one (ps_ret (pe_ix ix_tup (pe_ix ix_tup (pe_cm MA L.cl (hr.mono (by decide)) (pv 0) (pa_cons (pv 1) (pa_cons (pv 2) pa_nil))) pe_int (fun _ _ => rfl)) (pv 2) (fun _ _ => rfl)))), ?_⟩
    obtain ⟨dx, t, u, xs, us, h1, _⟩ := id hP
    refine ⟨_, rfl, p, dx, _, rfl, h1, pf_no _ _ (by decide +kernel) (by decide +kernel), _, rfl, _, rfl, p, ps, i, hi, j, hj, rfl, hP, fun r H1 e1 hr1 => ?_⟩
    obtain ⟨a, t2, ys, rfl, ha, ht2, hys⟩ := place_inv hr1
    obtain ⟨v, hv, dv⟩ := DqAll_get hys j (armD ps[i].2[j]) (by rw [List.getElem?_map, List.getElem?_eq_getElem hj]; rfl)
    exact ⟨a, _, _, _, rfl, rfl, SqT.of ha, rfl, _, rfl, t2, _, _, _, rfl, rfl, SqT.of ht2, atI_nat hv, q _ _ e1 dv⟩
def spUsed (C : Addr) : Sp := fun vs H Q _ => ∃ (p : Addr) (ps : List Place), vs = [.ref p] ∧ ProgAt C H p ps ∧
  ∀ (l : Addr) (us : List Str) (H' : Hp), H l = none → Ext H H' → H' l = some (.lst (us.map V.str)) → sortedS us = true → us.Nodup → us.length ≤ 40 → (∀ x, x ∈ us ↔ x ∈ lanesP ps) → Q (.ref l) H'
end
end K70

set_option Elab.async false
set_option linter.all false
set_option maxRecDepth 100000
set_option maxHeartbeats 4000000
namespace K70
open PySem PySem.Spec PyProof.Rows L2 Ol RZ
open TL (tl)
section
variable {P : Program} {w : World} {K : PySem.W.Frag} {mg : Str → Option Value} {base : Heap} {C CP : Addr}
theorem len_sub : ∀ (us ns : List Str), us.Nodup → (∀ x ∈ us, x ∈ ns) → us.length ≤ ns.length
  | [], _, _, _ => Nat.zero_le _
  | u :: us, ns, hd, hs => by
    rw [List.nodup_cons] at hd
    have m : u ∈ ns := hs u List.mem_cons_self
    have ih := len_sub us (ns.erase u) hd.2 fun x hx => (List.mem_erase_of_ne (fun z => hd.1 (by rw [← z]; exact hx))).mpr (hs x (List.mem_cons_of_mem _ hx))
    rw [List.length_erase_of_mem m] at ih
    have := List.length_pos_of_mem m
    rw [List.length_cons]
    omega
/-- the method used -/
structure UsM (P : Program) (w : World) (K : PySem.W.Frag) (mg : Str → Option Value) (base : Heap) (C : Addr) : Prop where
  has : ∃ (f : Addr) (fd : FuncData), FnOk P w K mg base CX0 1 f fd ["self"] (spUsed C) ∧ Meth K C "used" f ∧ Binds K fd ["self"] []
def spCkL (C CP : Addr) : Sp := fun vs H Q _ => ∃ (lx l : Addr) (ns : List Str) (bs : List Int) (pp : List Addr), vs = [.ref lx, .ref l] ∧ LanesAt C H lx ns bs ∧ H l = some (.lst (pp.map V.ref)) ∧ pp.length ≤ 4 ∧ (∀ p ∈ pp, ∃ ps, ProgAt CP H p ps ∧ ∀ x ∈ lanesP ps, x ∈ ns) ∧ ∀ H', Ext H H' → Q .non H'
abbrev nCkl : List Str := ["lanes", "programs", "names", "program", "name"]
end
end K70

set_option Elab.async false
set_option linter.all false
set_option maxRecDepth 100000
set_option maxHeartbeats 4000000
namespace K70
open PySem PySem.Spec PyProof.Rows L2 Ol RZ
open TL (tl)
/-! ### _law_arm -/
abbrev w9V : List V := [.str "send", .str "take", .str "send", .str "take", .str "ended", .str "close", .str "else", .str "send", .str "take"]
theorem w9 {i : Nat} (h : i < 9) : ∃ x, w9V[i]? = some (.str x) ∧ (x = "else" ∨ x ∈ words4) := by
  have : i = 0 ∨ i = 1 ∨ i = 2 ∨ i = 3 ∨ i = 4 ∨ i = 5 ∨ i = 6 ∨ i = 7 ∨ i = 8 := by omega
  rcases this with rfl | rfl | rfl | rfl | rfl | rfl | rfl | rfl | rfl <;> first | exact ⟨_, rfl, .inr (by decide +kernel)⟩ | exact ⟨_, rfl, .inl rfl⟩
section
variable {P : Program} {w : World} {K : PySem.W.Frag} {mg : Str → Option Value} {base : Heap} {C CP : Addr}
def spLArm : Sp := fun vs H Q _ => ∃ (p nl : Addr) (ns : List Str) (pl : Nat), vs = [.ref p, .ref nl, .int (pl : Int)] ∧ Bag H p ∧ H nl = some (.lst (ns.map V.str)) ∧ 1 ≤ ns.length ∧ ns.length ≤ 3 ∧ (∀ x ∈ ns, isNameS x = true) ∧ 1 ≤ pl ∧ pl ≤ 5 ∧
  ∀ (r : Addr) (H' : Hp) (a : Arm), Ext H H' → Dq H' (.ref r) (armD a) → GArm a → a.2 < pl → (∀ p, a.1 = some p → p.2 ∈ ns) → Q (.ref r) H'
abbrev s__law_arm : Stmt := (topS 41)
theorem sc__law_arm : FnScope ["_law_bag_here", "_law_names_here", "_law_places", "_law_word"] ["_law_bag_here", "_law_names_here", "_law_places"] (defScope s__law_arm) := ⟨rfl, rfl, rfl, by decide +kernel, rfl, by decide +kernel, by decide +kernel⟩
theorem ok_larm {f : Addr} {fd : FuncData} (F : Fun K "_law_arm" "_law_arm" s__law_arm f fd) (T : BT mg)
    (CT : Ca P w K mg base 1 "_law_take" ["_law_bag_here", "_law_many"] spTake) :
    FnOk P w K mg base CX0 2 f fd ["_law_bag_here", "_law_names_here", "_law_places"] spLArm := by
  refine F.ok sc__law_arm (fun vs H Q E h => ?_) (fun cdv A outer s H vs Q E hr h => ?_)
  · obtain ⟨p, nl, ns, pl, rfl, _⟩ := h
    rfl
  · obtain ⟨p, nl, ns, pl, rfl, hB, hnl, n1, n3, hns, p1, p5, q⟩ := h
    refine ⟨_, (pss_cons (ps_set (i := 3) sc__law_arm.nd rfl (.inl rfl) (pe_ix ix_list (pe_lst (pa_cons pe_str (pa_cons pe_str (pa_cons pe_str (pa_cons pe_str (pa_cons pe_str (pa_cons pe_str (pa_cons pe_str (pa_cons pe_str (pa_cons pe_str pa_nil)))))))))) (pe_ca CT (hr.mono (by decide)) (by rfl) (pa_cons (pv 0) (pa_cons pe_int pa_nil))) (fun _ _ => rfl)))
    (pss_cons (ps_if (pt_cmpR op_eq (pv 3) pe_str (nomark _))
      (pss_one (ps_ret (pe_tup (pa_cons pe_str (pa_cons (pe_ca CT (hr.mono (by decide)) (by rfl) (pa_cons (pv 0) (pa_cons (pv 2) pa_nil))) pa_nil)))))
      pss_nil)
    (pss_one (ps_ret (pe_tup (pa_cons (pv 3) (pa_cons (pe_ix ix_list (pv 1) (pe_ca CT (hr.mono (by decide)) (by rfl) (pa_cons (pv 0) (pa_cons (pe_callB call_len_seq (by rfl) T.n_len (by decide +kernel) (pa_cons (pv 1) pa_nil)) pa_nil))) (fun _ _ => rfl)) (pa_cons (pe_ca CT (hr.mono (by decide)) (by rfl) (pa_cons (pv 0) (pa_cons (pv 2) pa_nil))) pa_nil)))))))), ?_⟩
    refine ⟨by show 9 ≤ sizeLine; decide, fun l hl => ?_⟩
    have e1 := Ext.new (o := .lst w9V) hl
    have h1 : upd H l (.lst w9V) l = some (.lst w9V) := upd_same
    generalize upd H l _ = H1 at e1 h1 ⊢
    refine ⟨_, rfl, p, 9, rfl, hB.up e1, by decide, by decide, fun r r0 r1 => ?_⟩
    obtain ⟨i, rfl⟩ := Int.eq_ofNat_of_zero_le r0
    obtain ⟨x, hx, hw⟩ := w9 (i := i) (by omega)
    refine ⟨l, _, (i : Int), .str x, rfl, rfl, SqL.of h1, atI_nat hx, ?_⟩
    refine ⟨_, rfl, rfl, _, rfl, ?_⟩
    refine ite2 (fun g => ?_) (fun g => ?_)
    · refine ⟨_, rfl, _, rfl, p, _, rfl, hB.up e1, by omega, by omega, fun g g0 g1 => ⟨by show 2 ≤ sizeLine; decide, fun t ht => ?_⟩⟩
      obtain ⟨gn, rfl⟩ := Int.eq_ofNat_of_zero_le g0
      refine q t _ (none, gn) (e1.trans (Ext.new ht)) (.tup upd_same (.cons (.str _) (.cons (.int _) .nil))) trivial (by show gn < pl; omega) (fun p hp => by cases hp)
    · have hw4 : x ∈ words4 := by
        rcases hw with h | h
        · exact absurd (dec_word.mpr h) g
        · exact h
      refine ⟨_, rfl, _, rfl, _, rfl, _, rfl, nl, _, rfl, .inl (SqL.of (e1 _ _ hnl)), p, _, rfl, hB.up e1, by rw [List.length_map]; omega, by rw [List.length_map]; omega, fun j j0 j1 => ?_⟩
      rw [List.length_map] at j1
      obtain ⟨jn, rfl⟩ := Int.eq_ofNat_of_zero_le j0
      have hj : jn < ns.length := by omega
      refine ⟨nl, _, (jn : Int), .str ns[jn], rfl, rfl, SqL.of (e1 _ _ hnl), atI_nat (ix_get jn hj), ?_⟩
      refine ⟨_, rfl, _, rfl, p, _, rfl, hB.up e1, by omega, by omega, fun g g0 g1 => ⟨by show 3 ≤ sizeLine; decide, fun t ht => ?_⟩⟩
      obtain ⟨gn, rfl⟩ := Int.eq_ofNat_of_zero_le g0
      refine q t _ (some (x, ns[jn]), gn) (e1.trans (Ext.new ht)) (.tup upd_same (.cons (.str _) (.cons (.str _) (.cons (.int _) .nil)))) ⟨hw4, hns _ (List.getElem_mem hj)⟩ (by show gn < pl; omega) (fun p hp => by cases hp; exact List.getElem_mem hj)
end
end K70

set_option Elab.async false
set_option linter.all false
set_option maxRecDepth 100000
set_option maxHeartbeats 4000000
namespace K70
open PySem PySem.Spec PyProof.Rows L2 Ol RZ
open TL (tl)
/-! ### sizes of arms -/
theorem sysUp {H H' : Hp} (h : Sys H) (e : Ext H H') : Sys H' := by
  obtain ⟨o, u, q⟩ := h
  exact ⟨o, u, e _ _ q⟩
theorem eqv_e (ds : List PyData) : PyData.eqv (.list ds) (.list []) = ds.isEmpty := by
  cases ds <;> simp [PyData.eqv, PyData.eqvAll]
theorem gd_nat5 {n : Nat} (h : n ≤ 6) : Gd 0 (.int (n : Int)) := by
  have : n = 0 ∨ n = 1 ∨ n = 2 ∨ n = 3 ∨ n = 4 ∨ n = 5 ∨ n = 6 := by omega
  rcases this with rfl | rfl | rfl | rfl | rfl | rfl | rfl <;> exact gd_int _ (by decide +kernel) (by decide +kernel)
theorem gd_arm {a : Arm} (h : GArm a) (hg : a.2 ≤ 6) : Gd 1 (armD a) := by
  obtain ⟨o, g⟩ := a
  cases o with
  | none =>
    refine gd_tuple (fun d hd => ?_) (by simp)
    simp only [List.mem_cons, List.not_mem_nil, or_false] at hd
    rcases hd with rfl | rfl
    · exact gd_str _ (by decide +kernel) (by decide +kernel)
    · exact gd_nat5 hg
  | some p =>
    obtain ⟨w, l⟩ := p
    have h' : w ∈ words4 ∧ isNameS l = true := h
    refine gd_tuple (fun d hd => ?_) (by simp)
    simp only [List.mem_cons, List.not_mem_nil, or_false] at hd
    rcases hd with rfl | rfl | rfl
    · exact word_gd _ h'.1
    · exact name_gd h'.2
    · exact gd_nat5 hg
theorem lay_arm {a : Arm} (h : GArm a) : (armD a).canLay0 = true := by
  obtain ⟨o, g⟩ := a
  cases o with
  | none =>
    show (PyData.tuple [.str "else", .int (g : Int)]).canLay0 = true
    simp only [PyData.canLay0, PyData.canLayAll0, Bool.and_true]
    decide +kernel
  | some p =>
    obtain ⟨w, l⟩ := p
    have h' : w ∈ words4 ∧ isNameS l = true := h
    show (PyData.tuple [.str w, .str l, .int (g : Int)]).canLay0 = true
    simp only [PyData.canLay0, PyData.canLayAll0, Bool.and_true, Bool.and_eq_true]
    exact ⟨word_ok _ h'.1, name_ok h'.2⟩
theorem arms_shaped {as : List Arm} (h : ∀ a ∈ as, GArm a ∧ a.2 ≤ 6) : SeqAt.shaped (.list (as.map armD)) = true := by
  have hg : ∀ d ∈ as.map armD, Gd 1 d := fun d hd => by
    obtain ⟨a, ha, rfl⟩ := List.mem_map.mp hd
    exact gd_arm (h a ha).1 (h a ha).2
  refine lay_shaped ?_ ?_
  · rw [PyData.canLay0]
    refine lay_all fun d hd => ?_
    obtain ⟨a, ha, rfl⟩ := List.mem_map.mp hd
    exact lay_arm (h a ha).1
  · have := (all_sh hg).2.1
    simp only [PyData.depth]
    omega
theorem nil_shaped : SeqAt.shaped (.list []) = true := by
  refine lay_shaped (by simp [PyData.canLay0, PyData.canLayAll0]) (by simp [PyData.depth, PyData.depthAll])
theorem filt_step {as : List Arm} {k : Nat} (h : k < as.length) (q : Arm → Bool) : (as.take (k + 1)).filter q = (as.take k).filter q ++ (if q as[k] = true then [as[k]] else []) := by
  rw [List.take_add_one, List.getElem?_eq_getElem h, List.filter_append]
  congr 1
  cases hq : q as[k] <;> simp [hq]
theorem arm_at {H : Hp} {r : Addr} {a : Arm} (h : Dq H (.ref r) (armD a)) : ∃ xs, H r = some (.tup xs) ∧ ∀ H' : Hp, H' r = some (.tup xs) → Dq H' (.ref r) (armD a) := by
  obtain ⟨o, g⟩ := a
  cases o with
  | none =>
    obtain ⟨t, xs, ds, e, ed, h1, h2⟩ := dq_tup (d := .tuple [.str "else", .int (g : Int)]) h rfl
    cases e
    cases ed
    refine ⟨xs, h1, fun H' h' => ?_⟩
    cases h2 with
    | cons a1 t1 => cases t1 with
      | cons a2 t2 =>
        cases t2
        cases a1
        cases a2
        exact .tup h' (.cons (.str _) (.cons (.int _) .nil))
  | some p =>
    obtain ⟨t, xs, ds, e, ed, h1, h2⟩ := dq_tup (d := .tuple [.str p.1, .str p.2, .int (g : Int)]) h rfl
    cases e
    cases ed
    refine ⟨xs, h1, fun H' h' => ?_⟩
    cases h2 with
    | cons a1 t1 => cases t1 with
      | cons a2 t2 => cases t2 with
        | cons a3 t3 =>
          cases t3
          cases a1
          cases a2
          cases a3
          exact .tup h' (.cons (.str _) (.cons (.str _) (.cons (.int _) .nil)))
theorem els_iff {a : Arm} (h : GArm a) : ((match a.1 with | some p => p.1 | none => ("else" : Str)) : Str) = ("else" : Str) ↔ a.1.isNone = true := by
  obtain ⟨o, g⟩ := a
  cases o with
  | none => exact ⟨fun _ => rfl, fun _ => rfl⟩
  | some p =>
    have h' : p.1 ∈ words4 ∧ isNameS p.2 = true := h
    refine ⟨fun z => ?_, fun z => Bool.noConfusion z⟩
    have hw := h'.1
    have z' : p.1 = "else" := z
    rw [z'] at hw
    exact absurd hw (by decide +kernel)
/-- the arms found so far -/
def InA (n : Nat) (ns : List Str) (Hb : Hp) (al fl : Addr) (j : Nat) (H' : Hp) : Prop := ∃ (ys : List V) (as : List Arm), Ext Hb H' ∧ H' al = some (.lst ys) ∧ DqAll (del (del H' al) fl) ys (as.map armD) ∧ as.length ≤ j ∧
  (∀ a ∈ as, GArm a ∧ a.2 < n ∧ ∀ p, a.1 = some p → p.2 ∈ ns) ∧ (as.filter fun a : Arm => a.1.isNone).length ≤ 1
theorem InA.add {n : Nat} {ns : List Str} {Hb H6 H7 : Hp} {al fl : Addr} {j : Nat} {ys : List V} {as : List Arm} {a : Arm} {r : Addr} (hal : Hb al = none) (e : Ext Hb H6) (e67 : Ext H6 H7)
    (hy : DqAll (del (del H6 al) fl) ys (as.map armD)) (hl : as.length ≤ j) (ga : ∀ a ∈ as, GArm a ∧ a.2 < n ∧ ∀ p, a.1 = some p → p.2 ∈ ns) (he : (as.filter fun a : Arm => a.1.isNone).length ≤ 1)
    (hr : Dq (del (del H7 al) fl) (.ref r) (armD a)) (g : GArm a ∧ a.2 < n ∧ ∀ p, a.1 = some p → p.2 ∈ ns) (hc : (as.filter fun a : Arm => a.1.isNone).length = 0 ∨ a.1.isNone = false) :
    InA n ns Hb al fl (j + 1) (upd H7 al (.lst (ys ++ [.ref r]))) := by
  refine ⟨ys ++ [.ref r], as ++ [a], Ext.mut (e.trans e67) hal, upd_same, ?_, by rw [List.length_append, List.length_singleton]; omega, fun b hb => ?_, ?_⟩
  · rw [del_upd, List.map_append]
    exact dq_app (DqAll.up (ext_del (ext_del e67)) hy) (.cons hr .nil)
  · rcases List.mem_append.mp hb with h | h
    · exact ga b h
    · rw [List.mem_singleton.mp h]
      exact g
  · rw [List.filter_append, List.length_append]
    rcases hc with h | h
    · rw [h]
      have : ([a].filter fun a : Arm => a.1.isNone).length ≤ 1 := Nat.le_trans (List.length_filter_le ..) (by simp)
      omega
    · rw [List.filter_cons_of_neg (by rw [h]; decide)]
      simpa using he
/-! ### _law_program -/
structure GL (n : Nat) (ns : List Str) (p : Place) : Prop where
  place : GPlace n p
  few : p.2.length ≤ 20
  lanes : ∀ x ∈ lanesA p.2, x ∈ ns
section
variable {P : Program} {w : World} {K : PySem.W.Frag} {mg : Str → Option Value} {base : Heap} {C CP : Addr}
def spLProg : Sp := fun vs H Q _ => ∃ (p nl : Addr) (ns : List Str) (n : Nat), vs = [.ref p, .ref nl, .int (n : Int)] ∧ Sys H ∧ Bag H p ∧ H nl = some (.lst (ns.map V.str)) ∧ 1 ≤ ns.length ∧ ns.length ≤ 3 ∧ (∀ x ∈ ns, isNameS x = true) ∧ 1 ≤ n ∧ n ≤ 5 ∧
  ∀ (fl : Addr) (xs : List V) (ps : List Place) (H' : Hp), H fl = none → Ext H H' → H' fl = some (.lst xs) → DqAll (del H' fl) xs (ps.map placeD) → ps.length = n → (∀ q ∈ ps, GL n ns q) → Q (.ref fl) H'
abbrev s__law_program : Stmt := (topS 42)
abbrev nLPr : List Str := ["_law_bag_here", "_law_names_here", "_law_places", "_law_found", "_law_place", "_law_mode", "_law_arms", "_law_k", "_law_arm_here", "_law_one"]
theorem sc__law_program : FnScope nLPr ["_law_bag_here", "_law_names_here", "_law_places"] (defScope s__law_program) := ⟨rfl, rfl, rfl, by decide +kernel, rfl, by decide +kernel, by decide +kernel⟩
abbrev k8V : List V := [.int 1, .int 2, .int 1, .int 2, .int 3, .int 0, .int 2, .int 1]
theorem k8 {i : Nat} (h : i < 8) : ∃ m : Nat, k8V[i]? = some (.int (m : Int)) ∧ m ≤ 3 := by
  have : i = 0 ∨ i = 1 ∨ i = 2 ∨ i = 3 ∨ i = 4 ∨ i = 5 ∨ i = 6 ∨ i = 7 := by omega
  rcases this with rfl | rfl | rfl | rfl | rfl | rfl | rfl | rfl
  · exact ⟨1, rfl, by decide⟩
  · exact ⟨2, rfl, by decide⟩
  · exact ⟨1, rfl, by decide⟩
  · exact ⟨2, rfl, by decide⟩
  · exact ⟨3, rfl, by decide⟩
  · exact ⟨0, rfl, by decide⟩
  · exact ⟨2, rfl, by decide⟩
  · exact ⟨1, rfl, by decide⟩
theorem ok_lprog {f : Addr} {fd : FuncData} (F : Fun K "_law_program" "_law_program" s__law_program f fd) (T : BT mg)
    (CT : Ca P w K mg base 1 "_law_take" ["_law_bag_here", "_law_many"] spTake) (CAr : Ca P w K mg base 2 "_law_arm" ["_law_bag_here", "_law_names_here", "_law_places"] spLArm) :
    FnOk P w K mg base CX0 3 f fd ["_law_bag_here", "_law_names_here", "_law_places"] spLProg := by
  refine F.ok sc__law_program (fun vs H Q E h => ?_) (fun cdv A outer s H vs Q E hr h => ?_)
  · obtain ⟨p, nl, ns, n, rfl, _⟩ := h
    rfl
  · obtain ⟨p, nl, ns, n, rfl, hS, hB, hnl, n1, n3, hns, p1, p5, q⟩ := h
    refine ⟨_, (pss_cons (ps_set (i := 3) sc__law_program.nd rfl (.inl rfl) (pe_lst pa_nil))
    (pss_cons (ps_for PassesOwn.never rfl (pi_range1 (by rfl) T.n_range (pa_cons (pv 2) pa_nil)) (pg_name (i := 4) sc__law_program.nd rfl (.inl rfl))
      (pss_cons (ps_par (i := 5) (j := 6) rfl sc__law_program.nd rfl rfl (by decide) rfl rfl (pa_cons (pe_ix ix_list (pe_lst (pa_cons pe_str (pa_cons pe_str pa_nil))) (pe_ca CT (hr.mono (by decide)) (by rfl) (pa_cons (pv 0) (pa_cons pe_int pa_nil))) (fun _ _ => rfl)) (pa_cons (pe_lst pa_nil) pa_nil)) (by rfl))
      (pss_cons (ps_for PassesOwn.never rfl (pi_range1 (by rfl) T.n_range (pa_cons (pe_ix ix_list (pe_lst (pa_cons pe_int (pa_cons pe_int (pa_cons pe_int (pa_cons pe_int (pa_cons pe_int (pa_cons pe_int (pa_cons pe_int (pa_cons pe_int pa_nil))))))))) (pe_ca CT (hr.mono (by decide)) (by rfl) (pa_cons (pv 0) (pa_cons pe_int pa_nil))) (fun _ _ => rfl)) pa_nil)) (pg_name (i := 7) sc__law_program.nd rfl (.inl rfl))
        (pss_cons (ps_set (i := 8) sc__law_program.nd rfl (.inl rfl) (pe_ca CAr (hr.mono (by decide)) (by rfl) (pa_cons (pv 0) (pa_cons (pv 1) (pa_cons (pv 2) pa_nil)))))
        (pss_one (ps_if (PW.pt (pw_or (pt_cmpR op_ne (pe_ix ix_tup (pv 8) pe_int (fun _ _ => rfl)) pe_str (nomark _)) (pw_or1 (pt_cmpR (op_eqQ hr) (pe_lc (own := [("_law_one", 9)]) (g := gName 9) (tt := tTest (tOp rEq (tOp (rIxT K) (tVar 9) (tC (.int 0))) (tC (.str "else")))) rfl sc__law_program.nd (pi_list (pv 6)) (blkOk_by (N := nLPr) (sc := defScope s__law_program) (by decide +kernel)) (fun _ _ _ _ _ => (pg_name (i := 9) sc__law_program.nd rfl (.inl rfl))) (fun _ _ _ _ _ => (pts_one (pt_cmpR op_eq (pe_ix ix_tup (pv 9) pe_int (fun _ _ => rfl)) pe_str (nomark _)))) (fun _ _ _ _ _ => (pv 9))) (pe_lst pa_nil) (nomark _)))))
          (pss_one (ps_expr (pe_bm PySem.F.plainAttrs_list PySem.F.slot_list_append PySem.F.type_list_append mt_append (pv 6) (pa_cons (pv 8) pa_nil))))
          pss_nil))))
      (pss_one (ps_expr (pe_bm PySem.F.plainAttrs_list PySem.F.slot_list_append PySem.F.type_list_append mt_append (pv 3) (pa_cons (pe_tup (pa_cons (pv 5) (pa_cons (pe_callTy call_tuple_of (by rfl) T.n_tuple (by decide +kernel) (pa_cons (pv 6) pa_nil)) pa_nil))) pa_nil)))))))
    (pss_one (ps_ret (pv 3))))), ?_⟩
    refine ⟨by show 0 ≤ sizeLine; decide, fun fl hfl => ?_⟩
    have e0 := Ext.new (o := .lst []) hfl
    refine ⟨_, rfl, _, rfl, by omega, by omega, ?_⟩
    refine for_range (fun i σ H' => ∃ s4 s5 s6 s7 s8 s9 xs ps, σ = [some (.ref p), some (.ref nl), some (.int (n : Int)), some (.ref fl), s4, s5, s6, s7, s8, s9] ∧ Ext H H' ∧ H' fl = some (.lst xs) ∧ DqAll (del H' fl) xs (ps.map placeD) ∧ ps.length = i ∧ ∀ q ∈ ps, GL n ns q)
      ⟨none, none, none, none, none, none, [], [], rfl, e0, upd_same, .nil, rfl, fun q hq => by cases hq⟩ ?_ ?_
    · rintro i σ H1 hi ⟨s4, s5, s6, s7, s8, s9, xs, ps, rfl, e1, f1, hx, hl, gd⟩
      have hi5 : i < 5 := by omega
      refine ⟨by show 2 ≤ sizeLine; decide, fun l hl2 => ?_⟩
      have x1 := Ext.new (o := .lst [V.str "first", V.str "any"]) hl2
      have y1 : upd H1 l (.lst [V.str "first", V.str "any"]) l = some (.lst [V.str "first", V.str "any"]) := upd_same
      generalize upd H1 l _ = H2 at x1 y1 ⊢
      have e2 := e1.trans x1
      refine ⟨_, rfl, p, 2, rfl, hB.up e2, by decide, by decide, fun r r0 r1 => ?_⟩
      obtain ⟨m, hm, hmd⟩ : ∃ m : Str, atI [V.str "first", V.str "any"] r = some (.str m) ∧ (m = "first" ∨ m = "any") := by
        have : r = 0 ∨ r = 1 := by omega
        rcases this with rfl | rfl
        · exact ⟨_, rfl, .inl rfl⟩
        · exact ⟨_, rfl, .inr rfl⟩
      refine ⟨l, _, r, .str m, rfl, rfl, SqL.of y1, hm, ?_⟩
      refine ⟨by show 0 ≤ sizeLine; decide, fun al hal => ⟨_, _, rfl, ?_⟩⟩
      have e3 := Ext.new (o := .lst []) hal
      have f2 := x1 _ _ f1
      have nfa : al ≠ fl := fun z => by rw [z, f2] at hal; cases hal
      refine ⟨by show 8 ≤ sizeLine; decide, fun l3 hl3 => ?_⟩
      have x4 := Ext.new (o := .lst k8V) hl3
      have y4 : upd (upd H2 al (.lst [])) l3 (.lst k8V) l3 = some (.lst k8V) := upd_same
      have ya : upd (upd H2 al (.lst [])) l3 (.lst k8V) al = some (.lst []) := x4 _ _ upd_same
      have e24 : Ext H2 (upd (upd H2 al (.lst [])) l3 (.lst k8V)) := e3.trans x4
      generalize upd (upd H2 al (.lst [])) l3 _ = H4 at e24 y4 ya ⊢
      refine ⟨_, rfl, p, 8, rfl, hB.up (e2.trans e24), by decide, by decide, fun r8 r80 r81 => ?_⟩
      obtain ⟨i8, rfl⟩ := Int.eq_ofNat_of_zero_le r80
      obtain ⟨m8, hm8, l8⟩ := k8 (i := i8) (by omega)
      refine ⟨l3, _, (i8 : Int), .int (m8 : Int), rfl, rfl, SqL.of y4, atI_nat hm8, _, rfl, by omega, by omega, ?_⟩
      refine for_range (fun j σ H' => ∃ s7 s8 s9, σ = [some (.ref p), some (.ref nl), some (.int (n : Int)), some (.ref fl), some (.int (0 + (i : Int))), some (.str m), some (.ref al), s7, s8, s9] ∧ InA n ns H2 al fl j H')
        ⟨_, _, _, rfl, [], [], e24, ya, .nil, by simp, fun a ha => (by cases ha), by simp⟩ ?_ ?_
      · rintro j σ H5 hj ⟨s7, s8, s9, rfl, ys, as, e5, a5, hy, hla, ga, he⟩
        have hj3 : j < 3 := by omega
        have hB5 := hB.up (e2.trans e5)
        refine ⟨_, rfl, _, rfl, _, rfl, p, nl, ns, n, rfl, hB5, (e2.trans e5) _ _ hnl, n1, n3, hns, p1, p5, fun r H6 a e6 hra g1 g2 g3 => ?_⟩
        have e56 := e5.trans e6
        have a6 := e6 _ _ a5
        have f6 := e56 _ _ f2
        have lys : ys.length = as.length := by rw [hy.len, List.length_map]
        obtain ⟨ws, h4, re⟩ := arm_at hra
        obtain ⟨t4, ws4, et4, h4', _, h40, _⟩ := arm_inv hra
        cases et4
        rw [h4] at h4'
        cases h4'
        have nta : r ≠ al := fun z => by rw [z, a6] at h4; cases h4
        have ntf : r ≠ fl := fun z => by rw [z, f6] at h4; cases h4
        have hra' : ∀ H7 : Hp, Ext H6 H7 → Dq (del (del H7 al) fl) (.ref r) (armD a) := fun H7 e7 => re _ (by rw [del_ne ntf, del_ne nta]; exact e7 _ _ h4)
        have hy6 : DqAll (del (del H6 al) fl) ys (as.map armD) := DqAll.up (ext_del (ext_del e6)) hy
        have hlen : ys.length < sizeLine := by rw [lys]; exact Nat.lt_of_le_of_lt (show _ ≤ 3 by omega) (by decide)
        have nxt : ∀ H7 : Hp, Ext H6 H7 → ((as.filter fun a : Arm => a.1.isNone).length = 0 ∨ a.1.isNone = false) → InA n ns H2 al fl (j + 1) (upd H7 al (.lst (ys ++ [.ref r]))) := fun H7 e7 hc =>
          InA.add hal e56 e7 hy6 hla ga he (hra' H7 e7) ⟨g1, g2, g3⟩ hc
        refine ⟨_, rfl, r, ws, 0, _, rfl, rfl, SqT.of h4, h40, rfl, _, rfl, ?_⟩
        refine ite2 (fun g => ?_) (fun g => ?_)
        · refine iteT ?_
          refine ⟨_, rfl, .inl ⟨rfl, _, SqL.of a6⟩, _, rfl, al, ys, _, rfl, rfl, a6, hlen, _, _, _, rfl, nxt H6 (Ext.refl _) (.inr ?_)⟩
          cases ha : a.1 with
          | none => rw [ha] at g; simp at g
          | some _ => rfl
        · refine ⟨_, rfl, al, rfl, ⟨_, SqL.of a6⟩, fun D hD => ?_⟩
          refine lc1_acc (walk_list (xs := ys)) (fun k zs Hz => DqAll Hz zs (((as.take k).filter fun a : Arm => a.1.isNone).map armD)) (fun _ _ _ _ e h => DqAll.up e h) .nil hD
            (fun k zs Hz h => ?_) (fun Hz ez => SqL.of (ez _ _ a6)) ?_ ?_
          · rw [h.len, List.length_map]
            refine Nat.lt_of_le_of_lt (Nat.le_trans (List.length_filter_le ..) ?_) (show 3 < sizeLine by decide)
            rw [List.length_take]
            omega
          · rintro k y Ha Hb zs hk ea hza ⟨rfl, hyk⟩ hp QY QN kY kN
            have hk2 : k < as.length := by omega
            obtain ⟨y', hy', dy'⟩ := DqAll_get (DqAll.up (del_ext.trans del_ext) hy6) k (armD as[k]) (by rw [List.getElem?_map, List.getElem?_eq_getElem hk2]; rfl)
            rw [hyk] at hy'
            cases hy'
            obtain ⟨t5, ws5, rfl, h5, _, h50, _⟩ := arm_inv (dy'.up ea)
            have gk := ga _ (List.getElem_mem hk2)
            refine ⟨rfl, ?_⟩
            refine ⟨_, rfl, t5, ws5, 0, _, rfl, rfl, SqT.of h5, h50, rfl, _, rfl, ?_⟩
            refine ite2 (fun g' => ?_) (fun g' => ?_)
            · have ee := (els_iff gk.1).mp (dec_word.mp g')
              refine ⟨_, rfl, kY _ _ (Ext.refl _) ?_⟩
              rw [filt_step hk2, ee, if_pos rfl, List.map_append]
              exact dq_app hp (.cons (dy'.up (ext_to ea hD)) .nil)
            · have ee : as[k].1.isNone = false := Bool.eq_false_iff.mpr fun z => g' (dec_word.mpr ((els_iff gk.1).mpr z))
              refine kN _ (Ext.refl _) ?_
              rw [filt_step hk2, ee, if_neg (by decide), List.append_nil]
              exact hp
          rintro H7 zs e7 hz hp
          rw [lys, List.take_length] at hp
          refine ⟨by show 0 ≤ sizeLine; decide, fun l7 hl7 => ?_⟩
          have e8 := Ext.new (o := .lst []) hl7
          have e78 := e7.trans e8
          refine ⟨.list ((as.filter fun a : Arm => a.1.isNone).map armD), .list [], sysUp hS ((e2.trans e56).trans e78), .lst (e8 _ _ hz) (DqAll.up e8 hp), .lst upd_same .nil, arms_shaped (fun a ha => ⟨(ga a (List.mem_filter.mp ha).1).1, by have := (ga a (List.mem_filter.mp ha).1).2.1; omega⟩), nil_shaped, _, rfl, ?_⟩
          rw [eqv_e]
          refine ite2 (fun g' => ?_) (fun g' => ?_)
          · have hz0 : (as.filter fun a : Arm => a.1.isNone).length = 0 := by
              have := List.isEmpty_iff.mp g'
              rw [← List.length_map (f := armD), this]
              rfl
            exact ⟨_, rfl, .inl ⟨rfl, _, SqL.of (e78 _ _ a6)⟩, _, rfl, al, ys, _, rfl, rfl, e78 _ _ a6, hlen, _, _, _, rfl, nxt _ e78 (.inl hz0)⟩
          · exact ⟨_, _, _, rfl, ys, as, e56.trans e78, e78 _ _ a6, DqAll.up (ext_del (ext_del e78)) hy6, by omega, ga, he⟩
      · rintro σ H5 ⟨s7, s8, s9, rfl, ys, as, e5, a5, hy, hla, ga, he⟩
        have f5 := e5 _ _ f2
        have hl3' : as.length ≤ 3 := by omega
        refine ⟨_, rfl, .inl ⟨rfl, _, SqL.of f5⟩, _, rfl, _, rfl, al, ys, rfl, .inl ⟨SqL.of a5, fun t ht => ⟨by show 2 ≤ sizeLine; decide, fun t2 ht2 => ?_⟩⟩⟩
        have x6 := Ext.new (o := .tup ys) ht
        have x7 := Ext.new (o := .tup [.str m, .ref t]) ht2
        have x67 := x6.trans x7
        have f7 := x67 _ _ f5
        have y6 : upd (upd H5 t (.tup ys)) t2 (.tup [.str m, .ref t]) t = some (.tup ys) := x7 _ _ upd_same
        have y7 : upd (upd H5 t (.tup ys)) t2 (.tup [.str m, .ref t]) t2 = some (.tup [.str m, .ref t]) := upd_same
        generalize upd (upd H5 t (.tup ys)) t2 _ = H7 at x67 f7 y6 y7 ⊢
        have nt : t ≠ fl := fun z => by rw [z, f5] at ht; cases ht
        have nt2 : t2 ≠ fl := fun z => by rw [z, x6 _ _ f5] at ht2; cases ht2
        have lxs : xs.length = ps.length := by rw [hx.len, List.length_map]
        have hyf : DqAll (del H7 fl) ys (as.map armD) := DqAll.up (ext_del x67) (DqAll.up (ext_del del_ext) hy)
        refine ⟨fl, xs, _, rfl, rfl, f7, by rw [lxs, hl]; exact Nat.lt_trans hi5 (by decide), ?_⟩
        refine ⟨_, _, _, _, _, _, xs ++ [.ref t2], ps ++ [(m, as)], rfl, Ext.mut (e2.trans (e5.trans x67)) hfl, upd_same, ?_, by rw [List.length_append, hl]; rfl, fun z hz => ?_⟩
        · rw [del_upd, List.map_append]
          exact dq_app (DqAll.up (ext_del (x1.trans (e5.trans x67))) hx) (.cons (.tup (by rw [del_ne nt2]; exact y7) (.cons (.str _) (.cons (.tup (by rw [del_ne nt]; exact y6) hyf) .nil))) .nil)
        · rcases List.mem_append.mp hz with h | h
          · exact gd z h
          · rw [List.mem_singleton.mp h]
            refine ⟨⟨hmd, fun a ha => ⟨(ga a ha).1, (ga a ha).2.1⟩, he, by show as.length ≤ 20; omega⟩, (Nat.le_trans hl3' (by decide)), fun x hx => ?_⟩
            unfold lanesA at hx
            obtain ⟨a, ha, ea⟩ := List.mem_filterMap.mp hx
            cases hp : a.1 with
            | none => rw [hp] at ea; cases ea
            | some pr =>
              rw [hp] at ea
              cases ea
              exact (ga a ha).2.2 pr hp
    · rintro σ H5 ⟨s4, s5, s6, s7, s8, s9, xs, ps, rfl, e1, f1, hx, hl, gd⟩
      exact ⟨_, rfl, q fl xs ps _ hfl e1 f1 hx (by omega) gd⟩
end
end K70

set_option Elab.async false
set_option linter.all false
set_option maxRecDepth 100000
set_option maxHeartbeats 4000000
namespace K70
open PySem PySem.Spec PyProof.Rows L2 Ol RZ
open TL (tl)
theorem beh_send (c : Nat) (b : Bool) (bd : Int) : (beh "send" c b bd).isSome = (decide ((c : Int) < bd) && !b) := by
  unfold beh beh2 beh3 beh4
  rw [if_neg (show ¬ (("send" : Str) = "take" ∧ 0 < c) from fun z => absurd z.1 (by decide +kernel)), if_neg (show ¬ (("send" : Str) = "ended" ∧ b = true ∧ c = 0) from fun z => absurd z.1 (by decide +kernel)), if_neg (show ¬ (("send" : Str) = "close" ∧ b = false) from fun z => absurd z.1 (by decide +kernel))]
  cases b with
  | true => rw [if_neg (fun z => by cases z.2.1)]; simp
  | false =>
    by_cases h : (c : Int) < bd
    · rw [if_pos ⟨rfl, rfl, h⟩, decide_eq_true h]; rfl
    · rw [if_neg (fun z => h z.2.2), decide_eq_false h]; rfl
theorem beh_take (c : Nat) (b : Bool) (bd : Int) : (beh "take" c b bd).isSome = decide ((0 : Int) < c) := by
  unfold beh beh2 beh3 beh4
  rw [if_neg (show ¬ (("take" : Str) = "send" ∧ b = false ∧ (c : Int) < bd) from fun z => absurd z.1 (by decide +kernel)), if_neg (show ¬ (("take" : Str) = "ended" ∧ b = true ∧ c = 0) from fun z => absurd z.1 (by decide +kernel)), if_neg (show ¬ (("take" : Str) = "close" ∧ b = false) from fun z => absurd z.1 (by decide +kernel))]
  by_cases h : 0 < c
  · rw [if_pos ⟨rfl, h⟩, decide_eq_true (by omega)]; rfl
  · rw [if_neg (fun z => h z.2), decide_eq_false (by omega)]; rfl
theorem beh_ended (c : Nat) (b : Bool) (bd : Int) : (beh "ended" c b bd).isSome = (b && decide (c = 0)) := by
  unfold beh beh2 beh3 beh4
  rw [if_neg (show ¬ (("ended" : Str) = "send" ∧ b = false ∧ (c : Int) < bd) from fun z => absurd z.1 (by decide +kernel)), if_neg (show ¬ (("ended" : Str) = "take" ∧ 0 < c) from fun z => absurd z.1 (by decide +kernel)), if_neg (show ¬ (("ended" : Str) = "close" ∧ b = false) from fun z => absurd z.1 (by decide +kernel))]
  cases b with
  | false => rw [if_neg (fun z => by cases z.2.1)]; rfl
  | true =>
    by_cases h : c = 0
    · rw [if_pos ⟨rfl, rfl, h⟩, decide_eq_true h]; rfl
    · rw [if_neg (fun z => h z.2.2), decide_eq_false h]; rfl
theorem beh_close (c : Nat) (b : Bool) (bd : Int) : (beh "close" c b bd).isSome = !b := by
  unfold beh beh2 beh3 beh4
  rw [if_neg (show ¬ (("close" : Str) = "send" ∧ b = false ∧ (c : Int) < bd) from fun z => absurd z.1 (by decide +kernel)), if_neg (show ¬ (("close" : Str) = "take" ∧ 0 < c) from fun z => absurd z.1 (by decide +kernel)), if_neg (show ¬ (("close" : Str) = "ended" ∧ b = true ∧ c = 0) from fun z => absurd z.1 (by decide +kernel))]
  cases b with
  | true => rw [if_neg (fun z => by cases z.2)]; rfl
  | false => rw [if_pos ⟨rfl, rfl⟩]; rfl
section
variable {P : Program} {w : World} {K : PySem.W.Frag} {mg : Str → Option Value} {base : Heap} {C S N : Addr}
/-- a place in a list of texts -/
theorem ix_all (ns : List Str) : (ns.map V.str).all flatV = true := by
  rw [List.all_eq_true]
  intro x hx
  obtain ⟨y, _, rfl⟩ := List.mem_map.mp hx
  rfl
theorem ix_eq (x : Str) : eqV (.str x) (.str x) = true := beq_self_eq_true x
theorem ix_no {ns : List Str} (hd : ns.Nodup) (j : Nat) (hj : j < ns.length) (m : Nat) (z' : V) (hm : m < j) (hz : (ns.map V.str)[m]? = some z') : eqV z' (.str ns[j]) = false := by
  rw [List.getElem?_map, List.getElem?_eq_getElem (by omega)] at hz
  cases hz
  show (ns[m] == ns[j]) = false
  exact beq_eq_false_iff_ne.mpr fun e => List.pairwise_iff_getElem.mp hd m j (by omega) hj hm e
/-! ### _law_opens -/
def spOpens : Sp := fun vs H Q _ => ∃ (db da : Addr) (va : V) (rs : List V) (ps : List (Str × Int)) (ns : List Str) (st : Str → Nat × Bool) (word : Str) (j : Nat) (hj : j < ns.length), vs = [.ref db, va, .ref da] ∧ H db = some (.dK (kvI ps)) ∧ Dq H va (ctD (ns.map st)) ∧
  H da = some (.tup (.str word :: .str ns[j] :: rs)) ∧ ps.length ≤ 3 ∧ ns.Perm (ps.map (·.1)) ∧ ns.Nodup ∧ sortedS ns = true ∧ word ∈ words4 ∧
  ∀ H', Ext H H' → Q (.bl (beh word (st ns[j]).1 (st ns[j]).2 (bdOf ps ns[j])).isSome) H'
abbrev s_opens : Stmt := (topS 43)
theorem sc_opens : FnScope ["_law_bounds_here", "_law_content", "_law_arm_here", "_law_count", "_law_closed"] ["_law_bounds_here", "_law_content", "_law_arm_here"] (defScope s_opens) := ⟨rfl, rfl, rfl, by decide +kernel, rfl, by decide +kernel, by decide +kernel⟩
theorem kvI_keys (ps : List (Str × Int)) : (kvI ps).map (·.1) = (ps.map (·.1)).map Sum.inr := by
  unfold kvI
  rw [List.map_map, List.map_map]
  rfl
theorem ok_opens {f : Addr} {fd : FuncData} (F : Fun K "_law_opens" "_law_opens" s_opens f fd) (T : BT mg) :
    FnOk P w K mg base CX0 1 f fd ["_law_bounds_here", "_law_content", "_law_arm_here"] spOpens := by
  refine F.ok sc_opens (fun vs H Q E h => ?_) (fun cdv A outer s H vs Q E hr h => ?_)
  · obtain ⟨db, da, va, z, ps, ns, st, word, j, hj, rfl, _⟩ := h
    rfl
  · obtain ⟨db, da, va, z, ps, ns, st, word, j, hj, rfl, hdb, hva, hda, hl3, hperm, hnd, hso, hw, q⟩ := h
    have hu := hu_of hr
    refine ⟨_, (pss_cons (ps_asg (pe_ix ix_tup (pv 1) (pe_bm PySem.F.plainAttrs_list PySem.F.slot_list_index PySem.F.type_list_index mt_index (pe_callB (call_sortedD rfl) (by rfl) T.n_sorted (by decide +kernel) (pa_cons (pv 0) pa_nil)) (pa_cons (pe_ix ix_tup (pv 2) pe_int (fun _ _ => rfl)) pa_nil)) (fun _ _ => rfl)) (pg_tup (by rfl) (pgs_cons (pg_name (i := 3) sc_opens.nd rfl (.inl rfl)) (pgs_cons (pg_name (i := 4) sc_opens.nd rfl (.inl rfl)) pgs_nil))))
    (pss_cons (ps_if (pt_cmpR op_eq (pe_ix ix_tup (pv 2) pe_int (fun _ _ => rfl)) pe_str (nomark _))
      (pss_one (ps_ret (pe_and (pe_not (pv 4)) (pe_one (pe_cmpR op_lt (pv 3) (pe_dget hu (pv 0) (pe_ix ix_tup (pv 2) pe_int (fun _ _ => rfl)) (fun _ _ => rfl)) (nomark _))))))
      pss_nil)
    (pss_cons (ps_if (pt_cmpR op_eq (pe_ix ix_tup (pv 2) pe_int (fun _ _ => rfl)) pe_str (nomark _))
      (pss_one (ps_ret (pe_cmpR op_gt (pv 3) pe_int (nomark _))))
      pss_nil)
    (pss_one (ps_ret (pe_ifExp (pt_cmpR op_eq (pe_ix ix_tup (pv 2) pe_int (fun _ _ => rfl)) pe_str (nomark _)) (pe_and (pv 4) (pe_one (pe_cmpR op_eq (pv 3) pe_int (nomark _)))) (pe_not (pv 4)))))))), ?_⟩
    obtain ⟨a, xs, rfl, ha, hxs, hxl⟩ := ct_inv hva
    obtain ⟨u, hu2, du⟩ := DqAll_get hxs j (stD (st ns[j]).1 (st ns[j]).2) (by unfold ctL; rw [List.map_map, List.getElem?_map, List.getElem?_eq_getElem hj]; rfl)
    refine ⟨_, rfl, _, rfl, db, _, _, rfl, Rd.of hdb, kvI_keys ps, (by rw [List.length_map]; omega), fun ys p1 hperm2 hso2 hp1 => ?_⟩
    obtain rfl : ys = ns := sorted_one hso2 hso (hperm2.trans hperm.symm)
    have e3 := Ext.new (o := .lst (ys.map V.str)) hp1
    have h3 : upd H p1 (.lst (ys.map V.str)) p1 = some (.lst (ys.map V.str)) := upd_same
    have hdb3 := e3 _ _ hdb
    have ha3 := e3 _ _ ha
    have hda3 := e3 _ _ hda
    have du3 := du.up e3
    replace q := q _ e3
    refine ⟨.inl ⟨rfl, _, SqL.of h3⟩, ?_⟩
    generalize upd H p1 (.lst (ys.map V.str)) = H3 at *
    refine ⟨_, rfl, da, _, 1, _, rfl, rfl, SqT.of hda3, atI_nat (by rfl), ?_⟩
    refine ⟨p1, ys.map V.str, .str ys[j], j, .str ys[j], rfl, rfl, SqL.of h3, rfl, ix_all ys, ix_get j hj, ix_eq _, ix_no hnd j hj, ?_⟩
    refine ⟨a, _, _, _, rfl, rfl, SqT.of ha3, atI_nat hu2, ?_⟩
    obtain ⟨b, rfl, hb⟩ := st_inv du3
    generalize (st ys[j]).1 = c at *
    generalize (st ys[j]).2 = cl at *
    refine ⟨b, _, rfl, SqT.of hb, rfl, _, _, rfl, _, _, rfl, rfl, ?_⟩
    have i0 : ∀ {W : V → Hp → Prop}, W (.str word) H3 → ∃ (p : Addr) (xs : List V) (i : Int) (z : V), V.ref da = .ref p ∧ V.int 0 = .int i ∧ SqT K H3 p xs ∧ atI xs i = some z ∧ W z H3 := fun h => ⟨da, _, 0, _, rfl, rfl, SqT.of hda3, atI_nat (by rfl), h⟩
    refine ⟨_, rfl, da, _, 0, _, rfl, rfl, SqT.of hda3, atI_nat (by rfl), rfl, _, rfl, ?_⟩
    refine ite2 (fun g0 => ?_) (fun g0 => ?_)
    · have g0' := dec_word.mp g0
      subst g0'
      rw [beh_send] at q
      refine ⟨_, rfl, ?_⟩
      refine ⟨_, rfl, ?_⟩
      refine ⟨_, rfl, ?_⟩
      cases cl with
      | true =>
        refine iteF ?_
        simpa using q
      | false =>
        refine iteT ?_
        have gb := DGet.k (k := Sum.inr ys[j]) hdb3
        rw [kvI_val (hperm.mem_iff.mp (List.getElem_mem hj))] at gb
        refine ⟨_, rfl, _, rfl, _, rfl, da, _, 1, _, rfl, rfl, SqT.of hda3, atI_nat (by rfl), db, _, rfl, gb, _, _, rfl, rfl, ?_⟩
        simpa using q
    refine ⟨_, rfl, da, _, 0, _, rfl, rfl, SqT.of hda3, atI_nat (by rfl), rfl, _, rfl, ?_⟩
    refine ite2 (fun g1 => ?_) (fun g1 => ?_)
    · have g1' := dec_word.mp g1
      subst g1'
      rw [beh_take] at q
      exact ⟨_, rfl, _, _, rfl, rfl, q⟩
    refine ⟨_, rfl, da, _, 0, _, rfl, rfl, SqT.of hda3, atI_nat (by rfl), rfl, _, rfl, ?_⟩
    refine ite2 (fun g2 => ?_) (fun g2 => ?_)
    · have g2' := dec_word.mp g2
      subst g2'
      rw [beh_ended] at q
      refine ⟨_, rfl, _, rfl, ?_⟩
      refine ite2 (fun g => ?_) (fun g => ?_)
      · rw [g, Bool.true_and] at q
        refine ⟨_, rfl, rfl, ?_⟩
        have e : decide (V.int (c : Int) = V.int 0) = decide (c = 0) := by
          by_cases h : c = 0
          · rw [h]; rfl
          · rw [decide_eq_false h, decide_eq_false (fun z => h (by injection z with z; omega))]
        rw [e]
        exact q
      · rw [Bool.eq_false_iff.mpr g, Bool.false_and] at q
        exact q
    · have hcl : word = "close" := by
        unfold words4 at hw
        simp only [List.mem_cons, List.not_mem_nil, or_false] at hw
        rcases hw with h | h | h | h
        · exact h
        · exact absurd (dec_word.mpr h) g2
        · exact absurd (dec_word.mpr h) g0
        · exact absurd (dec_word.mpr h) g1
      subst hcl
      rw [beh_close] at q
      exact ⟨_, rfl, _, rfl, q⟩
end
end K70

set_option Elab.async false
set_option linter.all false
set_option maxRecDepth 100000
set_option maxHeartbeats 4000000
namespace K70
open PySem PySem.Spec PyProof.Rows L2 Ol RZ
open TL (tl)
/-- an arm with a word is open, by the states and the bounds of the lanes -/
def openB (st : Str → Nat × Bool) (bd : Str → Int) (a : Arm) : Bool := match a.1 with
  | some p => (beh p.1 (st p.2).1 (st p.2).2 (bd p.2)).isSome
  | none => false
/-- the indexes of what p says of -/
def idxs (q : Arm → Bool) (as : List Arm) : List Nat := (List.range as.length).filter fun i => q (as.getD i (none, 0))
def openI (st : Str → Nat × Bool) (bd : Str → Int) (as : List Arm) : List Nat := if idxs (openB st bd) as = [] then idxs (fun a => a.1.isNone) as else idxs (openB st bd) as
theorem idxs_step {q : Arm → Bool} {as : List Arm} {k : Nat} (h : k < as.length) : (List.range (k + 1)).filter (fun i => q (as.getD i (none, 0))) = (List.range k).filter (fun i => q (as.getD i (none, 0))) ++ (if q as[k] = true then [k] else []) := by
  rw [List.range_succ, List.filter_append]
  congr 1
  have e : as.getD k (none, 0) = as[k] := by rw [List.getD_eq_getElem?_getD, List.getElem?_eq_getElem h]; rfl
  cases hq : q as[k] with
  | true => rw [if_pos rfl, List.filter_cons_of_pos (by rw [e]; exact hq)]; rfl
  | false => rw [if_neg (by decide), List.filter_cons_of_neg (by rw [e, hq]; decide)]; rfl
/-- Lanes and a content, as the law knows them -/
structure Ctx (C : Addr) (H : Hp) (lx : Addr) (v : V) (ns : List Str) (st : Str → Nat × Bool) (bd : Str → Int) : Prop where
  hL : LanesAt C H lx ns (ns.map bd)
  hv : Dq H v (ctD (ns.map st))
theorem Ctx.up {C : Addr} {H H' : Hp} {lx : Addr} {v : V} {ns : List Str} {st : Str → Nat × Bool} {bd : Str → Int} (e : Ext H H') (h : Ctx C H lx v ns st bd) : Ctx C H' lx v ns st bd := ⟨h.hL.up e, h.hv.up e⟩
def GAs (ns : List Str) (as : List Arm) : Prop := ∀ a ∈ as, GArm a ∧ ∀ p, a.1 = some p → p.2 ∈ ns
section
variable {P : Program} {w : World} {K : PySem.W.Frag} {mg : Str → Option Value} {base : Heap} {C CP : Addr}
def spOA (C : Addr) : Sp := fun vs H Q _ => ∃ (lx al : Addr) (v : V) (ys : List V) (as : List Arm) (ns : List Str) (st : Str → Nat × Bool) (bd : Str → Int), vs = [.ref lx, .ref al, v] ∧ Ctx C H lx v ns st bd ∧ H al = some (.lst ys) ∧ DqAll H ys (as.map armD) ∧ GAs ns as ∧ as.length ≤ 10 ∧
  ∀ (l : Addr) (H' : Hp), H l = none → Ext H H' → H' l = some (.lst ((openI st bd as).map fun i : Nat => V.int (i : Int))) → Q (.ref l) H'
abbrev nOa : List Str := ["lanes", "arms", "content", "indexes", "index", "arm"]
end
end K70

set_option Elab.async false
set_option linter.all false
set_option maxRecDepth 100000
set_option maxHeartbeats 4000000
namespace K70
open PySem PySem.Spec PyProof.Rows L2 Ol RZ
open TL (tl)
def allowI (st : Str → Nat × Bool) (bd : Str → Int) (p : Place) : List Nat := if p.1 = "first" then (openI st bd p.2).take 1 else openI st bd p.2
section
variable {P : Program} {w : World} {K : PySem.W.Frag} {mg : Str → Option Value} {base : Heap} {C CP : Addr}
def spAl (C : Addr) : Sp := fun vs H Q _ => ∃ (lx al : Addr) (v : V) (ys : List V) (p : Place) (ns : List Str) (st : Str → Nat × Bool) (bd : Str → Int), vs = [.ref lx, .str p.1, .ref al, v] ∧ Ctx C H lx v ns st bd ∧ H al = some (.lst ys) ∧ DqAll H ys (p.2.map armD) ∧ GAs ns p.2 ∧ p.2.length ≤ 10 ∧
  ∀ (l : Addr) (H' : Hp), H l = none → Ext H H' → H' l = some (.lst ((allowI st bd p).map fun i : Nat => V.int (i : Int))) → Q (.ref l) H'
/-! ### choices -/
structure MdM (P : Program) (w : World) (K : PySem.W.Frag) (mg : Str → Option Value) (base : Heap) (CP : Addr) : Prop where
  md : Cm P w K mg base CP 4 "mode" ["self", "place"] (spMode CP)
  as : Cm P w K mg base CP 4 "arms" ["self", "place"] (spArms CP)
def spAt (C CP : Addr) : Sp := fun vs H Q _ => ∃ (lx pr : Addr) (v : V) (ps : List Place) (i : Nat) (hi : i < ps.length) (ns : List Str) (st : Str → Nat × Bool) (bd : Str → Int), vs = [.ref lx, .ref pr, .int (i : Int), v] ∧ Ctx C H lx v ns st bd ∧ ProgAt CP H pr ps ∧ (∀ x ∈ lanesP ps, x ∈ ns) ∧
  ∀ (l : Addr) (H' : Hp), H l = none → Ext H H' → H' l = some (.lst ((allowI st bd ps[i]).map fun i : Nat => V.int (i : Int))) → Q (.ref l) H'
theorem gas_of {ps : List Place} {ns : List Str} (ok : Pls ps) (sub : ∀ x ∈ lanesP ps, x ∈ ns) {i : Nat} (hi : i < ps.length) : GAs ns ps[i].2 := by
  intro a ha
  refine ⟨((ok.ok _ (List.getElem_mem hi)).arms a ha).1, fun p hp => sub _ ?_⟩
  unfold lanesP lanesA
  refine List.mem_flatMap.mpr ⟨ps[i], List.getElem_mem hi, List.mem_filterMap.mpr ⟨a, ha, ?_⟩⟩
  rw [hp]
  rfl
end
end K70

set_option Elab.async false
set_option linter.all false
set_option maxRecDepth 100000
set_option maxHeartbeats 4000000
namespace K70
open PySem PySem.Spec PyProof.Rows L2 Ol RZ
open TL (tl)
section
variable {P : Program} {w : World} {K : PySem.W.Frag} {mg : Str → Option Value} {base : Heap} {C CP : Addr}
/-! ### behind_arm -/
def spBA (C : Addr) : Sp := fun vs H Q _ => ∃ (lx : Addr) (va v : V) (a : Arm) (ns : List Str) (st : Str → Nat × Bool) (bd : Str → Int), vs = [.ref lx, va, v] ∧ Ctx C H lx v ns st bd ∧ Dq H va (armD a) ∧
  ((a.1 = none ∧ ∀ (r : V) (H' : Hp), Ext H H' → Dq H' r (.tuple [.int (a.2 : Int), ctD (ns.map st)]) → Q r H') ∨
   (∃ (p : Str × Str) (j : Nat) (hj : j < ns.length) (s2 : Nat × Bool), a.1 = some p ∧ ns[j] = p.2 ∧ beh p.1 (st p.2).1 (st p.2).2 (bd p.2) = some s2 ∧ ∀ (r : V) (H' : Hp), Ext H H' → Dq H' r (.tuple [.int (a.2 : Int), ctD ((ns.map st).set j s2)]) → Q r H'))
end
end K70

set_option Elab.async false
set_option linter.all false
set_option maxRecDepth 100000
set_option maxHeartbeats 4000000
namespace K70
open PySem PySem.Spec PyProof.Rows L2 Ol RZ
open TL (tl)
theorem inV_idx : ∀ (l : List Nat) (j : Nat), inV (.int (j : Int)) (l.map fun i : Nat => V.int (i : Int)) = decide (j ∈ l)
  | [], j => rfl
  | i :: l, j => by
    have ih := inV_idx l j
    unfold inV at ih ⊢
    rw [List.map_cons, List.any_cons, ih]
    by_cases h : i = j
    · subst h
      simp [eqV]
    · have h2 : ¬ (i : Int) = (j : Int) := by omega
      have h3 : ¬ j = i := fun z => h z.symm
      by_cases m : j ∈ l <;> simp [eqV, h, h2, h3, m]
theorem flat_idx (l : List Nat) : (l.map fun i : Nat => V.int (i : Int)).all flatV = true := by
  rw [List.all_map]
  exact List.all_eq_true.mpr fun _ _ => rfl
theorem mem_allow {st : Str → Nat × Bool} {bd : Str → Int} {p : Place} {j : Nat} (hj : j < p.2.length) (h : j ∈ allowI st bd p) : openB st bd p.2[j] = true ∨ p.2[j].1 = none := by
  have h1 : j ∈ openI st bd p.2 := by
    unfold allowI at h
    split at h
    · exact List.mem_of_mem_take h
    · exact h
  have gd : p.2.getD j (none, 0) = p.2[j] := by rw [List.getD_eq_getElem?_getD, List.getElem?_eq_getElem hj]; rfl
  unfold openI idxs at h1
  split at h1
  · have := (List.mem_filter.mp h1).2
    rw [gd] at this
    exact .inr (Option.isNone_iff_eq_none.mp this)
  · have := (List.mem_filter.mp h1).2
    rw [gd] at this
    exact .inl this
theorem idx_at {ns : List Str} (hd : ns.Nodup) {j : Nat} (hj : j < ns.length) {x : Str} (e : ns[j] = x) : ns.findIdx? (fun y => decide (y = x)) = some j := by
  rw [List.findIdx?_eq_some_iff_getElem]
  refine ⟨hj, decide_eq_true e, fun k hk => ?_⟩
  have := List.pairwise_iff_getElem.mp hd k j (by omega) hj hk
  rw [e] at this
  simpa using this
end K70

set_option Elab.async false
set_option linter.all false
set_option maxRecDepth 100000
set_option maxHeartbeats 4000000
namespace K70
open PySem PySem.Spec PyProof.Rows L2 Ol RZ
open TL (tl)
/-- the parts of an arm -/
def armV : Arm → List V
  | (some p, g) => [.str p.1, .str p.2, .int (g : Int)]
  | (none, g) => [.str "else", .int (g : Int)]
theorem arm_tup {H : Hp} {v : V} {a : Arm} (h : Dq H v (armD a)) : ∃ r, v = .ref r ∧ H r = some (.tup (armV a)) := by
  obtain ⟨o, g⟩ := a
  cases o with
  | none =>
    obtain ⟨t, xs, ds, e, ed, h1, h2⟩ := dq_tup (d := .tuple [.str "else", .int (g : Int)]) h rfl
    cases ed
    refine ⟨t, e, ?_⟩
    cases h2 with
    | cons a1 t1 => cases t1 with
      | cons a2 t2 =>
        cases t2
        cases a1
        cases a2
        exact h1
  | some p =>
    obtain ⟨t, xs, ds, e, ed, h1, h2⟩ := dq_tup (d := .tuple [.str p.1, .str p.2, .int (g : Int)]) h rfl
    cases ed
    refine ⟨t, e, ?_⟩
    cases h2 with
    | cons a1 t1 => cases t1 with
      | cons a2 t2 => cases t2 with
        | cons a3 t3 =>
          cases t3
          cases a1
          cases a2
          cases a3
          exact h1
theorem armV0 {a : Arm} : atI (armV a) 0 = some (.str (match a.1 with | some p => p.1 | none => ("else" : Str))) := by
  obtain ⟨o, g⟩ := a
  cases o <;> rfl
theorem idxs_len (q : Arm → Bool) (as : List Arm) : (idxs q as).length = (as.filter q).length := by
  have e := range_getD (fun a : Arm => a) (none, 0) as
  rw [List.map_id'] at e
  conv => rhs; rw [← e]
  rw [List.filter_map, List.length_map]
  rfl
theorem idx_small {q : Arm → Bool} {as : List Arm} {n : Nat} (h : as.length ≤ n) : ∀ i ∈ idxs q as, i < n := fun i hi => by
  have := List.mem_range.mp (List.mem_filter.mp hi).1
  omega
theorem dq_ints (H : Hp) : ∀ l : List Nat, DqAll H (l.map fun i : Nat => V.int (i : Int)) (l.map fun i : Nat => PyData.int (i : Int))
  | [] => .nil
  | _ :: l => .cons (.int _) (dq_ints H l)
theorem gd_nat30 : ∀ n : Nat, n < 31 → Gd 0 (.int (n : Int)) := fun n h => by
  have : ∀ m : Nat, m < 31 → ((m : Int)).natAbs.log2 < 1920 ∧ ((toString (m : Int) : String) : Str).length ≤ 200 := by decide +kernel
  exact gd_int _ (this n h).1 (this n h).2
theorem ints_shaped {l : List Nat} (h : ∀ i ∈ l, i < 30) : SeqAt.shaped (.list (l.map fun i : Nat => PyData.int (i : Int))) = true := by
  have hg : ∀ d ∈ l.map (fun i : Nat => PyData.int (i : Int)), Gd 0 d := fun d hd => by
    obtain ⟨i, hi, rfl⟩ := List.mem_map.mp hd
    exact gd_nat30 i (by have := h i hi; omega)
  refine lay_shaped ?_ ?_
  · rw [PyData.canLay0]
    refine lay_all fun d hd => ?_
    obtain ⟨i, hi, rfl⟩ := List.mem_map.mp hd
    simp [PyData.canLay0]
  · have := (all_sh hg).2.1
    simp only [PyData.depth]
    omega
section
variable {P : Program} {w : World} {K : PySem.W.Frag} {mg : Str → Option Value} {base : Heap} {C CP : Addr}
/-! ### _law_choices -/
def spLCh : Sp := fun vs H Q _ => ∃ (db : Addr) (vr vc : V) (prs : List (Str × Int)) (ns : List Str) (st : Str → Nat × Bool) (n : Nat) (p : Place), vs = [.ref db, vr, vc] ∧ Sys H ∧ H db = some (.dK (kvI prs)) ∧ Dq H vr (placeD p) ∧ Dq H vc (ctD (ns.map st)) ∧ prs.length ≤ 3 ∧
  ns.Perm (prs.map (·.1)) ∧ ns.Nodup ∧ sortedS ns = true ∧ GL n ns p ∧
  ∀ (l : Addr) (H' : Hp), H l = none → Ext H H' → H' l = some (.lst ((allowI st (bdOf prs) p).map fun i : Nat => V.int (i : Int))) → Q (.ref l) H'
abbrev s__law_choices : Stmt := (topS 45)
abbrev nLCh : List Str := ["_law_bounds_here", "_law_row_here", "_law_content", "_law_arms", "_law_found", "_law_k"]
theorem sc__law_choices : FnScope nLCh ["_law_bounds_here", "_law_row_here", "_law_content"] (defScope s__law_choices) := ⟨rfl, rfl, rfl, by decide +kernel, rfl, by decide +kernel, by decide +kernel⟩
theorem ok_lch {f : Addr} {fd : FuncData} (F : Fun K "_law_choices" "_law_choices" s__law_choices f fd) (T : BT mg)
    (COp : Ca P w K mg base 1 "_law_opens" ["_law_bounds_here", "_law_content", "_law_arm_here"] spOpens) :
    FnOk P w K mg base CX0 2 f fd ["_law_bounds_here", "_law_row_here", "_law_content"] spLCh := by
  refine F.ok sc__law_choices (fun vs H Q E h => ?_) (fun cdv A outer s H vs Q E hr h => ?_)
  · obtain ⟨db, vr, vc, prs, ns, st, n, p, rfl, _⟩ := h
    rfl
  · obtain ⟨db, vr, vc, prs, ns, st, n, p, rfl, hS, hdb, hvr, hvc, l3, hperm, hnd, hso, gl, q⟩ := h
    refine ⟨_, (pss_cons (ps_set (i := 3) sc__law_choices.nd rfl (.inr rfl) (pe_ix ix_tup (pv 1) pe_int (fun _ _ => rfl)))
    (pss_cons (ps_setLc (i := 4) (own := [("_law_k", 5)]) (g := gName 5) (tt := tAnd (tTest (tOp rNe (tOp (rIxT K) (tOp (rIxT K) (tVar 3) (tVar 5)) (tC (.int 0))) (tC (.str "else")))) (tB (tCall spOpens [] E0 (tCons (tVar 0) (tCons (tVar 2) (tCons (tOp (rIxT K) (tVar 3) (tVar 5)) tNil)))))) rfl sc__law_choices.nd rfl rfl (sw_true rfl rfl rfl (by decide +kernel)) (pi_range1 (by rfl) T.n_range (pa_cons (pe_callB call_len_seq (by rfl) T.n_len (by decide +kernel) (pa_cons (pv 3) pa_nil)) pa_nil)) (blkOk_by (N := nLCh) (sc := defScope s__law_choices) (by decide +kernel)) (fun _ _ _ _ _ => (pg_name (i := 5) sc__law_choices.nd rfl (.inl rfl))) (fun _ _ _ _ _ => (pts_one (PW.pt (pw_and (pt_cmpR op_ne (pe_ix ix_tup (pe_ix ix_tup (pv 3) (pv 5) (fun _ _ => rfl)) pe_int (fun _ _ => rfl)) pe_str (nomark _)) (pw_and1 (pt_val (pe_ca COp (hr.mono (by decide)) (by rfl) (pa_cons (pv 0) (pa_cons (pv 2) (pa_cons (pe_ix ix_tup (pv 3) (pv 5) (fun _ _ => rfl)) pa_nil)))))))))) (fun _ _ _ _ _ => (pv 5)))
    (pss_cons (ps_if (pt_cmpR (op_eqQ hr) (pv 4) (pe_lst pa_nil) (nomark _))
      (pss_one (ps_ret (pe_lc (own := [("_law_k", 5)]) (g := gName 5) (tt := tTest (tOp rEq (tOp (rIxT K) (tOp (rIxT K) (tVar 3) (tVar 5)) (tC (.int 0))) (tC (.str "else")))) rfl sc__law_choices.nd (pi_range1 (by rfl) T.n_range (pa_cons (pe_callB call_len_seq (by rfl) T.n_len (by decide +kernel) (pa_cons (pv 3) pa_nil)) pa_nil)) (blkOk_by (N := nLCh) (sc := defScope s__law_choices) (by decide +kernel)) (fun _ _ _ _ _ => (pg_name (i := 5) sc__law_choices.nd rfl (.inl rfl))) (fun _ _ _ _ _ => (pts_one (pt_cmpR op_eq (pe_ix ix_tup (pe_ix ix_tup (pv 3) (pv 5) (fun _ _ => rfl)) pe_int (fun _ _ => rfl)) pe_str (nomark _)))) (fun _ _ _ _ _ => (pv 5)))))
      pss_nil)
    (pss_one (ps_ret (pe_ifExp (pt_cmpR op_eq (pe_ix ix_tup (pv 1) pe_int (fun _ _ => rfl)) pe_str (nomark _)) (pe_slice sl_list (pv 4) po_none (po_some pe_int)) (pv 4))))))), ?_⟩
    obtain ⟨ra, t2, ys, rfl, hra, ht2, hys⟩ := place_inv hvr
    have ly : ys.length = p.2.length := by rw [hys.len, List.length_map]
    have few := gl.few
    refine ⟨_, rfl, ra, _, 1, _, rfl, rfl, SqT.of hra, atI_nat (by rfl), ?_⟩
    refine ⟨_, rfl, t2, _, rfl, .inr (SqT.of ht2), _, rfl, by rw [ly]; omega, by rw [ly]; omega, fun D hD => ?_⟩
    rw [Int.toNat_natCast, ly]
    have gas : GAs ns p.2 := fun a ha => ⟨(gl.place.arms a ha).1, fun pr hp => gl.lanes _ (List.mem_filterMap.mpr ⟨a, ha, by rw [hp]; rfl⟩)⟩
    have arm : ∀ (k : Nat) (hk : k < p.2.length) (H' : Hp), Ext H H' → ∃ r, H' r = some (.tup (armV p.2[k])) ∧ SqT K H' t2 ys ∧ atI ys (0 + (k : Int)) = some (.ref r) := fun k hk H' e => by
      obtain ⟨x', hx', dx'⟩ := DqAll_get hys k (armD p.2[k]) (by rw [List.getElem?_map, List.getElem?_eq_getElem hk]; rfl)
      obtain ⟨r, rfl, h1⟩ := arm_tup dx'
      exact ⟨r, e _ _ h1, SqT.of (e _ _ ht2), by rw [Int.zero_add]; exact atI_nat hx'⟩
    refine lc1_acc walk_range (fun k zs _ => zs = ((List.range k).filter fun i => openB st (bdOf prs) (p.2.getD i (none, 0))).map (fun i : Nat => V.int (i : Int)) ∧ k ≤ 30) (fun _ _ _ _ _ h => h) ⟨rfl, by decide⟩ hD
      (fun k zs _ h => by rw [h.1, List.length_map]; exact Nat.lt_of_le_of_lt (Nat.le_trans (List.length_filter_le ..) (by rw [List.length_range]; exact h.2)) (by decide)) (fun _ _ => trivial) ?_ ?_
    · rintro k x Hi H' zs hk e hz ⟨rfl, rfl⟩ ⟨hp, _⟩ QY QN kY kN
      have gk := gas _ (List.getElem_mem hk)
      obtain ⟨r, h1, s2, a2⟩ := arm k hk _ e
      refine ⟨rfl, ?_⟩
      refine ⟨_, rfl, _, rfl, t2, ys, _, _, rfl, rfl, s2, a2, r, _, 0, _, rfl, rfl, SqT.of h1, armV0, rfl, _, rfl, ?_⟩
      refine ite2 (fun g => ?_) (fun g => ?_)
      · cases ho : p.2[k].1 with
        | none =>
          rw [ho] at g
          simp at g
        | some pr =>
          obtain ⟨j, hj, ej⟩ := List.getElem_of_mem (gk.2 pr ho)
          have hw : pr.1 ∈ words4 ∧ isNameS pr.2 = true := by
            have := gk.1
            unfold GArm at this
            rw [ho] at this
            exact this
          have h1' : H' r = some (.tup [.str pr.1, .str ns[j], .int (p.2[k].2 : Int)]) := by
            rw [h1, ej]
            generalize p.2[k] = a at ho
            obtain ⟨o, gg⟩ := a
            cases ho
            rfl
          refine ⟨_, rfl, _, rfl, _, rfl, _, rfl, t2, ys, _, _, rfl, rfl, s2, a2, db, r, vc, _, prs, ns, st, pr.1, j, hj, rfl, e _ _ hdb, hvc.up e, h1', l3, hperm, hnd, hso, hw.1, fun H3 e3 => ⟨_, rfl, ?_⟩⟩
          have eo : openB st (bdOf prs) p.2[k] = (beh pr.1 (st ns[j]).1 (st ns[j]).2 (bdOf prs ns[j])).isSome := by unfold openB; rw [ho, ej]
          rw [← eo]
          refine ite2 (fun g => ?_) (fun g => ?_)
          · refine ⟨_, rfl, ?_⟩
            show QY (.int (0 + (k : Int))) _
            rw [Int.zero_add]
            refine kY _ _ e3 ⟨?_, by omega⟩
            rw [hp, idxs_step hk, if_pos g, List.map_append]
            rfl
          · refine kN _ e3 ⟨?_, by omega⟩
            rw [hp, idxs_step hk, if_neg g, List.append_nil]
      · have ho : p.2[k].1 = none := by
          cases ho : p.2[k].1 with
          | none => rfl
          | some pr =>
            refine absurd ?_ g
            have z := mt (els_iff gk.1).mp (by rw [ho]; exact Bool.false_ne_true)
            rw [Bool.not_eq_true', decide_eq_false]
            exact fun y => z (by injection y)
        refine iteF ?_
        refine kN _ (Ext.refl _) ⟨?_, by omega⟩
        have : openB st (bdOf prs) p.2[k] = false := by unfold openB; rw [ho]
        rw [hp, idxs_step hk, this]
        simp
    rintro H2 zs e2 h2 ⟨hz, _⟩
    have hz' : zs = (idxs (openB st (bdOf prs)) p.2).map (fun i : Nat => V.int (i : Int)) := hz
    rw [hz'] at h2
    refine ⟨_, rfl, by show 0 ≤ sizeLine; decide, fun l7 hl7 => ?_⟩
    have e8 := Ext.new (o := .lst []) hl7
    have e28 := e2.trans e8
    refine ⟨.list ((idxs (openB st (bdOf prs)) p.2).map fun i : Nat => PyData.int (i : Int)), .list [], sysUp hS e28, .lst (e8 _ _ h2) (dq_ints _ _), .lst upd_same .nil, ints_shaped (fun i hi => by have := idx_small few i hi; omega), nil_shaped, _, rfl, ?_⟩
    have h28 := e8 _ _ h2
    generalize upd H2 l7 _ = H3 at e28 h28 ⊢
    rw [eqv_e]
    refine ite2 (fun g => ?_) (fun g => ?_)
    · have em : idxs (openB st (bdOf prs)) p.2 = [] := List.map_eq_nil_iff.mp (List.isEmpty_iff.mp g)
      refine ⟨_, rfl, t2, _, rfl, .inr (SqT.of (e28 _ _ ht2)), _, rfl, by rw [ly]; omega, by rw [ly]; omega, fun D2 hD2 => ?_⟩
      rw [Int.toNat_natCast, ly]
      refine lc1_acc walk_range (fun k zs _ => zs = ((List.range k).filter fun i => (fun a : Arm => a.1.isNone) (p.2.getD i (none, 0))).map (fun i : Nat => V.int (i : Int)) ∧ k ≤ 30) (fun _ _ _ _ _ h => h) ⟨rfl, by decide⟩ hD2
        (fun k zs _ h => by rw [h.1, List.length_map]; exact Nat.lt_of_le_of_lt (Nat.le_trans (List.length_filter_le ..) (by rw [List.length_range]; exact h.2)) (by decide)) (fun _ _ => trivial) ?_ ?_
      · rintro k x Hi H' zs hk e hz ⟨rfl, rfl⟩ ⟨hp, _⟩ QY QN kY kN
        have gk := gas _ (List.getElem_mem hk)
        obtain ⟨r, h1, s2, a2⟩ := arm k hk _ (e28.trans e)
        refine ⟨rfl, ?_⟩
        refine ⟨_, rfl, _, rfl, t2, ys, _, _, rfl, rfl, s2, a2, r, _, 0, _, rfl, rfl, SqT.of h1, armV0, rfl, _, rfl, ?_⟩
        refine ite2 (fun g' => ?_) (fun g' => ?_)
        · have ee := (els_iff gk.1).mp (dec_word.mp g')
          refine ⟨_, rfl, ?_⟩
          show QY (.int (0 + (k : Int))) _
          rw [Int.zero_add]
          refine kY _ _ (Ext.refl _) ⟨?_, by omega⟩
          rw [hp, idxs_step (q := fun a : Arm => a.1.isNone) hk, if_pos ee, List.map_append]
          rfl
        · refine kN _ (Ext.refl _) ⟨?_, by omega⟩
          rw [hp, idxs_step (q := fun a : Arm => a.1.isNone) hk, if_neg (fun z => g' (dec_word.mpr ((els_iff gk.1).mpr z))), List.append_nil]
      rintro H4 zs e4 h4 ⟨hz, _⟩
      refine q D2 H4 (e28.free hD2) (e28.trans e4) ?_
      rw [h4, hz]
      have z1 : (idxs (fun a : Arm => a.1.isNone) p.2).length ≤ 1 := by rw [idxs_len]; exact gl.place.els
      have z2 : allowI st (bdOf prs) p = idxs (fun a : Arm => a.1.isNone) p.2 := by
        unfold allowI openI
        rw [if_pos em, List.take_of_length_le z1]
        split <;> rfl
      rw [z2]
      rfl
    · have em : ¬ idxs (openB st (bdOf prs)) p.2 = [] := fun z => g (by rw [z]; rfl)
      have eo : openI st (bdOf prs) p.2 = idxs (openB st (bdOf prs)) p.2 := by unfold openI; rw [if_neg em]
      refine ⟨_, rfl, ra, _, 0, _, rfl, rfl, SqT.of (e28 _ _ hra), atI_nat (by rfl), rfl, _, rfl, ?_⟩
      refine ite2 (fun g => ?_) (fun g => ?_)
      · refine ⟨_, rfl, _, rfl, D, _, rfl, SqL.of h28, fun l2 hl2 => ?_⟩
        refine q l2 _ (e28.free hl2) (e28.trans (Ext.new hl2)) ?_
        rw [upd_same]
        unfold allowI
        rw [if_pos (dec_word.mp g), eo, List.map_take]
        have := cut_take ((idxs (openB st (bdOf prs)) p.2).map fun i : Nat => V.int (i : Int)) 1
        rw [show (some ((1 : Nat) : Int)) = (some (1 : Int)) from rfl] at this
        rw [this]
      · refine ⟨_, rfl, q D H3 hD e28 ?_⟩
        unfold allowI
        rw [if_neg (fun z => g (dec_word.mpr z)), eo, h28]
end
end K70

set_option Elab.async false
set_option linter.all false
set_option maxRecDepth 100000
set_option maxHeartbeats 4000000
namespace K70
open PySem PySem.Spec PyProof.Rows L2 Ol RZ
open TL (tl)
section
variable {P : Program} {w : World} {K : PySem.W.Frag} {mg : Str → Option Value} {base : Heap} {C S N : Addr}
/-! ### _law_left -/
def spLeft : Sp := fun vs H Q _ => (∃ (db da : Addr) (va : V) (z : List V) (ps : List (Str × Int)) (ns : List Str) (st : Str → Nat × Bool) (word : Str) (j : Nat) (hj : j < ns.length) (s' : Nat × Bool), vs = [.ref db, va, .ref da] ∧ H db = some (.dK (kvI ps)) ∧ Dq H va (ctD (ns.map st)) ∧
  H da = some (.tup (.str word :: .str ns[j] :: z)) ∧ ps.length ≤ 3 ∧ ns.Perm (ps.map (·.1)) ∧ ns.Nodup ∧ sortedS ns = true ∧ word ∈ words4 ∧ ((st ns[j]).1 : Int) ≤ bdOf ps ns[j] ∧
  beh word (st ns[j]).1 (st ns[j]).2 (bdOf ps ns[j]) = some s' ∧ ∀ (r : V) (H' : Hp), Ext H H' → Dq H' r (ctD ((ns.map st).set j s')) → Q r H') ∨
  (∃ (db da : Addr) (va z : V), vs = [.ref db, va, .ref da] ∧ H da = some (.tup [.str "else", z]) ∧ Q va H)
abbrev s_left : Stmt := (topS 44)
theorem sc_left : FnScope ["_law_bounds_here", "_law_content", "_law_arm_here", "_law_found", "_law_at", "_law_count", "_law_closed", "_law_more"] ["_law_bounds_here", "_law_content", "_law_arm_here"] (defScope s_left) := ⟨rfl, rfl, rfl, by decide +kernel, rfl, by decide +kernel, by decide +kernel⟩
theorem word_no {word : Str} (hw : word ∈ words4) : ¬ word = "else" := fun z => by
  rw [z] at hw
  exact absurd hw (by decide +kernel)
theorem ok_left {f : Addr} {fd : FuncData} (F : Fun K "_law_left" "_law_left" s_left f fd) (T : BT mg) :
    FnOk P w K mg base CX0 1 f fd ["_law_bounds_here", "_law_content", "_law_arm_here"] spLeft := by
  refine F.ok sc_left (fun vs H Q E h => ?_) (fun cdv A outer s H vs Q E hr h => ?_)
  · rcases h with ⟨db, da, va, z, ps, ns, st, word, j, hj, s', rfl, _⟩ | ⟨db, da, va, z, rfl, _⟩ <;> rfl
  · have hu := hu_of hr
    refine ⟨_, (pss_cons (ps_if (pt_cmpR op_eq (pe_ix ix_tup (pv 2) pe_int (fun _ _ => rfl)) pe_str (nomark _)) (pss_one (ps_ret (pv 1))) pss_nil)
    (pss_cons (ps_par (i := 3) (j := 4) rfl sc_left.nd rfl rfl (by decide) rfl rfl (pa_cons (pe_callTy call_list_of (by rfl) T.n_list (by decide +kernel) (pa_cons (pv 1) pa_nil)) (pa_cons (pe_bm PySem.F.plainAttrs_list PySem.F.slot_list_index PySem.F.type_list_index mt_index (pe_callB (call_sortedD rfl) (by rfl) T.n_sorted (by decide +kernel) (pa_cons (pv 0) pa_nil)) (pa_cons (pe_ix ix_tup (pv 2) pe_int (fun _ _ => rfl)) pa_nil)) pa_nil)) (by rfl))
    (pss_cons (ps_asg (pe_ix ix_list (pv 3) (pv 4) (fun _ _ => rfl)) (pg_tup (by rfl) (pgs_cons (pg_name (i := 5) sc_left.nd rfl (.inl rfl)) (pgs_cons (pg_name (i := 6) sc_left.nd rfl (.inl rfl)) pgs_nil))))
    (pss_cons (ps_set (i := 7) sc_left.nd rfl (.inl rfl) (pe_ifExp (pt_cmpR op_eq (pe_ix ix_tup (pv 2) pe_int (fun _ _ => rfl)) pe_str (nomark _)) pe_int (pe_ifExp (pt_cmpR op_eq (pe_ix ix_tup (pv 2) pe_int (fun _ _ => rfl)) pe_str (nomark _)) (pe_un un_neg pe_int) pe_int)))
    (pss_cons (ps_asg (pe_tup (pa_cons (pe_op op_add (pv 5) (pv 7)) (pa_cons (pe_or (pv 6) (pe_one (pe_cmpR op_eq (pe_ix ix_tup (pv 2) pe_int (fun _ _ => rfl)) pe_str (nomark _)))) pa_nil))) (pg_sub (pv 3) (pv 4) set_list))
    (pss_one (ps_ret (pe_callTy call_tuple_of (by rfl) T.n_tuple (by decide +kernel) (pa_cons (pv 3) pa_nil))))))))), ?_⟩
    rcases h with ⟨db, da, va, z, ps, ns, st, word, j, hj, s', rfl, hdb, hva, hda, hl3, hperm, hnd, hso, hw, hle, hbe, q⟩ | ⟨db, da, va, z, rfl, hda, q⟩
    case inr =>
      refine ⟨_, rfl, da, _, 0, _, rfl, rfl, SqT.of hda, atI_nat (by rfl), rfl, _, rfl, ?_⟩
      refine ite2 (fun g => ?_) (fun g => absurd (dec_word.mpr rfl) g)
      exact ⟨_, rfl, q⟩
    obtain ⟨a, xs, rfl, ha, hxs, hxl⟩ := ct_inv hva
    refine ⟨_, rfl, da, _, 0, _, rfl, rfl, SqT.of hda, atI_nat (by rfl), rfl, _, rfl, ?_⟩
    refine ite2 (fun g => absurd (dec_word.mp g) (word_no hw)) (fun _ => ?_)
    have nl : ns.length ≤ 3 := by rw [hperm.length_eq, List.length_map]; exact hl3
    have xl : xs.length = ns.length := by rw [hxl, List.length_map]
    refine ⟨_, rfl, a, xs, rfl, .inr (SqT.of ha), fun l hl => ?_⟩
    have e1 := Ext.new (o := .lst xs) hl
    have hl1 : upd H l (.lst xs) l = some (.lst xs) := upd_same
    refine ⟨_, rfl, db, _, _, rfl, Rd.of (e1 _ _ hdb), kvI_keys ps, (by rw [List.length_map]; omega), fun ys p1 hperm2 hso2 hp1 => ?_⟩
    obtain rfl : ys = ns := sorted_one hso2 hso (hperm2.trans hperm.symm)
    have e3 := Ext.new (o := .lst (ys.map V.str)) hp1
    have h3 : upd (upd H l (.lst xs)) p1 (.lst (ys.map V.str)) p1 = some (.lst (ys.map V.str)) := upd_same
    have hl3' := e3 _ _ hl1
    have e13 := e1.trans e3
    refine ⟨.inl ⟨rfl, _, SqL.of h3⟩, ?_⟩
    generalize upd (upd H l (.lst xs)) p1 (.lst (ys.map V.str)) = H3 at *
    have hda3 := e13 _ _ hda
    have hxs3 := DqAll.up e13 hxs
    obtain ⟨u, hu2, du⟩ := DqAll_get hxs3 j (stD (st ys[j]).1 (st ys[j]).2) (by unfold ctL; rw [List.map_map, List.getElem?_map, List.getElem?_eq_getElem hj]; rfl)
    refine ⟨_, rfl, da, _, 1, _, rfl, rfl, SqT.of hda3, atI_nat (by rfl), ?_⟩
    refine ⟨p1, ys.map V.str, .str ys[j], j, .str ys[j], rfl, rfl, SqL.of h3, rfl, ix_all ys, ix_get j hj, ix_eq _, ix_no hnd j hj, ?_⟩
    refine ⟨_, _, rfl, ?_⟩
    obtain ⟨b, rfl, hb⟩ := st_inv du
    refine ⟨_, rfl, _, rfl, l, _, _, _, rfl, rfl, SqL.of hl3', atI_nat hu2, ?_⟩
    refine ⟨b, _, rfl, SqT.of hb, rfl, _, _, rfl, _, _, rfl, rfl, ?_⟩
    obtain ⟨q1, q2, q3⟩ := beh_counts hle hbe
    generalize (st ys[j]).1 = c at *
    generalize (st ys[j]).2 = cl at *
    dsimp only [gName]
    refine cutN (fun σ' H' => H' = H3 ∧ σ' = [some (.ref db), some (.ref a), some (.ref da), some (.ref l), some (.int (j : Int)), some (.int (c : Int)), some (.bl cl), some (.int (addW word))]) (fun W hW => ?_) ?_
    · refine ⟨_, rfl, da, _, 0, _, rfl, rfl, SqT.of hda3, atI_nat (by rfl), rfl, _, rfl, ?_⟩
      refine ite2 (fun g => ?_) (fun g => ?_)
      · refine hW _ _ ⟨rfl, ?_⟩
        have z : addW word = 1 := by unfold addW; rw [if_pos (dec_word.mp g)]
        rw [z]
        rfl
      · have n1 : ¬ word = "send" := fun z => g (dec_word.mpr z)
        refine ⟨_, rfl, da, _, 0, _, rfl, rfl, SqT.of hda3, atI_nat (by rfl), rfl, _, rfl, ?_⟩
        refine ite2 (fun g2 => ?_) (fun g2 => ?_)
        · refine ⟨_, rfl, hW _ _ ⟨rfl, ?_⟩⟩
          have z : addW word = -1 := by unfold addW; rw [if_neg n1, if_pos (dec_word.mp g2)]
          rw [z]
          rfl
        · refine hW _ _ ⟨rfl, ?_⟩
          have z : addW word = 0 := by unfold addW; rw [if_neg n1, if_neg (fun z => g2 (dec_word.mpr z))]
          rw [z]
          rfl
    rintro σ' H' ⟨rfl, rfl⟩
    have ixj : ixN xs.length (j : Int) = some j := by
      unfold ixN
      rw [if_pos (by omega), if_pos (by omega)]
      simp
    refine cutN (fun σ' H5 => σ' = [some (.ref db), some (.ref a), some (.ref da), some (.ref l), some (.int (j : Int)), some (.int (c : Int)), some (.bl cl), some (.int (addW word))] ∧ Ext H H5 ∧ ∃ t, H5 l = some (.lst (xs.set j (.ref t))) ∧ H5 t = some (.tup [.int (((s'.1 : Nat) : Int)), .bl s'.2])) (fun W hW => ?_) ?_
    · have fin : ∀ (bb : Bool) (t : Addr), bb = s'.2 → H' t = none → W [some (.ref db), some (.ref a), some (.ref da), some (.ref l), some (.int (j : Int)), some (.int (c : Int)), some (.bl cl), some (.int (addW word))] (upd (upd H' t (.tup [.int ((c : Int) + addW word), .bl bb])) l (.lst (xs.set j (.ref t)))) := by
        intro bb t hbb ht
        have et := Ext.new (o := .tup [.int ((c : Int) + addW word), .bl bb]) ht
        have ntl : t ≠ l := fun z => by rw [z, hl3'] at ht; cases ht
        refine hW _ _ ⟨rfl, Ext.mut (e13.trans et) hl, t, upd_same, ?_⟩
        rw [upd_ne ntl, upd_same, ← q1, hbb]
      refine ⟨_, rfl, _, rfl, _, _, rfl, rfl, _, rfl, _, rfl, ?_⟩
      have sub : ∀ (bb : Bool) (t : Addr), bb = s'.2 → H' t = none → upd H' t (.tup [.int ((c : Int) + addW word), .bl bb]) l = some (.lst xs) := fun bb t _ ht => Ext.new ht _ _ hl3'
      refine ite2 (fun g => ?_) (fun g => ?_)
      · refine ⟨by show 2 ≤ sizeLine; decide, fun t ht => ?_⟩
        have hb2 : true = s'.2 := by rw [q2, g]; rfl
        exact ⟨_, rfl, _, rfl, l, _, _, j, rfl, rfl, sub true t hb2 ht, ixj, fin true t hb2 ht⟩
      · refine ⟨_, rfl, da, _, 0, _, rfl, rfl, SqT.of hda3, atI_nat (by rfl), rfl, by show 2 ≤ sizeLine; decide, fun t ht => ?_⟩
        have hb2 : decide (V.str word = V.str "close") = s'.2 := by
          rw [q2, Bool.eq_false_iff.mpr g, Bool.false_or]
          by_cases c : word = "close"
          · rw [decide_eq_true c]; exact dec_word.mpr c
          · rw [decide_eq_false c]; exact Bool.eq_false_iff.mpr fun z => c (dec_word.mp z)
        exact ⟨_, rfl, _, rfl, l, _, _, j, rfl, rfl, sub _ t hb2 ht, ixj, fin _ t hb2 ht⟩
    rintro σ' H5 ⟨rfl, e5, t, hl5, ht5⟩
    refine ⟨_, rfl, l, _, rfl, .inl ⟨SqL.of hl5, fun r hr => ?_⟩⟩
    have e6 := Ext.new (o := .tup (xs.set j (.ref t))) hr
    refine q _ _ (e5.trans e6) (.tup upd_same ?_)
    have z := DqAll_set (DqAll.up (e5.trans e6) hxs) j (.ref t) (stD s'.1 s'.2) (.tup (e6 _ _ ht5) (.cons (.int _) (.cons (.bl _) .nil)))
    unfold ctL at z ⊢
    rw [List.map_set]
    exact z
end
end K70

set_option Elab.async false
set_option linter.all false
set_option maxRecDepth 100000
set_option maxHeartbeats 4000000
namespace Ol
open PySem PySem.Spec PyProof.Rows L2
section
open PySem.W
variable {prog : Program} {w : World} {A : Around} {E : Value → Shared → Prop} {s : Shared} {K : PySem.W.Frag} {x C L f : Addr} {h₀ : Heap} {m : Str → Option Value} {ox : Obj} {od : Option Obj} {b tb : Value}
/-- a builtin that the class has under this name, asked of its instance -/
theorem bound_builtin {M : Model} {id : String} {name : Str} {args : List Value} {Q : Option Value → Shared → Prop} (known : K.In s.heap) (inst : InstAt s.heap x ox C od) (has : findIn K (.ref C) name = some (some (.builtin id)))
    (bnd : ∀ self, bindSpecial (.builtin id) self = pure (.builtin id, [self])) (asked : wpAny M A (call (.builtin id) (.ref x :: args)) (fun v => Q (some v)) E s) : wpAny M A (callSpecialIfBound? (.ref x) name args) Q E s := by
  have after : wpAny M A (call (.builtin id) ([.ref x] ++ args) >>= fun v => pure (some v)) Q E s :=
    wpAny_bind (wpAny_mono asked (fun v s2 ok => wpAny_pure ok) fun _ _ bad => bad)
  unfold callSpecialIfBound? bindSpecialIfBound?
  apply wpAny_holding
  apply wpAny_bind; apply wpAny_bind
  unfold specialOf
  apply wpAny_bind
  apply inst.type.here
  apply (looks_findIn known has).here
  simp only [bnd]
  apply wpAny_bind
  apply wpAny_askSetting
  apply wpAny_ite
  split
  case isTrue => exact wpAny_bind <| wpAny_pure <| wpAny_pure after
  case isFalse => exact wpAny_tryCatch <| wpAny_bind <| wpAny_pure <| wpAny_pure after
/-- x != y by the default, the class having its own __eq__ -/
theorem ne_own {Q : Value → Shared → Prop} (room : A.units + 1 < cLine) (fr : Fr h₀ L s.heap m) (kn : K.In h₀) (inst : InstAt s.heap x ox C od) (kind : Looks (model prog w) s.heap (typeOf b) tb) (nf : notFirst K C tb = true)
    (own : findIn K (.ref C) "__eq__" = some (some (.ref f))) (fn : isFn K (.ref f) = true) (dflt : findIn K (.ref C) "__ne__" = some (some (.builtin "object.__ne__"))) (top : subIn K (.ref C) (.type "object") = some true)
    (told : wpAny (model prog w) A.in1 (call (.ref f) [.ref x, b]) (fun v s' => ∃ r, v = .bool r ∧ Q (.bool (!r)) s') E s) : wpAny (model prog w) A (richCompare .NotEq (.ref x) b) Q E s := by
  have known := kn.keeps fr.keep
  have deep : A.in1.units < cLine := room
  have tried : wpAny (model prog w) A (tryCompare (.ref x) (cmpInfo .NotEq).2.1 b) (fun got s' => ∃ v, got = some v ∧ Q v s') E s := by
    unfold tryCompare
    apply wpAny_bind
    apply bound_builtin (name := (cmpInfo .NotEq).2.1) known inst dflt PySem.F.cmp_object.ne.bind
    apply wpAny_call
    apply codeAny_call_builtin PySem.F.cmp_object.ne.plain PySem.F.cmpEntry_ne
    apply check_slot PySem.F.cmpKind_ne PySem.F.cmpSplit_ne (inst.type.andThen (looks_subIn known top)) (PySem.F.cmpArgs_ne _ _)
    unfold Builtin.«object.__ne__»
    repeat (first
      | with_reducible refine wpAny_cRoomFor deep ?_
      | (refine wpAny_bind (m := callSpecialIfBound? (.ref x) (Str.ofString "__eq__") [b]) (ifBound_K known inst own fn (wpAny_mono told (fun got s2 yes => ?_) fun _ _ bad => bad)))
      | wp_step)
    obtain ⟨r, rfl, fin⟩ := yes
    repeat (first | exact wpAny_pure ⟨_, rfl, fin⟩ | exact wpAny_truthy_bool fin | (refine wpAny_bind (m := truthy (.bool _)) (wpAny_truthy_bool ?_)) | wp_step)
  unfold richCompare
  simp only [oneThing_ref]
  apply wpAny_holding
  apply wpAny_bind; apply wpAny_cRoomFor (Nat.lt_of_succ_lt room)
  apply wpAny_bind; apply inst.type.here
  apply wpAny_bind; apply kind.here
  have last : ∀ {α : Type} {k : Option Value → Sem α} {Z : α → Shared → Prop}, (∀ v s2, Q v s2 → wpAny (model prog w) A (k (some v)) Z E s2) → wpAny (model prog w) A (tryCompare (.ref x) (cmpInfo .NotEq).2.1 b >>= k) Z E s := fun go =>
    wpAny_bind (wpAny_mono tried (fun got s2 ⟨v, eg, fin⟩ => eg ▸ go v s2 fin) fun _ _ bad => bad)
  by_cases same : (Value.ref C != tb) = true
  · have no : subIn K tb (.ref C) = some false := by
      unfold notFirst at nf
      rw [Bool.or_eq_true, beq_iff_eq, beq_iff_eq] at nf
      rcases nf with z | z
      · rw [z] at same
        simp at same
      · exact z
    rw [if_pos same]
    apply wpAny_bind
    apply (looks_subIn known no).here
    rw [if_neg (by decide)]
    exact last fun v s2 fin => wpAny_pure fin
  · rw [if_neg same]
    apply wpAny_bind
    apply wpAny_pure
    rw [if_neg (by decide)]
    exact last fun v s2 fin => wpAny_pure fin
end
/-! ### x == y, x != y, len(x): x an instance of a class with its own __eq__, __len__ -/
/-- the class has no != of its own -/
structure NeC (K : PySem.W.Frag) (C : Addr) : Prop where
  ne : PySem.W.findIn K (.ref C) "__ne__" = some (some (.builtin "object.__ne__"))
  ob : PySem.W.subIn K (.ref C) (.type "object") = some true
def rEqO (K : PySem.W.Frag) (C : Addr) (g : Bool → Bool) (sp : Sp) : R2 := fun x y H Q => ∃ (a dx : Addr) (fs : List (Str × V)) (t : Value), x = .ref a ∧ H a = some (.ins C dx fs) ∧ TyX K H y t ∧ PySem.W.notFirst K C t = true ∧
  sp [.ref a, y] H (fun v H' => ∃ r, v = .bl r ∧ Q (.bl (g r)) H') E0
def rLenO (C : Addr) (sp : Sp) : List V → Hp → VK → Prop := fun vs H Q => ∃ (a dx : Addr) (fs : List (Str × V)), vs = [.ref a] ∧ H a = some (.ins C dx fs) ∧ sp [.ref a] H (fun v H' => ∃ n : Int, v = .int n ∧ 0 ≤ n ∧ n < 2 ^ 63 ∧ Q (.int n) H') E0
section
variable {X : Cx} {k : Nat} {C f : Addr} {fd : FuncData} {ps : List Str} {sp : Sp}
/-- a def called one level deeper -/
theorem run_deep {pins : List (Addr × Obj)} {σ : L2.St} {H : Hp} {s : Shared} {Q : VK} {us : List Value} {vs : List V} {Z : Value → Shared → Prop} (F : FnOk X.prog X.w X.K X.mg X.base CX0 k f fd ps sp) (hr : Room (k + 1) X.A) (hb : Binds X.K fd ps [])
    (I : Inv X pins σ H s) (r : Vals vs us) (h : sp vs H Q E0) (z : ∀ v s', EP X pins σ Q v s' → Z v s') : wpAny (model X.prog X.w) X.A.in1 (call (.ref f) us) Z X.xe s := by
  have many : us.length = ps.length := r.length.symm.trans (F.len _ _ _ _ h)
  refine wpAny_call (codeAny_mono (F.run X.A.in1 X.stack s H ⟨us, []⟩ us vs Q E0 hr.in1 I.env0.in1 (by
    have := hb s us I.kIn (by simpa using many)
    simpa using this) r h) fun r s' hq => ?_)
  cases r with
  | error e => exact pass0 pins σ H s e s' I hq
  | ok fl =>
    cases fl with
    | ret u => exact z u s' (I.after hq)
    | next => exact False.elim hq
    | brk => exact False.elim hq
    | cont => exact False.elim hq
theorem op_eqO (M : Cm X.prog X.w X.K X.mg X.base C k "__eq__" ps sp) (hr : Room k X.A) : OpR X (compareOp .Eq) (rEqO X.K C id sp) := by
  obtain ⟨f, fd, F, hm, b⟩ := M.has
  intro pins s σ H x y v u Q I rx ry h
  obtain ⟨a, dx, fs, t, rfl, ho, ty, nf, h⟩ := h
  cases (show v = Value.ref a from rx)
  obtain ⟨mA, O, _⟩ := ins_get I.hok ho
  obtain ⟨od, J, _⟩ := O.look
  obtain ⟨m, fr⟩ := I.fr
  obtain ⟨PP, Z, pz, _⟩ := kit_of I ry ty
  refine PySem.W.cmp_ofEq (PySem.W.cmp_K (op := .Eq) (tb := t) hr.units0 fr I.ok.mod.kin J (Z.ty _ _ I.kIn pz) nf hm.at_ hm.fn ?_)
  refine wpAny_mono (run_fn (us := [.ref a, u]) (vs := [.ref a, y]) (E := E0) F hr b .nil pass0 I (.cons rfl (.cons ry .nil)) h) ?_ (fun _ _ z => z)
  rintro r s' ⟨w, H', I', rw', b', rfl, q⟩
  cases (show r = Value.bool b' from rw')
  exact ⟨.bl b', H', I', rfl, q⟩
theorem op_neO (M : Cm X.prog X.w X.K X.mg X.base C k "__eq__" ps sp) (N : NeC X.K C) (hr : Room (k + 1) X.A) : OpR X (compareOp .NotEq) (rEqO X.K C not sp) := by
  obtain ⟨f, fd, F, hm, b⟩ := M.has
  intro pins s σ H x y v u Q I rx ry h
  obtain ⟨a, dx, fs, t, rfl, ho, ty, nf, h⟩ := h
  cases (show v = Value.ref a from rx)
  obtain ⟨mA, O, _⟩ := ins_get I.hok ho
  obtain ⟨od, J, _⟩ := O.look
  obtain ⟨m, fr⟩ := I.fr
  obtain ⟨PP, Z, pz, _⟩ := kit_of I ry ty
  refine PySem.W.cmp_ofNotEq (ne_own (tb := t) (by have := hr.un; omega) fr I.ok.mod.kin J (Z.ty _ _ I.kIn pz) nf hm.at_ hm.fn N.ne N.ob ?_)
  refine run_deep (us := [.ref a, u]) (vs := [.ref a, y]) F hr b I (.cons rfl (.cons ry .nil)) h fun v s' z => ?_
  obtain ⟨w, H', I', rw', b', rfl, q⟩ := z
  cases (show v = Value.bool b' from rw')
  exact ⟨b', rfl, .bl (!b'), H', I', rfl, q⟩
theorem call_lenO (M : Cm X.prog X.w X.K X.mg X.base C k "__len__" ps sp) (hr : Room (k + 1) X.A) : CallR X (.builtin "len") (rLenO C sp) := by
  obtain ⟨f, fd, F, hm, b⟩ := M.has
  intro pins s σ H xs us Q I r h
  obtain ⟨a, dx, fs, rfl, ho, h⟩ := h
  obtain ⟨u, rfl, ru⟩ := vals1 r
  cases (show u = Value.ref a from ru)
  obtain ⟨mA, O, _⟩ := ins_get I.hok ho
  obtain ⟨od, J, _⟩ := O.look
  obtain ⟨m, fr⟩ := I.fr
  refine PySem.W.len_K fr I.ok.mod.kin J hm.at_ hm.fn ?_
  refine run_deep (us := [.ref a]) (vs := [.ref a]) F hr b I (.cons rfl .nil) h fun v s' z => ?_
  obtain ⟨w, H', I', rw', n, rfl, n0, n1, q⟩ := z
  obtain ⟨t, rfl⟩ := (show ∃ t, v = Value.int n t from rw')
  exact ⟨⟨n0, n1⟩, .int n, H', I'.tok _, ⟨_, rfl⟩, q⟩
end
end Ol

set_option Elab.async false
set_option linter.all false
set_option maxRecDepth 100000
set_option maxHeartbeats 4000000
namespace K70
open PySem PySem.Spec PyProof.Rows L2 Ol RZ
open TL (tl)
/-- what the class Program inherits -/
structure IsP (K : PySem.W.Frag) (C : Addr) : Prop where
  cls : PySem.W.findIn K (.ref C) "__class__" =
    some (some (.builtin "object.__class__"))
  get : PySem.W.specialIn K (.builtin "object.__class__") "__get__" =
    some (some (.builtin "getset_descriptor.__get__"))
  set : PySem.W.takesIn K (.builtin "object.__class__") =
    some true
  mro : PySem.W.mroIn K C (.type "object") =
    some true
  kC : PySem.W.kitOne K (.ref C) (.ref C) = some true
theorem IsP.nC {K : PySem.W.Frag} {C : Addr} : PySem.W.notFirst K C (.ref C) = true := by simp [PySem.W.notFirst]
theorem IsP.ty {K : PySem.W.Frag} {C : Addr} {H : Hp} {p dx : Addr} {fs : List (Str × V)} (I : IsP K C) (c : Cls K C) (h : H p = some (.ins C dx fs)) : TyX K H (.ref p) (.ref C) := .base (.ins h c I.cls I.get I.set I.mro)
/-! ### sizes of places -/
theorem str_mode {m : Str} (h : m = "first" ∨ m = "any") : Gd 0 (.str m) ∧ PyData.strOk m = true := by
  rcases h with rfl | rfl <;> exact ⟨gd_str _ (by decide +kernel) (by decide +kernel), by decide +kernel⟩
/-- a tuple of up to twenty of them -/
theorem gd_long {ds : List PyData} (h : ∀ d ∈ ds, Gd 1 d) (l : ds.length ≤ 20) : Gd 3 (.tuple ds) := by
  obtain ⟨h1, h2, h3, h4⟩ := all_sh h
  have z := pile_le _ h3
  have z1 := tupleText_le (PyData.shownAll ds)
  rw [h4] at z
  have z2 : ds.length * (200 * 8 ^ 1 + 2) ≤ 20 * (200 * 8 ^ 1 + 2) := Nat.mul_le_mul_right _ l
  refine ⟨by simpa [PyData.showable] using h1, by simp only [PyData.depth]; omega, ?_, nope1 rfl, ?_⟩
  · simp only [PyData.shown]
    exact Nat.le_trans (show _ ≤ 20 * (200 * 8 ^ 1 + 2) + 3 by omega) (by decide)
  · intro es e he hm
    cases he
    exact (h e hm).ok1
/-- a long list of such data -/
theorem fits_many {n m : Nat} {ds : List PyData} (h : ∀ d ∈ ds, Gd n d) (hm : ds.length ≤ m) (hn : n ≤ 5) (hs : m * (200 * 8 ^ n + 2) + 2 ≤ sizeLine) : Fits (.list ds) := by
  obtain ⟨h1, h2, h3, h4⟩ := all_sh h
  refine ⟨by simpa [PyData.showable] using h1, by simp only [PyData.depth]; omega, ?_⟩
  simp only [PyData.shown]
  have z := pile_le _ h3
  have z1 := listText_le (PyData.shownAll ds)
  rw [h4] at z
  have z2 : ds.length * (200 * 8 ^ n + 2) ≤ m * (200 * 8 ^ n + 2) := Nat.mul_le_mul_right _ hm
  exact Nat.le_trans (show _ ≤ m * (200 * 8 ^ n + 2) + 2 by omega) hs
/-- a text and such data -/
theorem fits_two {x : Str} {d : PyData} (gx : Gd 0 (.str x)) (sh : d.showable = true) (dep : d.depth ≤ 30) (len : d.shown.length + 300 ≤ sizeLine) : Fits (.tuple [.str x, d]) := by
  refine ⟨by simp [PyData.showable, PyData.showableAll, sh], by simp only [PyData.depth, PyData.depthAll]; omega, ?_⟩
  simp only [PyData.shown]
  have z1 := tupleText_le (PyData.shownAll [.str x, d])
  have e : piled (PyData.shownAll [.str x, d]) = ((PyData.str x).shown.length + 2) + (d.shown.length + 2) := by
    simp only [PyData.shownAll]
    rw [piled_cons, piled_cons]
    show _ + (_ + piled []) = _
    have : piled ([] : List Str) = 0 := rfl
    omega
  have := gx.len
  have h200 : 200 * 8 ^ 0 = 200 := rfl
  omega
theorem lay_two {x : Str} {d : PyData} (hx : PyData.strOk x = true) (l : d.canLay0 = true) : (PyData.tuple [.str x, d]).canLay0 = true := by
  rw [PyData.canLay0]
  refine lay_all fun e he => ?_
  simp only [List.mem_cons, List.not_mem_nil, or_false] at he
  rcases he with rfl | rfl
  · simpa [PyData.canLay0] using hx
  · exact l
theorem gd_armW {a : Arm} (h : GArm a) (hg : a.2 ≤ 30) : Gd 1 (armD a) := by
  obtain ⟨o, g⟩ := a
  cases o with
  | none =>
    refine gd_tuple (fun d hd => ?_) (by simp)
    simp only [List.mem_cons, List.not_mem_nil, or_false] at hd
    rcases hd with rfl | rfl
    · exact gd_str _ (by decide +kernel) (by decide +kernel)
    · exact gd_nat30 g (by have : g ≤ 30 := hg; omega)
  | some p =>
    obtain ⟨w, l⟩ := p
    have h' : w ∈ words4 ∧ isNameS l = true := h
    refine gd_tuple (fun d hd => ?_) (by simp)
    simp only [List.mem_cons, List.not_mem_nil, or_false] at hd
    rcases hd with rfl | rfl | rfl
    · exact word_gd _ h'.1
    · exact name_gd h'.2
    · exact gd_nat30 g (by have : g ≤ 30 := hg; omega)
theorem gd_place {n : Nat} {p : Place} (h : GPlace n p) (hn : n ≤ 20) : Gd 4 (placeD p) := by
  refine gd_tuple (n := 3) (fun d hd => ?_) (by simp)
  simp only [List.mem_cons, List.not_mem_nil, or_false] at hd
  rcases hd with rfl | rfl
  · exact (str_mode h.mode).1.up (by omega)
  · refine gd_long (fun d hd => ?_) (by rw [List.length_map]; exact h.few)
    obtain ⟨a, ha, rfl⟩ := List.mem_map.mp hd
    have := h.arms a ha
    exact gd_armW this.1 (by omega)
theorem lay_place {n : Nat} {p : Place} (h : GPlace n p) : (placeD p).canLay0 = true := by
  show (PyData.tuple [.str p.1, .tuple (p.2.map armD)]).canLay0 = true
  have e : (PyData.tuple (p.2.map armD)).canLay0 = true := by
    rw [PyData.canLay0]
    refine lay_all fun d hd => ?_
    obtain ⟨a, ha, rfl⟩ := List.mem_map.mp hd
    exact lay_arm (h.arms a ha).1
  have e2 : (PyData.str p.1).canLay0 = true := by
    rw [PyData.canLay0]
    exact (str_mode h.mode).2
  rw [PyData.canLay0]
  refine lay_all fun d hd => ?_
  simp only [List.mem_cons, List.not_mem_nil, or_false] at hd
  rcases hd with rfl | rfl
  · exact e2
  · exact e
theorem gd_places {ps : List Place} (h : Pls ps) : ∀ d ∈ ps.map placeD, Gd 4 d := fun d hd => by
  obtain ⟨p, hp, rfl⟩ := List.mem_map.mp hd
  exact gd_place (h.ok p hp) h.few
theorem fit_places {ps : List Place} (h : Pls ps) : Fits (.list (ps.map placeD)) := fits_many (n := 4) (m := 20) (gd_places h) (by rw [List.length_map]; exact h.few) (by decide) (by decide)
theorem lay_places {ps : List Place} (h : Pls ps) : (PyData.list (ps.map placeD)).canLay0 = true := by
  rw [PyData.canLay0]
  refine lay_all fun d hd => ?_
  obtain ⟨p, hp, rfl⟩ := List.mem_map.mp hd
  exact lay_place (h.ok p hp)
theorem sh_places {ps : List Place} (h : Pls ps) : SeqAt.shaped (.list (ps.map placeD)) = true := lay_shaped (lay_places h) (by have := (all_sh (gd_places h)).2.1; simp only [PyData.depth]; omega)
theorem sh_placesT {ps : List Place} (h : Pls ps) : SeqAt.shaped (.tuple (ps.map placeD)) = true := by
  refine lay_shaped ?_ (by have := (all_sh (gd_places h)).2.1; simp only [PyData.depth]; omega)
  rw [PyData.canLay0]
  refine lay_all fun d hd => ?_
  obtain ⟨p, hp, rfl⟩ := List.mem_map.mp hd
  exact lay_place (h.ok p hp)
section
variable {P : Program} {w : World} {K : PySem.W.Frag} {mg : Str → Option Value} {base : Heap} {C NP NA : Addr}
/-! ### ==, size, places -/
def spEqP (C : Addr) : Sp := fun vs H Q _ => ∃ (p p2 : Addr) (ps : List Place), vs = [.ref p, .ref p2] ∧ Sys H ∧ ProgAt C H p ps ∧ ProgAt C H p2 ps ∧ Q (.bl true) H
theorem sc_eq : FnScope ["self", "other"] ["self", "other"] (defScope (cP 2)) := ⟨rfl, rfl, rfl, by decide +kernel, rfl, by decide +kernel, by decide +kernel⟩
theorem ok_eq {f : Addr} {fd : FuncData} (F : Fun K "__eq__" "Program.__eq__" (cP 2) f fd) (T : BT mg) (L : PT K mg C) (I : IsP K C) :
    FnOk P w K mg base CX0 1 f fd ["self", "other"] (spEqP C) := by
  refine F.ok sc_eq (fun vs H Q E h => ?_) (fun cdv A outer s H vs Q E hr h => ?_)
  · obtain ⟨p, p2, ps, rfl, _⟩ := h
    rfl
  · obtain ⟨p, p2, ps, rfl, hS, hP, hP2, q⟩ := h
    refine ⟨_, (pss_one (ps_ret (pe_and (pe_callB call_isi (by rfl) T.n_isinstance (by decide +kernel) (pa_cons (pv 1) (pa_cons (pe_glob (v := .ref C) rfl L.gC rfl) pa_nil))) (pe_one (pe_cmpR (op_eqQ hr) (pe_fld (pv 0) rfl) (pe_fld (pv 1) rfl) (nomark _)))))), ?_⟩
    obtain ⟨dx, t, u, xs, us, h1, h2, h3, _, _, _, _, _, ok⟩ := id hP
    obtain ⟨dx2, t2, u2, xs2, us2, k1, k2, k3, _⟩ := id hP2
    refine ⟨_, rfl, _, _, _, _, _, rfl, .own C, I.ty L.cl k1, I.kC, _, rfl, ?_⟩
    refine iteT ?_
    refine ⟨_, rfl, p, C, dx, _, _, rfl, h1, L.cl, L.nP, pf_p _ _, _, rfl, p2, C, dx2, _, _, rfl, k1, L.cl, L.nP, pf_p _ _, .tuple (ps.map placeD), .tuple (ps.map placeD), hS, .tup h2 h3, .tup k2 k3, sh_placesT ok, sh_placesT ok, ?_⟩
    rw [SeqAt.eqv_refl _ (SeqAt.canLay_of_shaped (sh_placesT ok))]
    exact q
def spSz (C : Addr) : Sp := fun vs H Q _ => ∃ (p : Addr) (ps : List Place), vs = [.ref p] ∧ ProgAt C H p ps ∧ Q (.int (ps.length : Int)) H
def spPls (C : Addr) : Sp := fun vs H Q _ => ∃ (p : Addr) (ps : List Place), vs = [.ref p] ∧ ProgAt C H p ps ∧ ∀ (l : Addr) (xs : List V) (H' : Hp), H l = none → Ext H H' → H' l = some (.lst xs) → DqAll H' xs (ps.map placeD) → Q (.ref l) H'
theorem sc_pls : FnScope ["self"] ["self"] (defScope (cP 7)) := ⟨rfl, rfl, rfl, by decide +kernel, rfl, by decide +kernel, by decide +kernel⟩
theorem ok_pls {f : Addr} {fd : FuncData} (F : Fun K "places" "Program.places" (cP 7) f fd) (T : BT mg) (L : PT K mg C) :
    FnOk P w K mg base CX0 1 f fd ["self"] (spPls C) := by
  refine F.ok sc_pls (fun vs H Q E h => ?_) (fun cdv A outer s H vs Q E hr h => ?_)
  · obtain ⟨p, ps, rfl, _⟩ := h
    rfl
  · obtain ⟨p, ps, rfl, hP, q⟩ := h
    refine ⟨_, (pss_one (ps_ret (pe_callTy call_list_of (by rfl) T.n_list (by decide +kernel) (pa_cons (pe_fld (pv 0) rfl) pa_nil)))), ?_⟩
    obtain ⟨dx, t, u, xs, us, h1, h2, h3, _⟩ := id hP
    refine ⟨_, rfl, p, C, dx, _, _, rfl, h1, L.cl, L.nP, pf_p _ _, t, _, rfl, .inr (SqT.of h2), fun l hl => ?_⟩
    exact q l xs _ hl (Ext.new hl) upd_same (DqAll.up (Ext.new hl) h3)
end
end K70

set_option Elab.async false
set_option linter.all false
set_option maxRecDepth 100000
set_option maxHeartbeats 4000000
namespace K70
open PySem PySem.Spec PyProof.Rows L2 Ol RZ
open TL (tl)
/-! ### places as they are handed in -/
abbrev HPl := Place × Bool × Bool
def hD (h : HPl) : PyData := if h.2.1 = true then .list [.str h.1.1, if h.2.2 = true then .list (h.1.2.map armD) else .tuple (h.1.2.map armD)] else .tuple [.str h.1.1, if h.2.2 = true then .list (h.1.2.map armD) else .tuple (h.1.2.map armD)]
theorem list_inv {H : Hp} {v : V} {ds : List PyData} (h : Dq H v (.list ds)) : ∃ a xs, v = .ref a ∧ H a = some (.lst xs) ∧ DqAll H xs ds := by
  cases h with
  | lst h1 h2 => exact ⟨_, _, rfl, h1, h2⟩
theorem in_inv {H : Hp} {v : V} {b : Bool} {ds : List PyData} (h : Dq H v (if b = true then .list ds else .tuple ds)) : ∃ t ys, v = .ref t ∧ (H t = some (.lst ys) ∨ H t = some (.tup ys)) ∧ DqAll H ys ds := by
  cases b with
  | true =>
    obtain ⟨t, ys, e, h1, h2⟩ := list_inv (ds := ds) h
    exact ⟨t, ys, e, .inl h1, h2⟩
  | false =>
    obtain ⟨t, ys, es, e, e2, h1, h2⟩ := dq_tup (d := .tuple ds) h rfl
    cases e2
    exact ⟨t, ys, e, .inr h1, h2⟩
theorem hd_inv {H : Hp} {v : V} {h : HPl} (hd : Dq H v (hD h)) : ∃ a t ys, v = .ref a ∧ (H a = some (.lst [.str h.1.1, .ref t]) ∨ H a = some (.tup [.str h.1.1, .ref t])) ∧ (H t = some (.lst ys) ∨ H t = some (.tup ys)) ∧ DqAll H ys (h.1.2.map armD) := by
  obtain ⟨p, b1, b2⟩ := h
  cases b1 with
  | true =>
    obtain ⟨a, xs, e, h1, h2⟩ := list_inv (ds := [.str p.1, if b2 = true then .list (p.2.map armD) else .tuple (p.2.map armD)]) hd
    cases h2 with
    | cons a1 t1 => cases t1 with
      | cons a2 t2 =>
        cases t2
        cases a1
        obtain ⟨t, ys, rfl, h3, h4⟩ := in_inv a2
        exact ⟨a, t, ys, e, .inl h1, h3, h4⟩
  | false =>
    obtain ⟨a, xs, ds, e, e2, h1, h2⟩ := dq_tup (d := .tuple [.str p.1, if b2 = true then .list (p.2.map armD) else .tuple (p.2.map armD)]) hd rfl
    cases e2
    cases h2 with
    | cons a1 t1 => cases t1 with
      | cons a2 t2 =>
        cases t2
        cases a1
        obtain ⟨t, ys, rfl, h3, h4⟩ := in_inv a2
        exact ⟨a, t, ys, e, .inr h1, h3, h4⟩
abbrev GH : PyData → Prop := fun d => ∃ n h, GPlace n h.1 ∧ d = hD h
/-- a, b = a list or a tuple of that length -/
def gAny (K : PySem.W.Frag) (n : Nat) (t : TGs) : TG := fun v σ H Q => ∃ a xs, v = .ref a ∧ (SqL K H a xs ∨ SqT K H a xs) ∧ xs.length = n ∧ t xs σ H Q
theorem pg_any {X : Cx} {pos : Pos} {es : List Expr} {k : Nat} {t : TGs} {n : Nat} (calm : X.calm = true) (h : PGs X es t)
    (hn : (assignEach es X.env).length = n := by rfl) (hst : (assignEach es X.env).findIdx? (·.1) = none := by rfl) : PG X (.Tuple es k pos) (gAny X.K n t) := by
  constructor
  rintro pins s σ H v u Q I r ⟨a, xs, e, sq | sq, len, go⟩
  · exact (pg_lst (k := k) (pos := pos) calm h hn hst).run pins s σ H v u Q I r ⟨a, xs, e, sq, len, go⟩
  · exact (pg_tup (k := k) (pos := pos) calm h hn hst).run pins s σ H v u Q I r ⟨a, xs, e, sq, len, go⟩
section
variable {P : Program} {w : World} {K : PySem.W.Frag} {mg : Str → Option Value} {base : Heap} {C : Addr}
theorem ok_placeH {f fA : Addr} {fd : FuncData} (F : Fun K "is_place" "is_place" s_place f fd) (T : BT mg) (gA : mg "is_arm" = some (.ref fA))
    (CM : Ca P w K mg base 1 "is_mode" ["thing"] (spGood fun d => d = .str "first" ∨ d = .str "any")) (CR : Ca P w K mg base 4 "is_row_of" ["thing", "is_part"] (spRow GA fA)) :
    FnOk P w K mg base CX0 5 f fd ["thing"] (spGood GH) := by
  refine F.ok sc_place (fun vs H Q E h => ?_) (fun cdv A outer s H vs Q E hr h => ?_)
  · obtain ⟨v, d, rfl, _⟩ := h
    rfl
  · obtain ⟨v, d, rfl, hd, ⟨n, h0, hp, rfl⟩, q⟩ := h
    obtain ⟨a, t, xs, rfl, ha, ht, hx⟩ := hd_inv hd
    rcases ha with ha | ha
    · refine ⟨_, (pss_cons (ps_if (PW.pt (pw_or (pt_not (pt_val (pe_callB call_isiT (by rfl) T.n_isinstance (by decide +kernel) (pa_cons (pv 0) (pa_cons (pe_tup (pa_cons (pe_bltn (v := .ty "list") (by rfl) T.n_list (by decide +kernel) rfl) (pa_cons (pe_bltn (v := .ty "tuple") (by rfl) T.n_tuple (by decide +kernel) rfl) pa_nil))) pa_nil))))) (pw_or1 (pt_cmpR op_ne (pe_callB call_len_seq (by rfl) T.n_len (by decide +kernel) (pa_cons (pv 0) pa_nil)) pe_int (nomark _))))) (pss_one (ps_ret pe_bl)) pss_nil)
        (pss_one (ps_ret (pe_and (pe_ca CM (hr.mono (by decide)) (by rfl) (pa_cons (pe_ix ix_list (pv 0) pe_int (fun _ _ => rfl)) pa_nil)) (pe_one (pe_ca CR (hr.mono (by decide)) (by rfl) (pa_cons (pe_ix ix_list (pv 0) pe_int (fun _ _ => rfl)) (pa_cons (pe_glob (v := .ref fA) rfl gA rfl) pa_nil)))))))), ?_⟩
      refine ⟨_, rfl, by show 2 ≤ sizeLine; decide, fun tp htp => ?_⟩
      have e1 := Ext.new (o := .tup [.ty "list", .ty "tuple"]) htp
      refine ⟨_, tp, _, _, _, true, rfl, upd_same, .cons (.ty _) (.cons (.ty _) .nil), .base (.lst (e1 _ _ ha)), kit_lt, _, rfl, ?_⟩
      refine iteF ?_
      refine ⟨_, rfl, a, _, rfl, .inl (SqL.of (e1 _ _ ha)), rfl, _, rfl, ?_⟩
      refine iteF ?_
      refine ⟨_, rfl, a, _, _, _, rfl, rfl, SqL.of (e1 _ _ ha), rfl, _, _, rfl, .str _, ?_, fun H2 e2 => ⟨_, rfl, ?_⟩⟩
      · rcases hp.mode with z | z
        · exact .inl (by rw [z])
        · exact .inr (by rw [z])
      refine iteT ?_
      have e12 := e1.trans e2
      refine ⟨_, rfl, a, _, _, _, rfl, rfl, SqL.of (e12 _ _ ha), rfl, t, xs, h0.1.2.map armD, rfl, (ht.imp (fun z => e12 _ _ z) (fun z => e12 _ _ z)), DqAll.up e12 hx, fun d hd => ?_, by rw [List.length_map]; have := hp.few; omega, fun H3 e3 => q _ (e12.trans e3)⟩
      obtain ⟨b, hb, rfl⟩ := List.mem_map.mp hd
      exact ⟨b, (hp.arms b hb).1, rfl⟩
    · refine ⟨_, (pss_cons (ps_if (PW.pt (pw_or (pt_not (pt_val (pe_callB call_isiT (by rfl) T.n_isinstance (by decide +kernel) (pa_cons (pv 0) (pa_cons (pe_tup (pa_cons (pe_bltn (v := .ty "list") (by rfl) T.n_list (by decide +kernel) rfl) (pa_cons (pe_bltn (v := .ty "tuple") (by rfl) T.n_tuple (by decide +kernel) rfl) pa_nil))) pa_nil))))) (pw_or1 (pt_cmpR op_ne (pe_callB call_len_seq (by rfl) T.n_len (by decide +kernel) (pa_cons (pv 0) pa_nil)) pe_int (nomark _))))) (pss_one (ps_ret pe_bl)) pss_nil)
        (pss_one (ps_ret (pe_and (pe_ca CM (hr.mono (by decide)) (by rfl) (pa_cons (pe_ix ix_tup (pv 0) pe_int (fun _ _ => rfl)) pa_nil)) (pe_one (pe_ca CR (hr.mono (by decide)) (by rfl) (pa_cons (pe_ix ix_tup (pv 0) pe_int (fun _ _ => rfl)) (pa_cons (pe_glob (v := .ref fA) rfl gA rfl) pa_nil)))))))), ?_⟩
      refine ⟨_, rfl, by show 2 ≤ sizeLine; decide, fun tp htp => ?_⟩
      have e1 := Ext.new (o := .tup [.ty "list", .ty "tuple"]) htp
      refine ⟨_, tp, _, _, _, true, rfl, upd_same, .cons (.ty _) (.cons (.ty _) .nil), .base (.tup (e1 _ _ ha)), kit_tt, _, rfl, ?_⟩
      refine iteF ?_
      refine ⟨_, rfl, a, _, rfl, .inr (SqT.of (e1 _ _ ha)), rfl, _, rfl, ?_⟩
      refine iteF ?_
      refine ⟨_, rfl, a, _, _, _, rfl, rfl, SqT.of (e1 _ _ ha), rfl, _, _, rfl, .str _, ?_, fun H2 e2 => ⟨_, rfl, ?_⟩⟩
      · rcases hp.mode with z | z
        · exact .inl (by rw [z])
        · exact .inr (by rw [z])
      refine iteT ?_
      have e12 := e1.trans e2
      refine ⟨_, rfl, a, _, _, _, rfl, rfl, SqT.of (e12 _ _ ha), rfl, t, xs, h0.1.2.map armD, rfl, (ht.imp (fun z => e12 _ _ z) (fun z => e12 _ _ z)), DqAll.up e12 hx, fun d hd => ?_, by rw [List.length_map]; have := hp.few; omega, fun H3 e3 => q _ (e12.trans e3)⟩
      obtain ⟨b, hb, rfl⟩ := List.mem_map.mp hd
      exact ⟨b, (hp.arms b hb).1, rfl⟩
def spProgH (C : Addr) : Sp := fun vs H Q _ => ∃ (H0 : Hp) (p dx a : Addr) (xs : List V) (hs : List HPl) (ps : List Place), vs = [.ref p, .ref a] ∧ H0 p = none ∧ Ext H0 H ∧ H p = some (.ins C dx []) ∧ H0 a = some (.lst xs) ∧ DqAll H0 xs (hs.map hD) ∧ ps = hs.map (·.1) ∧ Pls ps ∧
  ∀ H', Ext H0 H' → ProgAt C H' p ps → Q .non H'
theorem ok_progH {f fP : Addr} {fd : FuncData} (F : Fun K "__init__" "Program.__init__" (cP 0) f fd) (T : BT mg) (L : PT K mg C) (gP : mg "is_place" = some (.ref fP))
    (CR : Ca P w K mg base 6 "is_row_of" ["thing", "is_part"] (spRow GH fP)) (CE : Ca P w K mg base 1 "is_else" ["arm"] spElse) (MC : ChM P w K mg base C) :
    FnOk P w K mg base CX0 7 f fd ["self", "places"] (spProgH C) := by
  obtain ⟨fC, fdC, FC, mc, bC⟩ := MC.has
  refine F.ok sc_prog (fun vs H Q E h => ?_) (fun cdv A outer s H vs Q E hr h => ?_)
  · obtain ⟨H0, p, dx, a, xs, hs, ps, rfl, _⟩ := h
    rfl
  · obtain ⟨H0, p, dx, a, xs, hs, ps, rfl, hp0, e0, hp, ha, hx, eps, ok, q⟩ := h
    refine ⟨_, (pss_cons (ps_if (PW.pt (pw_or (pt_not (pt_val (pe_ca CR (hr.mono (by decide)) (by rfl) (pa_cons (pv 1) (pa_cons (pe_glob (v := .ref fP) rfl gP rfl) pa_nil))))) (pw_or1 (pt_cmpR op_eq (pe_callB call_len_seq (by rfl) T.n_len (by decide +kernel) (pa_cons (pv 1) pa_nil)) pe_int (nomark _))))) (pss_one ps_never) pss_nil)
      (pss_cons (ps_fld (pv 0) (pe_callTy call_tuple_of (by rfl) T.n_tuple (by decide +kernel) (pa_cons (pe_lc (own := [("mode", 6), ("arms", 4)]) (g := gAny K 2 (gCons (gName 6) (gCons (gName 4) gNil))) (tt := tYes) rfl sc_prog.nd (pi_list (pv 1)) (blkOk_by (N := nInit) (sc := defScope (cP 0)) (by decide +kernel)) (fun _ _ _ _ _ => pg_any (by rfl) (pgs_cons (pg_name (i := 6) sc_prog.nd rfl (.inl rfl)) (pgs_cons (pg_name (i := 4) sc_prog.nd rfl (.inl rfl)) pgs_nil))) (te := tTup (tCons (tVar 6) (tCons (tCB (rTupOf K) (tCons (tVar 4) tNil)) tNil))) (fun _ _ _ _ _ => pts_nil) (fun _ _ _ _ _ => pe_tup (pa_cons (pv 6) (pa_cons (pe_callTy (r := rTupOf K) (T := "tuple") call_tuple_of (by rfl) T.n_tuple (by decide +kernel) (pa_cons (pv 4) pa_nil)) pa_nil)))) pa_nil)) rfl)
      (pss_cons (ps_expr (pe_meth0 (pv 0) L.cl mc FC (hr.mono (by decide)) bC .nil pass0))
      (pss_cons (ps_setDc2 (i := 2) (own := [("_", 3), ("arms", 4), ("arm", 5)]) (vs1 := [5]) (g := gTup K 2 (gCons (gName 3) (gCons (gName 4) gNil))) (g1 := gName 5) (tt := tYes) (wi1 := iTup K (tVar 4)) rfl sc_prog.nd rfl rfl (sw_dict rfl rfl rfl (by decide +kernel)) (pi_tup (pe_fld (pv 0) rfl)) (blkOk_by (N := nInit) (sc := defScope (cP 0)) (by decide +kernel)) (by decide)
          (fun _ _ _ _ _ => pg_tup (by rfl) (pgs_cons (pg_name (i := 3) sc_prog.nd rfl (.inl rfl)) (pgs_cons (pg_name (i := 4) sc_prog.nd rfl (.inl rfl)) pgs_nil))) (fun _ _ _ _ _ => pts_nil) (fun _ _ _ _ _ => pi_tup (pv 4)) (fun _ _ _ _ _ => pg_name (i := 5) sc_prog.nd rfl (.inl rfl))
          (fun _ _ _ _ _ => pts_one (pt_not (pt_val (pe_ca CE (hr.mono (by decide)) (by rfl) (pa_cons (pv 5) pa_nil))))) (tk := tOp (rIxT K) (tVar 5) (tC (.int 1))) (fun _ _ _ _ _ => pe_ix ix_tup (pv 5) pe_int (fun _ _ => rfl)) (fun _ _ _ _ _ => pe_bl))
      (pss_one (ps_fld (pv 0) (pe_callTy call_tuple_of (by rfl) T.n_tuple (by decide +kernel) (pa_cons (pe_callB (call_sortedD rfl) (by rfl) T.n_sorted (by decide +kernel) (pa_cons (pv 2) pa_nil)) pa_nil)) rfl)))))), ?_⟩
    have lh : hs.length = ps.length := by rw [eps, List.length_map]
    have lx : xs.length = ps.length := by rw [hx.len, List.length_map, lh]
    have p0 : 0 < ps.length := List.length_pos_iff.mpr ok.ne
    have pf6 := ok.few
    refine ⟨_, rfl, a, xs, hs.map hD, rfl, .inl (e0 _ _ ha), DqAll.up e0 hx, (fun d hd => by
      obtain ⟨b, hb, rfl⟩ := List.mem_map.mp hd
      exact ⟨_, b, ok.ok b.1 (by rw [eps]; exact List.mem_map_of_mem hb), rfl⟩), by rw [List.length_map]; omega, fun H1 e1 => ⟨_, rfl, ?_⟩⟩
    refine iteF ?_
    have e01 := e0.trans e1
    have hp1 := e1 _ _ hp
    refine ⟨_, rfl, a, _, rfl, .inl (SqL.of (e01 _ _ ha)), rfl, _, rfl, ?_⟩
    refine ite2 (fun g => ?_) (fun _ => ?_)
    · have z := of_decide_eq_true g
      injection z with z
      omega
    -- the places
    refine ⟨_, rfl, a, rfl, ⟨_, SqL.of (e01 _ _ ha)⟩, fun D hD => ?_⟩
    refine lc1_acc (walk_list (xs := xs)) (fun i zs Hd => DqAll (del Hd p) zs ((ps.take i).map placeD)) (fun _ _ _ _ e h => DqAll.up (ext_del e) h) .nil hD
      (fun i zs _ h => by rw [h.len, List.length_map, List.length_take]; exact Nat.lt_of_le_of_lt (show _ ≤ 20 by omega) (by decide)) (fun H' e => SqL.of ((e01.trans e) _ _ ha)) ?_ ?_
    · rintro i x Hi H' zs hi e hy ⟨rfl, hxi⟩ hz QY QN kY kN
      have hi2 : i < ps.length := by omega
      have hi3 : i < hs.length := by omega
      have ei : ps[i] = hs[i].1 := by simp only [eps, List.getElem_map]
      obtain ⟨x', hx', dx'⟩ := DqAll_get hx i (K70.hD hs[i]) (by rw [List.getElem?_map, List.getElem?_eq_getElem hi3]; rfl)
      rw [hxi] at hx'
      cases hx'
      obtain ⟨b, t2, ys, rfl, hb, ht2, hys⟩ := hd_inv dx'
      rw [← ei] at hb hys
      have e0i := e01.trans e
      have n1 : ∀ t3, H' t3 = none → t3 ≠ p := fun t3 ht3 z => by rw [z, e _ _ hp1] at ht3; cases ht3
      have n2 : ∀ t3, H' t3 = none → t3 ≠ D := fun t3 ht3 z => by rw [z, hy] at ht3; cases ht3
      have hD0 : H0 D = none := e01.free hD
      have fin : ∀ (t4 : Addr) (H3 : Hp), Ext H' H3 → H3 t4 = some (.tup ys) → (t4 ≠ p ∧ t4 ≠ D) → ∀ t3, H3 t3 = none → DqAll (del (del (upd H3 t3 (.tup [.str ps[i].1, .ref t4])) D) p) (zs ++ [.ref t3]) ((ps.take (i + 1)).map placeD) := fun t4 H3 e3 h4 n4 t3 ht3 => by
        have x3 := Ext.new (o := .tup [.str ps[i].1, .ref t4]) ht3
        have ht3' := e3.free ht3
        have ex : Ext H0 (del (del (upd H3 t3 (.tup [.str ps[i].1, .ref t4])) D) p) := ext_to (ext_to ((e0i.trans e3).trans x3) hD0) hp0
        rw [List.take_add_one, List.getElem?_eq_getElem hi2, Option.toList_some, List.map_append]
        have one : DqAll (del (del (upd H3 t3 (.tup [.str ps[i].1, .ref t4])) D) p) [.ref t3] [placeD ps[i]] :=
          .cons (.tup (by rw [del_ne (n1 _ ht3'), del_ne (n2 _ ht3')]; exact upd_same) (.cons (.str _) (.cons (.tup (by rw [del_ne n4.1, del_ne n4.2]; exact x3 _ _ h4) (DqAll.up ex hys)) .nil))) .nil
        exact dq_app (DqAll.up (ext_del (ext_del (e3.trans x3))) hz) one
      refine ⟨b, _, rfl, hb.imp (fun z => SqL.of (e0i _ _ z)) (fun z => SqT.of (e0i _ _ z)), rfl, _, _, rfl, _, _, rfl, rfl, rfl, ?_⟩
      refine tyes ?_
      rcases ht2 with ht2 | ht2
      · refine ⟨_, rfl, _, rfl, t2, ys, rfl, .inl ⟨SqL.of (e0i _ _ ht2), fun t4 ht4 => ⟨by show 2 ≤ sizeLine; decide, fun t3 ht3 => ?_⟩⟩⟩
        have e4 := Ext.new (o := .tup ys) ht4
        exact kY _ _ (e4.trans (Ext.new ht3)) (fin t4 _ e4 upd_same ⟨n1 _ ht4, n2 _ ht4⟩ t3 ht3)
      · refine ⟨_, rfl, _, rfl, t2, ys, rfl, .inr ⟨SqT.of (e0i _ _ ht2), by show 2 ≤ sizeLine; decide, fun t3 ht3 => ?_⟩⟩
        refine kY _ _ (Ext.new ht3) (fin t2 _ (Ext.refl _) (e0i _ _ ht2) ⟨fun z => ?_, fun z => ?_⟩ t3 ht3)
        · rw [z, hp0] at ht2; cases ht2
        · rw [z, hD0] at ht2; cases ht2
    intro H2 zs e2 hD2 hz
    rw [lx, List.take_length] at hz
    have hp2 := e2 _ _ hp1
    refine ⟨D, _, rfl, .inl ⟨SqL.of hD2, fun t ht => ?_⟩⟩
    have et := Ext.new (o := .tup zs) ht
    have npt : p ≠ t := fun z => by rw [← z, hp2] at ht; cases ht
    refine ⟨_, rfl, p, C, dx, [], rfl, et _ _ hp2, L.cl, L.nP, (by show 0 < 1000; decide), ?_⟩
    rw [putp1]
    have e4 : Ext H0 (upd (upd H2 t (.tup zs)) p (.ins C dx [("_places", .ref t)])) := Ext.mut ((e01.trans e2).trans et) hp0
    have h4t : (upd (upd H2 t (.tup zs)) p (.ins C dx [("_places", .ref t)])) t = some (.tup zs) := by
      rw [upd_ne (Ne.symm npt)]
      exact upd_same
    have h4p : (upd (upd H2 t (.tup zs)) p (.ins C dx [("_places", .ref t)])) p = some (.ins C dx [("_places", .ref t)]) := upd_same
    have h4d : DqAll (del (upd (upd H2 t (.tup zs)) p (.ins C dx [("_places", .ref t)])) p) zs (ps.map placeD) := by
      rw [del_upd]
      exact DqAll.up (ext_del et) hz
    generalize upd (upd H2 t (.tup zs)) p (.ins C dx [("_places", .ref t)]) = H4 at *
    have h4z := DqAll.up del_ext h4d
    -- the check
    have lk : ([("_places", V.ref t)] : List (Str × V)).lookup ("_places" : Str) = some (.ref t) := List.lookup_cons_self
    have lc : ([("_places", V.ref t)] : List (Str × V)).lookup ("_check" : Str) = none := one_field t (by decide +kernel)
    refine ⟨_, rfl, p, dx, _, rfl, h4p, lc, p, dx, t, _, zs, ps, rfl, h4p, lk, lc, h4t, h4z, ok, fun H5 e5 => ?_⟩
    have h5p := e5 _ _ h4p
    have h5t := e5 _ _ h4t
    have h5z := DqAll.up e5 h4z
    have e05 := e4.trans e5
    have lz : zs.length = ps.length := by rw [h5z.len, List.length_map]
    -- the lanes in use
    refine ⟨_, rfl, p, C, dx, _, _, rfl, h5p, L.cl, L.nP, lk, t, rfl, ⟨_, SqT.of h5t⟩, fun D2 hD2 => ?_⟩
    refine dc2_acc (walk_tup (xs := zs)) (fun i j kvs _ => ∃ ns : List Str, kvs = kvT ns ∧ ns.Nodup ∧ (∀ x, x ∈ ns ↔ x ∈ lanesP (ps.take i) ++ lanesA ((armsAt ps i).take j)) ∧ ns.length ≤ 20 * i + j ∧ i ≤ 20 ∧ j ≤ 20) (fun _ _ _ _ _ _ h => h)
      ⟨[], rfl, List.nodup_nil, (fun x => by simp [lanesP, lanesA]), by decide, by decide, by decide⟩ hD2
      (fun i j kvs _ ⟨ns, e, _, _, h1, h2, h3⟩ => by rw [e]; unfold kvT; rw [List.length_map]; exact Nat.lt_of_le_of_lt (show _ ≤ 420 by omega) (by decide)) (fun H' e => SqT.of (e _ _ h5t)) ?_ ?_
    · rintro i x Hi H' kvs hi e hy ⟨rfl, hxi⟩ hP R hR
      have hi2 : i < ps.length := by omega
      obtain ⟨x', hx', dx'⟩ := DqAll_get h5z i (placeD ps[i]) (by rw [List.getElem?_map, List.getElem?_eq_getElem hi2]; rfl)
      rw [hxi] at hx'
      cases hx'
      obtain ⟨b, t2, ys, rfl, hb, ht2, hys⟩ := place_inv dx'
      have gp := ok.ok _ (List.getElem_mem hi2)
      have ly : ys.length = ps[i].2.length := by rw [hys.len, List.length_map]
      have ea : armsAt ps i = ps[i].2 := by
        unfold armsAt
        rw [List.getElem?_eq_getElem hi2]
        rfl
      refine ⟨b, _, rfl, SqT.of (e _ _ hb), rfl, _, _, rfl, _, _, rfl, rfl, rfl, ?_⟩
      refine ⟨_, rfl, t2, rfl, ⟨_, SqT.of (e _ _ ht2)⟩, hR _ _ _ ⟨Ext.refl _, ys.length, _, _, walk_tup (xs := ys), fun Hz ez => SqT.of (ez _ _ (ext_to e hD2 _ _ ht2)), ?_, ?_⟩⟩
      · rintro kvs Hz ⟨ns, h1, h2, h3, h4, h5, h6⟩
        refine ⟨ns, h1, h2, fun z => ?_, by omega, by omega, by omega⟩
        rw [h3 z, ea, ly, List.take_length, List.take_add_one, List.getElem?_eq_getElem hi2, Option.toList_some, lanesP_snoc, List.take_zero]
        simp [lanesA]
      · rintro j y Ha Hb kvs hj eH ha2 ⟨rfl, hyj⟩ ⟨ns, rfl, h2, h3, h4, h5, h6⟩ QY QN kY kN
        have hj2 : j < ps[i].2.length := by omega
        obtain ⟨y', hy', dy'⟩ := DqAll_get hys j (armD ps[i].2[j]) (by rw [List.getElem?_map, List.getElem?_eq_getElem hj2]; rfl)
        rw [hyj] at hy'
        cases hy'
        have dy := dy'.up ((ext_to e hD2).trans eH)
        obtain ⟨t4, ws, et4, h7, _, _, h8⟩ := arm_inv dy
        have few := gp.few
        have tk : (armsAt ps i).take (j + 1) = (armsAt ps i).take j ++ [ps[i].2[j]] := by
          rw [ea, List.take_add_one, List.getElem?_eq_getElem hj2]
          rfl
        refine ⟨rfl, _, rfl, y, ps[i].2[j], rfl, dy, _, rfl, ?_⟩
        cases ho : ps[i].2[j].1 with
        | none =>
          refine iteF ?_
          refine kN _ (Ext.refl _) ⟨ns, rfl, h2, fun z => ?_, by omega, h5, by omega⟩
          have l0 : lanesA [ps[i].2[j]] = [] := by simp [lanesA, ho]
          rw [h3 z, tk, lanesA_snoc, l0, List.append_nil]
        | some pr =>
          refine iteT ?_
          refine ⟨_, rfl, t4, ws, 1, .str pr.2, et4, rfl, SqT.of h7, h8 pr ho, ?_⟩
          have l1 : lanesA [ps[i].2[j]] = [pr.2] := by simp [lanesA, ho]
          by_cases m : pr.2 ∈ ns
          · refine kY (.inr pr.2) (.bl true) _ (Ext.refl _) ⟨ns, kvT_put m, h2, fun z => ?_, by omega, h5, by omega⟩
            rw [tk, lanesA_snoc, l1]
            constructor
            · intro hz
              have := (h3 z).mp hz
              simp only [List.mem_append] at this ⊢
              rcases this with h | h
              · exact .inl h
              · exact .inr (.inl h)
            · intro hz
              simp only [List.mem_append, List.mem_singleton] at hz
              rcases hz with h | h | h
              · exact (h3 z).mpr (List.mem_append_left _ h)
              · exact (h3 z).mpr (List.mem_append_right _ h)
              · rw [h]; exact m
          · refine kY (.inr pr.2) (.bl true) _ (Ext.refl _) ⟨ns ++ [pr.2], kvT_new m, ?_, fun z => ?_, by rw [List.length_append, List.length_singleton]; omega, h5, by omega⟩
            · refine List.nodup_append.mpr ⟨h2, by simp, fun c hc d hd e => ?_⟩
              rw [List.mem_singleton.mp hd] at e
              exact m (e ▸ hc)
            · rw [tk, lanesA_snoc, l1]
              simp only [List.mem_append, List.mem_singleton]
              rw [h3 z]
              simp only [List.mem_append]
              constructor
              · rintro ((h | h) | h)
                · exact .inl h
                · exact .inr (.inl h)
                · exact .inr (.inr h)
              · rintro (h | h | h)
                · exact .inl (.inl h)
                · exact .inl (.inr h)
                · exact .inr h
    rintro H6 kvs e6 hD6 ⟨ns, rfl, h2, h3, h4, _, _⟩
    rw [lz, List.take_length] at h3
    have h3' : ∀ x, x ∈ ns ↔ x ∈ lanesP ps := fun x => by rw [h3 x]; simp [lanesA]
    rw [lz] at h4
    have kk : (kvT ns).map (·.1) = ns.map Sum.inr := by
      unfold kvT
      rw [List.map_map]
      rfl
    have few40 : ns.length ≤ 40 := by
      obtain ⟨ms, m1, m2⟩ := ok.ln
      exact Nat.le_trans (nodup_le h2 fun x hx => m2 x ((h3' x).mp hx)) m1
    refine ⟨_, rfl, D2, _, ns, rfl, Rd.of hD6, kk, by omega, fun us l hperm hso hl => ?_⟩
    have e7 := Ext.new (o := .lst (us.map V.str)) hl
    refine ⟨l, _, rfl, .inl ⟨SqL.of upd_same, fun u hu => ?_⟩⟩
    have e8 := Ext.new (o := .tup (us.map V.str)) hu
    have k8 := upd_same (H := upd H6 l (.lst (us.map V.str))) (a := u) (o := HO.tup (us.map V.str))
    have e58 := (e6.trans e7).trans e8
    generalize upd (upd H6 l (.lst (us.map V.str))) u (.tup (us.map V.str)) = H8 at *
    refine ⟨_, rfl, p, C, dx, _, rfl, e58 _ _ h5p, L.cl, L.nU, (by show 1 < 1000; decide), ?_⟩
    rw [putp2]
    have npu : p ≠ u := fun z => by
      have := e58 _ _ h5p
      rw [z, k8] at this
      cases this
    refine q _ (Ext.mut (e05.trans e58) hp0) ⟨dx, t, u, zs, us, upd_same, ?_, ?_, ?_, hso, hperm.nodup_iff.mpr h2, by rw [hperm.length_eq]; omega, fun x => by rw [hperm.mem_iff, h3' x], ok⟩
    · rw [upd_ne (Ne.symm npt)]
      exact e58 _ _ h5t
    · have z1 := DqAll.up (ext_del (D := p) (e5.trans e58)) h4d
      rw [← del_upd (o := .ins C dx (pf t u))] at z1
      exact DqAll.up del_ext z1
    · rw [upd_ne (Ne.symm npu)]
      exact k8
end
end K70

set_option Elab.async false
set_option linter.all false
set_option maxRecDepth 100000
set_option maxHeartbeats 4000000
namespace K70
open PySem PySem.Spec PyProof.Rows L2 Ol RZ
open TL (tl)
/-! ### data without lists -/
mutual
inductive Nl : PyData → Prop
  | non : Nl .none
  | bl (b : Bool) : Nl (.bool b)
  | int (i : Int) : Nl (.int i)
  | str (x : Str) : Nl (.str x)
  | tup {ds : List PyData} : NlAll ds → Nl (.tuple ds)
inductive NlAll : List PyData → Prop
  | nil : NlAll []
  | cons {d : PyData} {ds : List PyData} : Nl d → NlAll ds → NlAll (d :: ds)
end
theorem NlAll.of : ∀ {ds : List PyData}, (∀ d ∈ ds, Nl d) → NlAll ds
  | [], _ => .nil
  | d :: ds, h => .cons (h d List.mem_cons_self) (NlAll.of fun e he => h e (List.mem_cons_of_mem _ he))
mutual
theorem Dq.offl {H : Hp} {p : Addr} {xs : List V} (hp : H p = some (.lst xs)) : ∀ {v : V} {d : PyData}, Dq H v d → Nl d → Dq (del H p) v d
  | _, _, .non, _ => .non
  | _, _, .bl b, _ => .bl b
  | _, _, .int i, _ => .int i
  | _, _, .str x, _ => .str x
  | _, _, .lst h t, n => by cases n
  | _, _, .tup h t, n => .tup (by rw [del_ne (fun z => by rw [z, hp] at h; cases h)]; exact h) (DqAll.offl hp t (by cases n; assumption))
  | _, _, .dct h t, n => by cases n
theorem DqAll.offl {H : Hp} {p : Addr} {xs : List V} (hp : H p = some (.lst xs)) : ∀ {vs : List V} {ds : List PyData}, DqAll H vs ds → NlAll ds → DqAll (del H p) vs ds
  | _, _, .nil, _ => .nil
  | _, _, .cons h t, n => .cons (Dq.offl hp h (by cases n; assumption)) (DqAll.offl hp t (by cases n; assumption))
end
theorem nl_pair (x y : Str) : Nl (.tuple [.str x, .str y]) := .tup (.cons (.str _) (.cons (.str _) .nil))
theorem nl_arm (a : Arm) : Nl (armD a) := by
  obtain ⟨o, g⟩ := a
  cases o with
  | none => exact .tup (.cons (.str _) (.cons (.int _) .nil))
  | some p => exact .tup (.cons (.str _) (.cons (.str _) (.cons (.int _) .nil)))
/-! ### items of rows -/
abbrev Item := List (Str × Str) × Option (Str × Str)
def pairD (p : Str × Str) : PyData := .tuple [.str p.1, .str p.2]
def tkD : Option (Str × Str) → PyData
  | some p => pairD p
  | none => .none
def itD (it : Item) : PyData := .tuple [.tuple (it.1.map pairD), tkD it.2]
/-- a deal of these lanes -/
structure DealOk (ns : List Str) (p : Str × Str) : Prop where
  wd : p.1 ∈ words4
  nm : p.2 ∈ ns
  ok : isNameS p.2 = true
structure ItOk (ns : List Str) (it : Item) : Prop where
  deals : ∀ p ∈ it.1, DealOk ns p
  few : it.1.length ≤ 14
  tak : ∀ p, it.2 = some p → DealOk ns p
theorem pair_inv {H : Hp} {v : V} {p : Str × Str} (h : Dq H v (pairD p)) : ∃ t, v = .ref t ∧ H t = some (.tup [.str p.1, .str p.2]) := by
  obtain ⟨t, xs, ds, rfl, e, h1, h2⟩ := dq_tup h rfl
  unfold pairD at e
  injection e with e
  rw [← e] at h2
  cases h2 with
  | cons a1 t1 => cases t1 with
    | cons a2 t2 =>
      cases t2
      cases a1
      cases a2
      exact ⟨t, rfl, h1⟩
theorem it_inv {H : Hp} {v : V} {it : Item} (h : Dq H v (itD it)) : ∃ t s xs z, v = .ref t ∧ H t = some (.tup [.ref s, z]) ∧ H s = some (.tup xs) ∧ DqAll H xs (it.1.map pairD) ∧ Dq H z (tkD it.2) := by
  obtain ⟨t, xs, ds, rfl, e, h1, h2⟩ := dq_tup h rfl
  unfold itD at e
  injection e with e
  rw [← e] at h2
  cases h2 with
  | cons a1 t1 => cases t1 with
    | cons a2 t2 =>
      cases t2
      obtain ⟨s, ys, ds', rfl, e', k1, k2⟩ := dq_tup a1 rfl
      cases e'
      exact ⟨t, s, ys, _, rfl, h1, k1, k2, a2⟩
/-! ### the client that does as a row tells -/
def cArms (last i : Nat) (it : Item) : List Arm := it.1.map (fun p => (some p, last)) ++ [(it.2, i + 1)]
def cPlace (last i : Nat) (it : Item) : Place := ("first", cArms last i it)
def cFirst (row : List Item) (n : Nat) : List Place := (List.range n).map fun i => cPlace (row.length + 1) i (row.getD i ([], none))
abbrev ePl : Place := (("first" : Str), ([] : List Arm))
def cPlaces (row : List Item) : List Place := cFirst row row.length ++ [ePl, ePl]
theorem cFirst_succ (row : List Item) (n : Nat) : cFirst row (n + 1) = cFirst row n ++ [cPlace (row.length + 1) n (row.getD n ([], none))] := by
  unfold cFirst
  rw [List.range_succ, List.map_append]
  rfl
theorem pls_client {ns : List Str} {row : List Item} (ok : ∀ it ∈ row, ItOk ns it) (l : row.length ≤ 16) (n40 : ns.length ≤ 40) : Pls (cPlaces row) := by
  have len : (cPlaces row).length = row.length + 2 := by simp [cPlaces, cFirst]
  have ok' : ∀ i < row.length, ItOk ns (row.getD i ([], none)) := fun i hi => by
    rw [List.getD_eq_getElem?_getD, List.getElem?_eq_getElem hi]
    exact ok _ (List.getElem_mem hi)
  have mem : ∀ p ∈ cPlaces row, p = ePl ∨ ∃ i, i < row.length ∧ p = cPlace (row.length + 1) i (row.getD i ([], none)) := fun p hp => by
    rcases List.mem_append.mp hp with z | z
    · obtain ⟨i, hi, rfl⟩ := List.mem_map.mp z
      exact .inr ⟨i, List.mem_range.mp hi, rfl⟩
    · simp only [List.mem_cons, List.not_mem_nil, or_false, or_self] at z
      exact .inl z
  refine ⟨by unfold cPlaces; simp, by omega, fun p hp => ?_, ns, n40, fun x hx => ?_⟩
  · rw [len]
    rcases mem p hp with rfl | ⟨i, hi, rfl⟩
    · exact ⟨.inl rfl, fun _ z => (nomatch z), by decide, by decide⟩
    · have o := ok' i hi
      generalize row.getD i ([], none) = it at o
      refine ⟨.inl rfl, fun a ha => ?_, ?_, ?_⟩
      · rcases List.mem_append.mp ha with z | z
        · obtain ⟨p, hp, rfl⟩ := List.mem_map.mp z
          exact ⟨⟨(o.deals p hp).wd, (o.deals p hp).ok⟩, by show row.length + 1 < _; omega⟩
        · rw [List.mem_singleton.mp z]
          refine ⟨?_, by show i + 1 < _; omega⟩
          cases e : it.2 with
          | none => exact trivial
          | some p => exact ⟨(o.tak p e).wd, (o.tak p e).ok⟩
      · show ((cArms (row.length + 1) i it).filter fun a => a.1.isNone).length ≤ 1
        unfold cArms
        rw [List.filter_append]
        have e : ((it.1.map fun p => ((some p, row.length + 1) : Arm)).filter fun a => a.1.isNone) = [] := List.filter_eq_nil_iff.mpr fun a ha => by
          obtain ⟨p, _, rfl⟩ := List.mem_map.mp ha
          simp
        rw [e, List.nil_append]
        exact List.length_filter_le _ _
      · show (cArms (row.length + 1) i it).length ≤ 20
        unfold cArms
        rw [List.length_append, List.length_map, List.length_singleton]
        have := o.few
        omega
  · unfold lanesP at hx
    obtain ⟨p, hp, hx⟩ := List.mem_flatMap.mp hx
    rcases mem p hp with rfl | ⟨i, hi, rfl⟩
    · cases hx
    · have o := ok' i hi
      generalize row.getD i ([], none) = it at o hx
      unfold lanesA at hx
      obtain ⟨a, ha, ea⟩ := List.mem_filterMap.mp hx
      rcases List.mem_append.mp ha with z | z
      · obtain ⟨p, hp, rfl⟩ := List.mem_map.mp z
        cases ea
        exact (o.deals p hp).nm
      · rw [List.mem_singleton.mp z] at ea
        cases e : it.2 with
        | none => rw [e] at ea; cases ea
        | some p => rw [e] at ea; cases ea; exact (o.tak p e).nm
section
variable {P : Program} {w : World} {K : PySem.W.Frag} {mg : Str → Option Value} {base : Heap} {C CP : Addr}
structure MkPH (P : Program) (w : World) (K : PySem.W.Frag) (mg : Str → Option Value) (base : Heap) (C : Addr) : Prop where
  has : ∃ (f : Addr) (fd : FuncData), FnOk P w K mg base CX0 7 f fd ["self", "places"] (spProgH C) ∧ Mk K C f ∧ Binds K fd ["self", "places"] []
/-! ### client_of -/
def spCl (CP : Addr) : Sp := fun vs H Q _ => ∃ (l : Addr) (xs : List V) (row : List Item) (ns : List Str), vs = [.ref l] ∧ H l = some (.lst xs) ∧ DqAll H xs (row.map itD) ∧ (∀ it ∈ row, ItOk ns it) ∧ row.length ≤ 16 ∧ ns.length ≤ 40 ∧
  ∀ (p : Addr) (H' : Hp), Ext H H' → ProgAt CP H' p (cPlaces row) → Q (.ref p) H'
abbrev nCl : List Str := ["row", "last", "places", "place", "shut", "arm", "arms", "word", "lane"]
end
end K70

set_option Elab.async false
set_option linter.all false
namespace Ol
open PySem PySem.Spec PyProof.Rows L2
theorem lt_asym : ∀ a b : List Nat, ltCps a b = true → ltCps b a = false
  | [], [], _ => rfl
  | [], _ :: _, _ => rfl
  | _ :: _, [], h => by cases h
  | a :: r, b :: t, h => by
    unfold ltCps at h ⊢
    simp only [Bool.or_eq_true, decide_eq_true_eq, Bool.and_eq_true, beq_iff_eq] at h
    simp only [Bool.or_eq_false_iff, decide_eq_false_iff_not, Bool.and_eq_false_iff, beq_eq_false_iff_ne]
    rcases h with h | ⟨e, h⟩
    · exact ⟨by omega, .inl (by omega)⟩
    · exact ⟨by omega, .inr (lt_asym r t h)⟩
theorem sorted_of_pw : ∀ {l : List Str}, l.Pairwise (fun a b => ltCps b.cps.toList a.cps.toList = false) → sortedS l = true
  | [], _ => rfl
  | [x], _ => rfl
  | x :: y :: r, h => by
    have h2 := List.pairwise_cons.mp h
    have ih := sorted_of_pw h2.2
    show risingS x (y :: r) = true
    unfold risingS
    rw [Bool.and_eq_true, Bool.not_eq_true']
    exact ⟨h2.1 y List.mem_cons_self, ih⟩
/-- texts in order -/
def srtS (l : List Str) : List Str := l.mergeSort fun a b => !ltCps b.cps.toList a.cps.toList
theorem srtS_perm (l : List Str) : (srtS l).Perm l := List.mergeSort_perm l _
theorem srtS_sorted (l : List Str) : sortedS (srtS l) = true := by
  refine sorted_of_pw ?_
  have h := List.pairwise_mergeSort (le := fun a b : Str => !ltCps b.cps.toList a.cps.toList) (fun a b c h1 h2 => by
      rw [Bool.not_eq_true'] at h1 h2 ⊢
      exact lt_trans _ _ _ h1 h2) (fun a b => by
      cases h : ltCps b.cps.toList a.cps.toList with
      | false => rfl
      | true => rw [lt_asym _ _ h]; rfl) l
  exact h.imp fun h => by simpa using h
end Ol

set_option Elab.async false
set_option linter.all false
set_option maxRecDepth 100000
set_option maxHeartbeats 4000000
namespace K70
open PySem PySem.Spec PyProof.Rows L2 Ol RZ
open TL (tl)
/-! ### a server alone, its lanes: what a law's own tables tell -/
structure Lo (ps : List (Str × Int)) (ns : List Str) : Prop where
  p1 : 1 ≤ ps.length
  p3 : ps.length ≤ 3
  perm : ns.Perm (ps.map (·.1))
  nd : ns.Nodup
  so : sortedS ns = true
  nm : ∀ x ∈ ns, isNameS x = true
  bd : ∀ x ∈ ns, 1 ≤ bdOf ps x ∧ bdOf ps x ≤ 3
theorem Lo.len {ps : List (Str × Int)} {ns : List Str} (h : Lo ps ns) : ns.length = ps.length := by rw [h.perm.length_eq, List.length_map]
/-- a server's place and the content -/
structure One where
  pl : Nat
  st : Str → Nat × Bool
def oneD (ns : List Str) (o : One) : PyData := .tuple [.int (o.pl : Int), ctD (ns.map o.st)]
def Cts (ps : List (Str × Int)) (ns : List Str) (st : Str → Nat × Bool) : Prop := ∀ x ∈ ns, ((st x).1 : Int) ≤ bdOf ps x
structure GOne (ps : List (Str × Int)) (ns : List Str) (n : Nat) (o : One) : Prop where
  pl : o.pl < n
  st : Cts ps ns o.st
def leftS (bd : Str → Int) (st : Str → Nat × Bool) (a : Option (Str × Str)) : Str → Nat × Bool := fun y => match a with
  | none => st y
  | some p => if y = p.2 then (beh p.1 (st p.2).1 (st p.2).2 (bd p.2)).getD (st p.2) else st y
theorem leftS_ok {ps : List (Str × Int)} {ns : List Str} {st : Str → Nat × Bool} {a : Option (Str × Str)} (h : Cts ps ns st) : Cts ps ns (leftS (bdOf ps) st a) := by
  intro x hx
  unfold leftS
  cases a with
  | none => exact h x hx
  | some p =>
    dsimp only
    split
    · rename_i e
      subst e
      cases hb : beh p.1 (st p.2).1 (st p.2).2 (bdOf ps p.2) with
      | none => exact h _ hx
      | some s2 => exact (beh_counts (h _ hx) hb).2.2
    · exact h x hx
theorem leftS_set {bd : Str → Int} {st : Str → Nat × Bool} {ns : List Str} {p : Str × Str} {j : Nat} {s' : Nat × Bool} (nd : ns.Nodup) (hj : j < ns.length) (e : ns[j] = p.2) (hb : beh p.1 (st p.2).1 (st p.2).2 (bd p.2) = some s') : (ns.map st).set j s' = ns.map (leftS bd st (some p)) := by
  refine List.ext_getElem (by simp) fun i h1 h2 => ?_
  have hi : i < ns.length := by simpa using h2
  rw [List.getElem_set, List.getElem_map, List.getElem_map]
  unfold leftS
  dsimp only
  by_cases c : j = i
  · subst c
    rw [if_pos rfl, if_pos e, hb]
    rfl
  · rw [if_neg c, if_neg]
    intro z
    have := (List.pairwise_iff_getElem.mp nd)
    rcases Nat.lt_or_gt_of_ne c with g | g
    · exact this j i hj hi g (e.trans z.symm)
    · exact this i j hi hj g (z.trans e.symm)
/-- the pairs that are open, or not -/
def opP (op : Bool) (st : Str → Nat × Bool) (bd : Str → Int) (x y : Str) : Bool := (beh x (st y).1 (st y).2 (bd y)).isSome == op
def prs (q : Str → Str → Bool) (ns : List Str) : List (Str × Str) := words4.flatMap fun x => (ns.filter (q x)).map fun y => (x, y)
def rowP (q : Str → Str → Bool) (ns : List Str) (x : Str) : List (Str × Str) := (ns.filter (q x)).map fun y => (x, y)
theorem prs_mem {q : Str → Str → Bool} {ns : List Str} {p : Str × Str} : p ∈ prs q ns ↔ p.1 ∈ words4 ∧ p.2 ∈ ns ∧ q p.1 p.2 = true := by
  unfold prs
  rw [List.mem_flatMap]
  constructor
  · rintro ⟨x, hx, h⟩
    obtain ⟨y, hy, rfl⟩ := List.mem_map.mp h
    obtain ⟨h1, h2⟩ := List.mem_filter.mp hy
    exact ⟨hx, h1, h2⟩
  · rintro ⟨h1, h2, h3⟩
    exact ⟨p.1, h1, List.mem_map.mpr ⟨p.2, List.mem_filter.mpr ⟨h2, h3⟩, rfl⟩⟩
theorem prs_deal {ps : List (Str × Int)} {ns : List Str} (L : Lo ps ns) {q : Str → Str → Bool} {p : Str × Str} (h : p ∈ prs q ns) : DealOk ns p := by
  obtain ⟨h1, h2, _⟩ := prs_mem.mp h
  exact ⟨h1, h2, L.nm _ h2⟩
theorem rowP_len {q : Str → Str → Bool} {ns : List Str} {x : Str} (h3 : ns.length ≤ 3) : (rowP q ns x).length ≤ 3 := by
  unfold rowP
  rw [List.length_map]
  exact Nat.le_trans (List.length_filter_le ..) h3
theorem prs_len {q : Str → Str → Bool} {ns : List Str} (h3 : ns.length ≤ 3) : (prs q ns).length ≤ 12 := by
  have h : ∀ x, ((ns.filter (q x)).map fun y => (x, y)).length ≤ 3 := fun x => rowP_len (q := q) (x := x) h3
  unfold prs words4
  simp only [List.flatMap_cons, List.flatMap_nil, List.length_append, List.append_nil]
  have a := h "close"
  have b := h "ended"
  have c := h "send"
  have d := h "take"
  omega
section
variable {P : Program} {w : World} {K : PySem.W.Frag} {mg : Str → Option Value} {base : Heap} {C CP : Addr}
/-! ### _law_pairs_of -/
def spPo : Sp := fun vs H Q _ => ∃ (db : Addr) (v : V) (ps : List (Str × Int)) (ns : List Str) (st : Str → Nat × Bool) (op : Bool), vs = [.ref db, v, .bl op] ∧ H db = some (.dK (kvI ps)) ∧ Dq H v (ctD (ns.map st)) ∧ Lo ps ns ∧
  ∀ (r : Addr) (xs : List V) (H' : Hp), H r = none → Ext H H' → H' r = some (.lst xs) → DqAll H' xs ((prs (opP op st (bdOf ps)) ns).map pairD) → Q (.ref r) H'
abbrev s__law_pairs_of : Stmt := (topS 48)
abbrev nPo : List Str := ["_law_bounds_here", "_law_content", "_law_opened", "_law_found", "_law_word", "_law_menu", "_law_lane", "_law_one"]
theorem sc__law_pairs_of : FnScope nPo ["_law_bounds_here", "_law_content", "_law_opened"] (defScope s__law_pairs_of) := ⟨rfl, rfl, rfl, by decide +kernel, rfl, by decide +kernel, by decide +kernel⟩
theorem ok_po {f : Addr} {fd : FuncData} (F : Fun K "_law_pairs_of" "_law_pairs_of" s__law_pairs_of f fd) (T : BT mg) (COp : Ca P w K mg base 1 "_law_opens" ["_law_bounds_here", "_law_content", "_law_arm_here"] spOpens) :
    FnOk P w K mg base CX0 2 f fd ["_law_bounds_here", "_law_content", "_law_opened"] spPo := by
  refine F.ok sc__law_pairs_of (fun vs H Q E h => ?_) (fun cdv A outer s H vs Q E hr h => ?_)
  · obtain ⟨db, v, ps, ns, st, op, rfl, _⟩ := h
    rfl
  · obtain ⟨db, v, ps, ns, st, op, rfl, hdb, hv, L, q⟩ := h
    have l3 := L.p3
    have hperm := L.perm
    have nd := L.nd
    have so := L.so
    refine ⟨_, (pss_cons (ps_set (i := 3) sc__law_pairs_of.nd rfl (.inl rfl) (pe_lst pa_nil))
    (pss_cons (ps_for PassesOwn.never rfl (pi_tup (pe_tup (pa_cons pe_str (pa_cons pe_str (pa_cons pe_str (pa_cons pe_str pa_nil)))))) (pg_name (i := 4) sc__law_pairs_of.nd rfl (.inr rfl))
      (pss_cons (ps_setLc (i := 5) (own := [("_law_lane", 6)]) (g := gName 6) (tt := tYes) (te := tTup (tCons (tVar 4) (tCons (tVar 6) tNil))) rfl sc__law_pairs_of.nd rfl rfl (sw_true rfl rfl rfl (by decide +kernel)) (pi_list (pe_callB (call_sortedD rfl) (by rfl) T.n_sorted (by decide +kernel) (pa_cons (pv 0) pa_nil))) (blkOk_by (N := nPo) (sc := defScope s__law_pairs_of) (by decide +kernel)) (fun _ _ _ _ _ => (pg_name (i := 6) sc__law_pairs_of.nd rfl (.inl rfl))) (fun _ _ _ _ _ => pts_nil) (fun _ _ _ _ _ => by exact (pe_tup (pa_cons (pv 4) (pa_cons (pv 6) pa_nil)))))
      (pss_one (ps_set (i := 3) sc__law_pairs_of.nd rfl (.inl rfl) (pe_op op_cat (pv 3) (pe_lc (own := [("_law_one", 7)]) (g := gName 7) (tt := tTest (tOp rEq (tCall spOpens [] E0 (tCons (tVar 0) (tCons (tVar 1) (tCons (tVar 7) tNil)))) (tVar 2))) (te := tVar 7) rfl sc__law_pairs_of.nd (pi_list (pv 5)) (blkOk_by (N := nPo) (sc := defScope s__law_pairs_of) (by decide +kernel)) (fun _ _ _ _ _ => (pg_name (i := 7) sc__law_pairs_of.nd rfl (.inl rfl))) (fun _ _ _ _ _ => by exact (pts_one (pt_cmpR op_eq (pe_ca COp (hr.mono (by decide)) (by rfl) (pa_cons (pv 0) (pa_cons (pv 1) (pa_cons (pv 7) pa_nil)))) (pv 2) (nomark _)))) (fun _ _ _ _ _ => (pv 7))))))))
    (pss_one (ps_ret (pv 3))))), ?_⟩
    have ln : ns.length = ps.length := L.len
    refine ⟨by show 0 ≤ sizeLine; decide, fun F0 hF0 => ?_⟩
    have e0 := Ext.new (o := .lst []) hF0
    have h0 := upd_same (H := H) (a := F0) (o := HO.lst [])
    generalize upd H F0 (.lst []) = H0 at e0 h0 ⊢
    refine ⟨by show 4 ≤ sizeLine; decide, fun t ht => ?_⟩
    have e1 := Ext.new (o := .tup [.str "close", .str "ended", .str "send", .str "take"]) ht
    have h1 := upd_same (H := H0) (a := t) (o := HO.tup (words4.map V.str))
    have h1F := e1 _ _ h0
    have h1' : upd H0 t (.tup [.str "close", .str "ended", .str "send", .str "take"]) t = some (.tup (words4.map V.str)) := h1
    generalize upd H0 t (.tup [.str "close", .str "ended", .str "send", .str "take"]) = H1 at e1 h1' h1F ⊢
    have e01 := e0.trans e1
    refine ⟨t, rfl, ⟨_, SqT.of h1'⟩, ?_⟩
    refine for_it (walk_tup (xs := words4.map V.str)) (fun i σ H' => ∃ F xs s4 s5 s6 s7, σ = [some (.ref db), some v, some (.bl op), some (.ref F), s4, s5, s6, s7] ∧ Ext H1 H' ∧ H F = none ∧ H' F = some (.lst xs) ∧ DqAll H' xs (((words4.take i).flatMap (rowP (opP op st (bdOf ps)) ns)).map pairD) ∧ xs.length ≤ 3 * i)
      ⟨F0, [], none, none, none, none, rfl, Ext.refl _, hF0, h1F, .nil, Nat.le_refl _⟩ (fun i σ H' _ ⟨_, _, _, _, _, _, _, e, _⟩ => SqT.of (e _ _ h1')) ?_ ?_
    · rintro i x σ Hq H2 hi ⟨F, xs, s4, s5, s6, s7, rfl, e2, nF, h2F, hxs, lx⟩ ⟨rfl, hxi⟩
      rw [List.length_map] at hi
      rw [List.getElem?_map, List.getElem?_eq_getElem hi] at hxi
      cases hxi
      have hi4 : i < 4 := hi
      have e02 := e01.trans e2
      have wd : words4[i] ∈ words4 := List.getElem_mem hi
      have tk : words4.take (i + 1) = words4.take i ++ [words4[i]] := by
        rw [List.take_add_one, List.getElem?_eq_getElem hi]
        rfl
      generalize words4[i] = word at wd tk
      refine ⟨_, rfl, db, _, _, rfl, Rd.of (e02 _ _ hdb), kvI_keys ps, (by rw [List.length_map]; omega), fun ys p1 hperm2 hso2 hp1 => ?_⟩
      obtain rfl : ys = ns := sorted_one hso2 so (hperm2.trans hperm.symm)
      have e3 := Ext.new (o := .lst (ys.map V.str)) hp1
      have h3 := upd_same (H := H2) (a := p1) (o := HO.lst (ys.map V.str))
      generalize upd H2 p1 (.lst (ys.map V.str)) = H3 at e3 h3 ⊢
      refine ⟨p1, rfl, ⟨_, SqL.of h3⟩, fun D hD => ?_⟩
      refine lc1_acc (walk_list (xs := ys.map V.str)) (fun j zs Hz => DqAll Hz zs ((ys.take j).map fun y => pairD (word, y)) ∧ zs.length ≤ j ∧ j ≤ 3) (fun _ _ _ _ e h => ⟨DqAll.up e h.1, h.2⟩) ⟨.nil, by decide, by decide⟩ hD
        (fun j zs _ h => Nat.lt_of_le_of_lt (show zs.length ≤ 3 by have := h.2; omega) (by decide)) (fun H' e => SqL.of (e _ _ h3)) ?_ ?_
      · rintro j y Hi H' zs hj e hy ⟨rfl, hyj⟩ ⟨hp, hp2, hp3⟩ QY QN kY kN
        rw [List.length_map] at hj
        rw [List.getElem?_map, List.getElem?_eq_getElem hj] at hyj
        cases hyj
        refine ⟨rfl, ?_⟩
        refine tyes ?_
        refine ⟨_, rfl, _, rfl, by show 2 ≤ sizeLine; decide, fun pt hpt => ?_⟩
        have en := Ext.new (o := .tup [.str word, .str ys[j]]) hpt
        refine kY (.ref pt) _ en ⟨?_, by rw [List.length_append, List.length_singleton]; omega, by omega⟩
        rw [List.take_add_one, List.getElem?_eq_getElem hj, Option.toList_some, List.map_append]
        exact DqAll_snoc (DqAll.up (ext_del en) hp) (.tup (del_at hpt hy upd_same) (.cons (.str _) (.cons (.str _) .nil)))
      · rintro H4 zs e4 h4D ⟨hzs, lzs, _⟩
        rw [List.length_map, List.take_length] at hzs
        have lz : zs.length = ys.length := by rw [hzs.len, List.length_map]
        have e04 := e02.trans (e3.trans e4)
        have e24 := e3.trans e4
        have h4db := e04 _ _ hdb
        have h4v := hv.up e04
        have h4F := e24 _ _ h2F
        refine ⟨_, rfl, _, rfl, D, rfl, ⟨_, SqL.of h4D⟩, fun D2 hD2 => ?_⟩
        refine lc1_acc (walk_list (xs := zs)) (fun j ws Hz => DqAll Hz ws ((rowP (opP op st (bdOf ps)) (ys.take j) word).map pairD) ∧ ws.length ≤ j ∧ j ≤ 3) (fun _ _ _ _ e h => ⟨DqAll.up e h.1, h.2⟩) ⟨.nil, by decide, by decide⟩ hD2
          (fun j ws _ h => Nat.lt_of_le_of_lt (show ws.length ≤ 3 by have := h.2; omega) (by decide)) (fun H' e => SqL.of (e _ _ h4D)) ?_ ?_
        · rintro j y Hi H' ws hj e hy ⟨rfl, hyj⟩ ⟨hp, hp2, hp3⟩ QY QN kY kN
          have hj2 : j < ys.length := by omega
          obtain ⟨y', hy', dy⟩ := DqAll_get hzs j (pairD (word, ys[j])) (by rw [List.getElem?_map, List.getElem?_eq_getElem hj2]; rfl)
          rw [hyj] at hy'
          cases hy'
          obtain ⟨pa, rfl, hp1⟩ := pair_inv dy
          have rs : rowP (opP op st (bdOf ps)) (ys.take (j + 1)) word = rowP (opP op st (bdOf ps)) (ys.take j) word ++ (if opP op st (bdOf ps) word ys[j] = true then [(word, ys[j])] else []) := by
            unfold rowP
            rw [List.take_add_one, List.getElem?_eq_getElem hj2, Option.toList_some, List.filter_append, List.map_append]
            congr 1
            by_cases c : opP op st (bdOf ps) word ys[j] = true
            · rw [if_pos c, List.filter_cons, if_pos c]; rfl
            · rw [if_neg c, List.filter_cons, if_neg c]; rfl
          refine ⟨rfl, ?_⟩
          refine ⟨_, rfl, _, rfl, _, rfl, db, pa, v, [], ps, ys, st, word, j, hj2, rfl, e _ _ h4db, h4v.up e, e _ _ hp1, l3, hperm, nd, so, wd, fun H5 e5 => ⟨_, rfl, rfl, _, rfl, ?_⟩⟩
          have hz : opP op st (bdOf ps) word ys[j] = ((beh word (st ys[j]).1 (st ys[j]).2 (bdOf ps ys[j])).isSome == op) := rfl
          have yes : opP op st (bdOf ps) word ys[j] = true → DqAll (del H5 D2) (ws ++ [.ref pa]) ((rowP (opP op st (bdOf ps)) (ys.take (j + 1)) word).map pairD) := fun c => by
            rw [rs, if_pos c, List.map_append]
            exact DqAll_snoc (DqAll.up (ext_del e5) hp) (.tup ((del_ne (fun z => by rw [z, hD2] at hp1; cases hp1)).trans (e5 _ _ (e _ _ hp1))) (.cons (.str _) (.cons (.str _) .nil)))
          have no : ¬ opP op st (bdOf ps) word ys[j] = true → DqAll (del H5 D2) ws ((rowP (opP op st (bdOf ps)) (ys.take (j + 1)) word).map pairD) := fun c => by
            rw [rs, if_neg c, List.append_nil]
            exact DqAll.up (ext_del e5) hp
          cases hso : (beh word (st ys[j]).1 (st ys[j]).2 (bdOf ps ys[j])).isSome with
          | true =>
            cases op with
            | true =>
              refine iteT ?_
              exact ⟨_, rfl, kY _ _ e5 ⟨yes (by rw [hz, hso]; rfl), by rw [List.length_append, List.length_singleton]; omega, by omega⟩⟩
            | false =>
              refine iteF ?_
              exact kN _ e5 ⟨no (by rw [hz, hso]; decide), by omega, by omega⟩
          | false =>
            cases op with
            | true =>
              refine iteF ?_
              exact kN _ e5 ⟨no (by rw [hz, hso]; decide), by omega, by omega⟩
            | false =>
              refine iteT ?_
              exact ⟨_, rfl, kY _ _ e5 ⟨yes (by rw [hz, hso]; rfl), by rw [List.length_append, List.length_singleton]; omega, by omega⟩⟩
        · rintro H5 ws e5 h5D ⟨hws, lws, _⟩
          rw [lz, List.take_length] at hws
          refine ⟨F, D2, xs, ws, rfl, rfl, e5 _ _ h4F, h5D, Nat.le_trans (show xs.length + ws.length ≤ 20 by omega) (by decide), fun l hl => ?_⟩
          have e6 := Ext.new (o := .lst (xs ++ ws)) hl
          have e26 := e24.trans (e5.trans e6)
          refine ⟨l, xs ++ ws, _, _, _, _, rfl, e2.trans e26, (e04.trans e5).free hl, upd_same, ?_, by rw [List.length_append]; omega⟩
          rw [tk, List.flatMap_append, List.flatMap_cons, List.flatMap_nil, List.append_nil, List.map_append]
          exact dq_app (DqAll.up e26 hxs) (DqAll.up e6 hws)
    · rintro σ H2 ⟨F, xs, s4, s5, s6, s7, rfl, e2, nF, h2F, hxs, lx⟩
      exact ⟨_, rfl, q F xs H2 nF (e01.trans e2) h2F hxs⟩
/-! ### _law_start -/
def stt0 : Str → Nat × Bool := fun _ => (0, false)
def spSt : Sp := fun vs H Q _ => ∃ (db : Addr) (ps : List (Str × Int)) (ns : List Str), vs = [.ref db] ∧ H db = some (.dK (kvI ps)) ∧ Lo ps ns ∧
  ∀ (v : V) (H' : Hp), Ext H H' → Dq H' v (oneD ns ⟨0, stt0⟩) → Q v H'
abbrev s__law_start : Stmt := (topS 49)
theorem sc__law_start : FnScope ["_law_bounds_here", "_law_name"] ["_law_bounds_here"] (defScope s__law_start) := ⟨rfl, rfl, rfl, by decide +kernel, rfl, by decide +kernel, by decide +kernel⟩
theorem del_up {H : Hp} {k : Addr} {o : HO} : Ext (del H k) (upd H k o) := fun b u z => by
  by_cases c : b = k
  · subst c
    rw [del_same] at z
    cases z
  · rw [del_ne c] at z
    rw [upd_ne c]
    exact z
theorem ok_st {f : Addr} {fd : FuncData} (F : Fun K "_law_start" "_law_start" s__law_start f fd) (T : BT mg) :
    FnOk P w K mg base CX0 1 f fd ["_law_bounds_here"] spSt := by
  refine F.ok sc__law_start (fun vs H Q E h => ?_) (fun cdv A outer s H vs Q E hr h => ?_)
  · obtain ⟨db, ps, ns, rfl, _⟩ := h
    rfl
  · obtain ⟨db, ps, ns, rfl, hdb, L, q⟩ := h
    refine ⟨_, (pss_one (ps_ret (pe_tup (pa_cons pe_int (pa_cons (pe_callTy call_tuple_of (by rfl) T.n_tuple (by decide +kernel) (pa_cons (pe_lock (pe_lc (own := [("_law_name", 1)]) (g := gName 1) (tt := tYes) rfl sc__law_start.nd (pi_keys (pv 0)) (blkOk_by (N := ["_law_bounds_here", "_law_name"]) (sc := defScope s__law_start) (by decide +kernel)) (fun _ _ _ _ _ => (pg_name (i := 1) sc__law_start.nd rfl (.inl rfl))) (fun _ _ _ _ _ => pts_nil) (fun _ _ _ _ _ => (pe_tup (pa_cons pe_int (pa_cons pe_bl pa_nil)))))) pa_nil)) pa_nil))))), ?_⟩
    refine ⟨db, _, hdb, trivial, fun od => ?_⟩
    have h1k := upd_same (H := H) (a := db) (o := HO.frz od (.dK (kvI ps)))
    have du := del_up (H := H) (k := db) (o := .frz od (.dK (kvI ps)))
    generalize upd H db (.frz od (.dK (kvI ps))) = H1 at h1k du ⊢
    refine ⟨_, rfl, db, od, rfl, .inl ⟨_, h1k, fun D hD => ?_⟩⟩
    have lp : (kvI ps).length = ps.length := by unfold kvI; rw [List.length_map]
    have p3 := L.p3
    have nDb : D ≠ db := fun z => by rw [z, h1k] at hD; cases hD
    refine lc1_acc (walk_keys (kvs := kvI ps)) (fun i ys Hd => i ≤ 3 ∧ DqAll (del Hd db) ys (List.replicate i (stD 0 false))) (fun _ _ _ _ e ⟨a1, h⟩ => ⟨a1, DqAll.up (ext_del e) h⟩) ⟨by decide, .nil⟩ hD
      (fun i ys _ ⟨a1, h⟩ => by rw [h.len, List.length_replicate]; exact Nat.lt_of_le_of_lt a1 (by decide)) (fun H' e => e _ _ h1k) ?_ ?_
    · rintro i x Hi H' ys hi e hy ⟨rfl, ky, vv, hkv, rfl⟩ ⟨a1, hz⟩ QY QN kY kN
      rw [lp] at hi
      refine ⟨rfl, ?_⟩
      refine tyes ?_
      refine ⟨by show 2 ≤ sizeLine; decide, fun t ht => ?_⟩
      have et := Ext.new (o := .tup [.int 0, .bl false]) ht
      have n1 : t ≠ db := fun z => by rw [z, e _ _ h1k] at ht; cases ht
      have n2 : t ≠ D := fun z => by rw [z, hy] at ht; cases ht
      refine kY _ _ et ⟨by omega, ?_⟩
      rw [List.replicate_succ']
      exact dq_app (DqAll.up (ext_del (ext_del et)) hz) (.cons (.tup (by rw [del_ne n1, del_ne n2]; exact upd_same) (.cons (.int _) (.cons (.bl _) .nil))) .nil)
    rintro H2 ys e2 h2D ⟨_, hz⟩
    rw [lp] at hz
    refine ⟨e2 _ _ h1k, D, _, rfl, .inl ⟨SqL.of ((upd_ne nDb).trans h2D), fun t ht => ?_⟩⟩
    have eH : Ext H (upd H2 db (.dK (kvI ps))) := fun b o z => by
      by_cases c : b = db
      · rw [c] at z ⊢
        rw [upd_same, ← hdb, z]
      · rw [upd_ne c]
        exact e2 _ _ (du _ _ (by rw [del_ne c]; exact z))
    have z3 : DqAll (upd H2 db (.dK (kvI ps))) ys (List.replicate ps.length (stD 0 false)) := DqAll.up del_up hz
    generalize upd H2 db (.dK (kvI ps)) = H3 at eH z3 ht ⊢
    have et := Ext.new (o := .tup ys) ht
    have t4 := upd_same (H := H3) (a := t) (o := HO.tup ys)
    have z4 := DqAll.up et z3
    have e4 := eH.trans et
    generalize upd H3 t (.tup ys) = H4 at et t4 z4 e4 ⊢
    refine ⟨by show 2 ≤ sizeLine; decide, fun t3 ht3 => ?_⟩
    have et3 := Ext.new (o := .tup [.int 0, .ref t]) ht3
    refine q _ _ (e4.trans et3) (.tup upd_same (.cons (.int _) (.cons (.tup (et3 _ _ t4) ?_) .nil)))
    have en : ctL (ns.map stt0) = List.replicate ps.length (stD 0 false) := by
      unfold ctL stt0
      rw [List.map_map, ← L.len]
      exact List.map_const' ..
    rw [en]
    exact DqAll.up et3 z4
/-! ### _law_lone -/
/-- places of a server over these names -/
structure GRows (ns : List Str) (rows : List Place) : Prop where
  n1 : 1 ≤ rows.length
  n5 : rows.length ≤ 20
  ok : ∀ p ∈ rows, GL rows.length ns p
def spLo : Sp := fun vs H Q _ => ∃ (a : Addr) (g n : Int), vs = [.ref a, .int g, .int n] ∧ Sys H ∧ Bag H a ∧ 1 ≤ g ∧ g ≤ 3 ∧ 1 ≤ n ∧ n ≤ 5 ∧
  ∀ (t db rl : Addr) (H' : Hp) (ps : List (Str × Int)) (ns : List Str) (rows : List Place), Ext H H' → H' t = some (.tup [.ref db, .ref rl]) → H' db = some (.dK (kvI ps)) → Dq H' (.ref rl) (.list (rows.map placeD)) → Lo ps ns → GRows ns rows → rows.length ≤ 5 →
    Q (.ref t) H'
abbrev s__law_lone : Stmt := (topS 46)
theorem sc__law_lone : FnScope ["_law_bag_here", "_law_greatest", "_law_places", "_law_many", "_law_names_here", "_law_bounds_here"] ["_law_bag_here", "_law_greatest", "_law_places"] (defScope s__law_lone) := ⟨rfl, rfl, rfl, by decide +kernel, rfl, by decide +kernel, by decide +kernel⟩
theorem int_pick (zs : List Int) {r : Int} (h0 : 0 ≤ r) (h1 : r < zs.length) : ∃ v ∈ zs, atI (zs.map V.int) r = some (.int v) := by
  obtain ⟨n, rfl⟩ := Int.eq_ofNat_of_zero_le h0
  have hn : n < zs.length := by omega
  exact ⟨zs[n], List.getElem_mem hn, atI_nat (by rw [List.getElem?_map, List.getElem?_eq_getElem hn]; rfl)⟩
theorem ok_lo {f : Addr} {fd : FuncData} (F : Fun K "_law_lone" "_law_lone" s__law_lone f fd)
    (CT : Ca P w K mg base 1 "_law_take" ["_law_bag_here", "_law_many"] spTake) (CN : Ca P w K mg base 2 "_law_names" ["_law_bag_here", "_law_many"] spNames)
    (CBo : Ca P w K mg base 2 "_law_bounds" ["_law_bag_here", "_law_names_here", "_law_greatest"] spBounds) (CPr : Ca P w K mg base 3 "_law_program" ["_law_bag_here", "_law_names_here", "_law_places"] spLProg) :
    FnOk P w K mg base CX0 4 f fd ["_law_bag_here", "_law_greatest", "_law_places"] spLo := by
  refine F.ok sc__law_lone (fun vs H Q E h => ?_) (fun cdv A outer s H vs Q E hr h => ?_)
  · obtain ⟨a, g, n, rfl, _⟩ := h
    rfl
  · obtain ⟨a, g, n, rfl, hS, hb, g1, g3, n1, n5, q⟩ := h
    refine ⟨_, (pss_cons (ps_set (i := 3) sc__law_lone.nd rfl (.inl rfl) (pe_ix ix_list (pe_lst (pa_cons pe_int (pa_cons pe_int (pa_cons pe_int (pa_cons pe_int (pa_cons pe_int (pa_cons pe_int (pa_cons pe_int (pa_cons pe_int pa_nil))))))))) (pe_ca CT (hr.mono (by decide)) (by rfl) (pa_cons (pv 0) (pa_cons pe_int pa_nil))) (fun _ _ => rfl)))
    (pss_cons (ps_set (i := 4) sc__law_lone.nd rfl (.inl rfl) (pe_ca CN (hr.mono (by decide)) (by rfl) (pa_cons (pv 0) (pa_cons (pv 3) pa_nil))))
    (pss_cons (ps_set (i := 5) sc__law_lone.nd rfl (.inl rfl) (pe_ca CBo (hr.mono (by decide)) (by rfl) (pa_cons (pv 0) (pa_cons (pv 4) (pa_cons (pe_ix ix_list (pe_lst (pa_cons pe_int (pa_cons (pv 1) (pa_cons pe_int pa_nil)))) (pe_op op_sub (pv 3) pe_int) (fun _ _ => rfl)) pa_nil)))))
    (pss_one (ps_ret (pe_tup (pa_cons (pv 5) (pa_cons (pe_ca CPr (hr.mono (by decide)) (by rfl) (pa_cons (pv 0) (pa_cons (pv 4) (pa_cons (pe_op op_add pe_int (pe_ca CT (hr.mono (by decide)) (by rfl) (pa_cons (pv 0) (pa_cons (pv 2) pa_nil)))) pa_nil)))) pa_nil)))))))), ?_⟩
    refine ⟨by show 8 ≤ sizeLine; decide, fun l1 hl1 => ⟨_, rfl, a, 8, rfl, hb.up (Ext.new hl1), by decide, by decide, fun r r0 r1 => ?_⟩⟩
    have e1 := Ext.new (o := .lst (([1, 1, 2, 1, 2, 1, 2, 3] : List Int).map V.int)) hl1
    obtain ⟨m, m1, p1⟩ := int_pick [1, 1, 2, 1, 2, 1, 2, 3] r0 r1
    have b1 : 1 ≤ m ∧ m ≤ 3 := by
      simp only [List.mem_cons, List.not_mem_nil, or_false] at m1
      omega
    refine ⟨l1, _, r, .int m, rfl, rfl, SqL.of upd_same, p1, ?_⟩
    have e1' : Ext H (upd H l1 (.lst (([1, 1, 2, 1, 2, 1, 2, 3] : List Int).map V.int))) := e1
    refine ⟨_, rfl, _, rfl, a, m, rfl, hb.up e1', b1.1, by omega, ?_⟩
    intro p ys H2 e2 np2 hp2 N
    have e02 := e1'.trans e2
    refine ⟨_, rfl, _, rfl, _, rfl, by show 3 ≤ sizeLine; decide, fun l3 hl3 => ?_⟩
    have e3 := Ext.new (o := .lst [V.int 3, V.int g, V.int 1]) hl3
    have e03 := e02.trans e3
    obtain ⟨g', m3, p3⟩ := int_pick [3, g, 1] (show (0 : Int) ≤ m - 1 by omega) (show m - 1 < 3 by omega)
    have b3 : 1 ≤ g' ∧ g' ≤ 3 := by
      simp only [List.mem_cons, List.not_mem_nil, or_false] at m3
      omega
    have ml : m.toNat ≤ 3 := by omega
    have yl := N.len
    refine ⟨_, rfl, _, _, rfl, rfl, l3, _, m - 1, .int g', rfl, rfl, SqL.of upd_same, p3, a, p, ys, g', rfl, b3.1, b3.2, hb.up e03, e3 _ _ hp2, N.nd, by omega, fun db H4 ps ndb e4 hdb ek hbd => ?_⟩
    have e04 := e03.trans e4
    have hp4 := e4 _ _ (e3 _ _ hp2)
    refine ⟨_, rfl, _, rfl, _, rfl, _, rfl, _, rfl, a, n, rfl, hb.up e04, by omega, by omega, fun r4 r40 r41 => ?_⟩
    obtain ⟨k, rfl⟩ := Int.eq_ofNat_of_zero_le r40
    refine ⟨_, _, rfl, rfl, ?_⟩
    have ei : (1 : Int) + (k : Int) = ((k + 1 : Nat) : Int) := by omega
    refine ⟨a, p, ys, k + 1, by dsimp only; rw [ei]; rfl, sysUp hS e04, hb.up e04, hp4, by omega, by omega, N.ok, by omega, by omega, fun rl xs rows H5 nrl e5 hrl hxs lr gr => ?_⟩
    have e05 := e04.trans e5
    refine ⟨by show 2 ≤ sizeLine; decide, fun t ht => ?_⟩
    have e6 := Ext.new (o := .tup [.ref db, .ref rl]) ht
    have pe := srtS_perm ys
    have pm : ∀ x ∈ srtS ys, x ∈ ps.map (·.1) := fun x hx => by rw [ek]; exact pe.mem_iff.mp hx
    refine q t db rl _ ps (srtS ys) rows (e05.trans e6) upd_same (e6 _ _ (e5 _ _ hdb)) (.lst (e6 _ _ hrl) (DqAll.up e6 (DqAll.up del_ext hxs))) ⟨?_, ?_, by rw [ek]; exact pe, pe.nodup_iff.mpr N.nd, srtS_sorted ys, fun x hx => N.ok x (pe.mem_iff.mp hx), fun x hx => ?_⟩ ⟨by omega, by omega, fun q hq => ?_⟩ (by omega)
    · have := congrArg List.length ek
      rw [List.length_map] at this
      omega
    · have := congrArg List.length ek
      rw [List.length_map] at this
      omega
    · obtain ⟨z, hz, rfl⟩ := List.mem_map.mp (pm x hx)
      have nd2 : (ps.map (·.1)).Nodup := by rw [ek]; exact N.nd
      obtain ⟨z2, h1, h2, h3⟩ := bd_mem (List.mem_map_of_mem hz)
      rw [← h3]
      have := hbd z2 h1
      omega
    · have g1 := gr q hq
      rw [lr]
      exact ⟨g1.place, g1.few, fun x hx => pe.mem_iff.mpr (g1.lanes x hx)⟩
end
end K70

set_option Elab.async false
set_option linter.all false
set_option maxRecDepth 100000
set_option maxHeartbeats 4000000
namespace K70
open PySem PySem.Spec PyProof.Rows L2 Ol RZ
open TL (tl)
theorem armV_last {a : Arm} : atI (armV a) (-1) = some (.int (a.2 : Int)) := by
  obtain ⟨o, g⟩ := a
  cases o <;> rfl
theorem allow_lt {st : Str → Nat × Bool} {bd : Str → Int} {p : Place} {j : Nat} (h : j ∈ allowI st bd p) : j < p.2.length := by
  have h1 : j ∈ openI st bd p.2 := by
    unfold allowI at h
    split at h
    · exact List.mem_of_mem_take h
    · exact h
  unfold openI idxs at h1
  split at h1 <;> exact List.mem_range.mp (List.mem_filter.mp h1).1
theorem allow_len {st : Str → Nat × Bool} {bd : Str → Int} {p : Place} : (allowI st bd p).length ≤ p.2.length := by
  have h : ∀ q, (idxs q p.2).length ≤ p.2.length := fun q => by
    unfold idxs
    exact Nat.le_trans (List.length_filter_le ..) (by rw [List.length_range]; exact Nat.le_refl _)
  have h2 : (openI st bd p.2).length ≤ p.2.length := by
    unfold openI
    split <;> exact h _
  unfold allowI
  split
  · rw [List.length_take]; omega
  · exact h2
def rowAt (rows : List Place) (i : Nat) : Place := rows.getD i ("", [])
theorem rowAt_eq {rows : List Place} {i : Nat} (h : i < rows.length) : rowAt rows i = rows[i] := by
  unfold rowAt
  rw [List.getD_eq_getElem?_getD, List.getElem?_eq_getElem h]
  rfl
theorem GRows.row {ns : List Str} {rows : List Place} (h : GRows ns rows) {i : Nat} (hi : i < rows.length) : GL rows.length ns (rowAt rows i) := by
  rw [rowAt_eq hi]
  exact h.ok _ (List.getElem_mem hi)
/-- the arm of an index, what is behind it -/
def armAt (rows : List Place) (o : One) (k : Nat) : Arm := (rowAt rows o.pl).2.getD k (none, 0)
def nxt (bd : Str → Int) (rows : List Place) (o : One) (k : Nat) : One := ⟨(armAt rows o k).2, leftS bd o.st (armAt rows o k).1⟩
def idxD (ns : List Str) (x : Nat × One) : PyData := .tuple [.int (x.1 : Int), oneD ns x.2]
def nxtL (bd : Str → Int) (rows : List Place) (o : One) : List (Nat × One) := (allowI o.st bd (rowAt rows o.pl)).map fun k => (k, nxt bd rows o k)
theorem nxtL_len {bd : Str → Int} {ns : List Str} {rows : List Place} {ps : List (Str × Int)} {o : One} (h : GRows ns rows) (g : GOne ps ns rows.length o) : (nxtL bd rows o).length ≤ 20 := by
  unfold nxtL
  rw [List.length_map]
  exact Nat.le_trans allow_len (h.row g.pl).few
theorem nxt_ok {ns : List Str} {rows : List Place} {ps : List (Str × Int)} {o : One} (h : GRows ns rows) (g : GOne ps ns rows.length o) {x : Nat × One} (hx : x ∈ nxtL (bdOf ps) rows o) : GOne ps ns rows.length x.2 := by
  obtain ⟨k, hk, rfl⟩ := List.mem_map.mp hx
  have lt := allow_lt hk
  refine ⟨?_, leftS_ok g.st⟩
  have e : armAt rows o k = (rowAt rows o.pl).2[k] := by
    unfold armAt
    rw [List.getD_eq_getElem?_getD, List.getElem?_eq_getElem lt]
    rfl
  show (armAt rows o k).2 < _
  rw [e]
  exact ((h.row g.pl).place.arms _ (List.getElem_mem lt)).2
theorem lst_inv {H : Hp} {v : V} {ds : List PyData} (h : Dq H v (.list ds)) : ∃ a xs, v = .ref a ∧ H a = some (.lst xs) ∧ DqAll H xs ds := by
  cases h with
  | lst h t => exact ⟨_, _, rfl, h, t⟩
theorem one_inv {H : Hp} {v : V} {ns : List Str} {o : One} (h : Dq H v (oneD ns o)) : ∃ t vc, v = .ref t ∧ H t = some (.tup [.int (o.pl : Int), vc]) ∧ Dq H vc (ctD (ns.map o.st)) := by
  obtain ⟨t, xs, ds, rfl, e, h1, h2⟩ := dq_tup h rfl
  unfold oneD at e
  injection e with e
  rw [← e] at h2
  cases h2 with
  | cons a1 t1 => cases t1 with
    | cons a2 t2 =>
      cases t2
      cases a1
      exact ⟨t, _, rfl, h1, a2⟩
theorem nl_ct (cs : List (Nat × Bool)) : Nl (ctD cs) := .tup (NlAll.of fun d hd => by
  obtain ⟨s, _, rfl⟩ := List.mem_map.mp hd
  exact .tup (.cons (.int _) (.cons (.bl _) .nil)))
theorem nl_one (ns : List Str) (o : One) : Nl (oneD ns o) := .tup (.cons (.int _) (.cons (nl_ct _) .nil))
theorem nl_idx (ns : List Str) (x : Nat × One) : Nl (idxD ns x) := .tup (.cons (.int _) (.cons (nl_one _ _) .nil))
section
variable {P : Program} {w : World} {K : PySem.W.Frag} {mg : Str → Option Value} {base : Heap} {C CP : Addr}
/-! ### _law_own_steps -/
def spOs : Sp := fun vs H Q _ => ∃ (db rl : Addr) (vo : V) (ps : List (Str × Int)) (ns : List Str) (rows : List Place) (o : One), vs = [.ref db, .ref rl, vo] ∧ Sys H ∧ H db = some (.dK (kvI ps)) ∧ Dq H (.ref rl) (.list (rows.map placeD)) ∧ Dq H vo (oneD ns o) ∧ Lo ps ns ∧ GRows ns rows ∧ GOne ps ns rows.length o ∧
  ∀ (r : Addr) (xs : List V) (H' : Hp), H r = none → Ext H H' → H' r = some (.lst xs) → DqAll H' xs ((nxtL (bdOf ps) rows o).map (idxD ns)) → Q (.ref r) H'
abbrev s__law_own_steps : Stmt := (topS 47)
theorem sc__law_own_steps : FnScope ["_law_bounds_here", "_law_rows", "_law_one", "_law_found", "_law_k", "_law_arm_here"] ["_law_bounds_here", "_law_rows", "_law_one"] (defScope s__law_own_steps) := ⟨rfl, rfl, rfl, by decide +kernel, rfl, by decide +kernel, by decide +kernel⟩
theorem ok_os {f : Addr} {fd : FuncData} (F : Fun K "_law_own_steps" "_law_own_steps" s__law_own_steps f fd)
    (CCh : Ca P w K mg base 2 "_law_choices" ["_law_bounds_here", "_law_row_here", "_law_content"] spLCh) (CLe : Ca P w K mg base 1 "_law_left" ["_law_bounds_here", "_law_content", "_law_arm_here"] spLeft) :
    FnOk P w K mg base CX0 3 f fd ["_law_bounds_here", "_law_rows", "_law_one"] spOs := by
  refine F.ok sc__law_own_steps (fun vs H Q E h => ?_) (fun cdv A outer s H vs Q E hr h => ?_)
  · obtain ⟨db, rl, vo, ps, ns, rows, o, rfl, _⟩ := h
    rfl
  · obtain ⟨db, rl, vo, ps, ns, rows, o, rfl, hS, hdb, hrl, hvo, L, gr, go, q⟩ := h
    refine ⟨_, (pss_cons (ps_set (i := 3) sc__law_own_steps.nd rfl (.inl rfl) (pe_lst pa_nil))
    (pss_cons (ps_for PassesOwn.never rfl (pi_list (pe_ca CCh (hr.mono (by decide)) (by rfl) (pa_cons (pv 0) (pa_cons (pe_ix ix_list (pv 1) (pe_ix ix_tup (pv 2) pe_int (fun _ _ => rfl)) (fun _ _ => rfl)) (pa_cons (pe_ix ix_tup (pv 2) pe_int (fun _ _ => rfl)) pa_nil))))) (pg_name (i := 4) sc__law_own_steps.nd rfl (.inl rfl))
      (pss_cons (ps_set (i := 5) sc__law_own_steps.nd rfl (.inl rfl) (pe_ix ix_tup (pe_ix ix_tup (pe_ix ix_list (pv 1) (pe_ix ix_tup (pv 2) pe_int (fun _ _ => rfl)) (fun _ _ => rfl)) pe_int (fun _ _ => rfl)) (pv 4) (fun _ _ => rfl)))
      (pss_one (ps_expr (pe_bm PySem.F.plainAttrs_list PySem.F.slot_list_append PySem.F.type_list_append mt_append (pv 3) (pa_cons (pe_tup (pa_cons (pv 4) (pa_cons (pe_tup (pa_cons (pe_ix ix_tup (pv 5) (pe_un un_neg pe_int) (fun _ _ => rfl)) (pa_cons (pe_ca CLe (hr.mono (by decide)) (by rfl) (pa_cons (pv 0) (pa_cons (pe_ix ix_tup (pv 2) pe_int (fun _ _ => rfl)) (pa_cons (pv 5) pa_nil)))) pa_nil))) pa_nil))) pa_nil))))))
    (pss_one (ps_ret (pv 3))))), ?_⟩
    obtain ⟨to, vc, rfl, hto, hvc⟩ := one_inv hvo
    obtain ⟨rl', ys, e', hrl1, hys⟩ := lst_inv hrl
    cases e'
    have gl := gr.row go.pl
    obtain ⟨vr, hvr, dvr⟩ := DqAll_get hys o.pl (placeD (rowAt rows o.pl)) (by rw [rowAt_eq go.pl, List.getElem?_map, List.getElem?_eq_getElem go.pl]; rfl)
    obtain ⟨ra, t2, zs, rfl, hra, ht2, hzs⟩ := place_inv dvr
    refine ⟨by show 0 ≤ sizeLine; decide, fun F hF => ?_⟩
    have e1 := Ext.new (o := .lst []) hF
    have h1F := upd_same (H := H) (a := F) (o := HO.lst [])
    generalize upd H F (.lst []) = H1 at e1 h1F ⊢
    have eB : Ext H (del H1 F) := ext_to e1 hF
    refine ⟨_, rfl, _, rfl, _, rfl, to, _, 0, _, rfl, rfl, SqT.of (e1 _ _ hto), rfl, rl, _, _, .ref ra, rfl, rfl, SqL.of (e1 _ _ hrl1), atI_nat hvr, _, rfl, to, _, 1, _, rfl, rfl, SqT.of (e1 _ _ hto), rfl, db, .ref ra, vc, ps, ns, o.st, rows.length, rowAt rows o.pl, rfl, sysUp hS e1, e1 _ _ hdb, dvr.up e1, hvc.up e1, L.p3, L.perm, L.nd, L.so, gl, fun cl H2 ncl e2 hcl => ?_⟩
    have e02 := e1.trans e2
    have h2F := e2 _ _ h1F
    have eB2 : Ext H (del H2 F) := ext_to e02 hF
    have al : ∀ k ∈ allowI o.st (bdOf ps) (rowAt rows o.pl), k < (rowAt rows o.pl).2.length := fun k hk => allow_lt hk
    have all20 : (allowI o.st (bdOf ps) (rowAt rows o.pl)).length ≤ 20 := Nat.le_trans allow_len gl.few
    have mem : ∀ k (h : k < (rowAt rows o.pl).2.length), k ∈ allowI o.st (bdOf ps) (rowAt rows o.pl) → openB o.st (bdOf ps) (rowAt rows o.pl).2[k] = true ∨ (rowAt rows o.pl).2[k].1 = none := fun k h hk => mem_allow h hk
    have eNx : nxtL (bdOf ps) rows o = (allowI o.st (bdOf ps) (rowAt rows o.pl)).map fun k => (k, nxt (bdOf ps) rows o k) := rfl
    rw [eNx] at q
    generalize allowI o.st (bdOf ps) (rowAt rows o.pl) = as at *
    have las : (as.map fun i : Nat => V.int (i : Int)).length = as.length := List.length_map ..
    refine ⟨cl, rfl, ⟨_, SqL.of hcl⟩, ?_⟩
    refine for_it (walk_list (xs := as.map fun i : Nat => V.int (i : Int))) (fun i σ H' => ∃ s4 s5 xs, σ = [some (.ref db), some (.ref rl), some (.ref to), some (.ref F), s4, s5] ∧ Ext (del H2 F) H' ∧ H' F = some (.lst xs) ∧ DqAll (del H' F) xs (((as.take i).map fun k => (k, nxt (bdOf ps) rows o k)).map (idxD ns)))
      ⟨none, none, [], rfl, del_ext, h2F, .nil⟩ (fun i σ H' _ ⟨_, _, _, _, e, _⟩ => SqL.of (e _ _ (by rw [del_ne (fun z => by rw [z, h1F] at ncl; cases ncl)]; exact hcl))) ?_ ?_
    · rintro i x σ Hq H3 hi ⟨s4, s5, xs, rfl, e3, h3F, hxs⟩ ⟨rfl, hxi⟩
      rw [las] at hi
      rw [List.getElem?_map, List.getElem?_eq_getElem hi] at hxi
      cases hxi
      have tk : as.take (i + 1) = as.take i ++ [as[i]] := by
        rw [List.take_add_one, List.getElem?_eq_getElem hi]
        rfl
      have lx : xs.length = i := by rw [hxs.len, List.length_map, List.length_map, List.length_take]; omega
      have hk := al _ (List.getElem_mem hi)
      have op := mem _ hk (List.getElem_mem hi)
      have e03 := eB2.trans e3
      generalize as[i] = k at tk hk op ⊢
      obtain ⟨vx, hvx, dvx⟩ := DqAll_get hzs k (armD (rowAt rows o.pl).2[k]) (by rw [List.getElem?_map, List.getElem?_eq_getElem hk]; rfl)
      obtain ⟨r, rfl, hr1⟩ := arm_tup dvx
      have ea : armAt rows o k = (rowAt rows o.pl).2[k] := by
        unfold armAt
        rw [List.getD_eq_getElem?_getD, List.getElem?_eq_getElem hk]
        rfl
      have ga := (gl.place.arms _ (List.getElem_mem hk)).1
      have la : ∀ p, (rowAt rows o.pl).2[k].1 = some p → p.2 ∈ ns := fun p hp => gl.lanes _ (List.mem_filterMap.mpr ⟨_, List.getElem_mem hk, by rw [hp]; rfl⟩)
      refine ⟨_, rfl, _, rfl, to, _, 0, _, rfl, rfl, SqT.of (e03 _ _ hto), rfl, rl, _, _, .ref ra, rfl, rfl, SqL.of (e03 _ _ hrl1), atI_nat hvr, ra, _, 1, _, rfl, rfl, SqT.of (e03 _ _ hra), rfl, _, rfl, t2, zs, _, _, rfl, rfl, SqT.of (e03 _ _ ht2), atI_nat hvx, ?_⟩
      have hr3 := e03 _ _ hr1
      have hto3 := e03 _ _ hto
      have hdb3 := e03 _ _ hdb
      have hvc3 := hvc.up e03
      refine ⟨_, rfl, .inl ⟨rfl, _, SqL.of h3F⟩, _, rfl, _, rfl, _, rfl, r, _, -1, _, rfl, rfl, SqT.of hr3, armV_last, _, rfl, _, rfl, to, _, 1, _, rfl, rfl, SqT.of hto3, rfl, _, rfl, ?_⟩
      have fin : ∀ (v : V) (H4 : Hp) (t3 t4 : Addr), Ext H3 H4 → Dq H4 v (ctD (ns.map (leftS (bdOf ps) o.st (armAt rows o k).1))) → H4 t3 = none → upd H4 t3 (.tup [.int ((rowAt rows o.pl).2[k].2 : Int), v]) t4 = none →
          Ext (del H2 F) (upd (upd (upd H4 t3 (.tup [.int ((rowAt rows o.pl).2[k].2 : Int), v])) t4 (.tup [.int (k : Int), .ref t3])) F (.lst (xs ++ [.ref t4]))) ∧ (upd (upd (upd H4 t3 (.tup [.int ((rowAt rows o.pl).2[k].2 : Int), v])) t4 (.tup [.int (k : Int), .ref t3])) F (.lst (xs ++ [.ref t4]))) F = some (.lst (xs ++ [.ref t4])) ∧
          DqAll (del (upd (upd (upd H4 t3 (.tup [.int ((rowAt rows o.pl).2[k].2 : Int), v])) t4 (.tup [.int (k : Int), .ref t3])) F (.lst (xs ++ [.ref t4]))) F) (xs ++ [.ref t4]) (((as.take (i + 1)).map fun k => (k, nxt (bdOf ps) rows o k)).map (idxD ns)) := by
        intro v H4 t3 t4 e4 dv h3 h4
        have f3 := Ext.new (o := .tup [.int ((rowAt rows o.pl).2[k].2 : Int), v]) h3
        have f4 := Ext.new (o := .tup [.int (k : Int), .ref t3]) h4
        have f34 := f3.trans f4
        have e34 := e4.trans f34
        refine ⟨Ext.mut (e3.trans e34) del_same, upd_same, ?_⟩
        rw [del_upd, tk, List.map_append, List.map_append]
        refine dq_app (DqAll.up (ext_del e34) hxs) (.cons (Dq.offl (e34 _ _ h3F) ?_ (nl_idx ns _)) .nil)
        refine .tup upd_same (.cons (.int _) (.cons (.tup (f4 _ _ upd_same) (.cons ?_ (.cons (dv.up f34) .nil))) .nil))
        show Dq _ _ (.int ((armAt rows o k).2 : Int))
        rw [ea]
        exact .int _
      have len : xs.length < sizeLine := Nat.lt_of_le_of_lt (show xs.length ≤ 20 by omega) (by decide)
      rw [ea] at fin
      cases ho : (rowAt rows o.pl).2[k].1 with
      | none =>
        have ev : armV (rowAt rows o.pl).2[k] = [.str "else", .int ((rowAt rows o.pl).2[k].2 : Int)] := by
          rw [show (rowAt rows o.pl).2[k] = (none, (rowAt rows o.pl).2[k].2) from Prod.ext ho rfl]
          rfl
        rw [ev] at hr3
        rw [ho] at fin
        refine .inr ⟨db, r, vc, .int ((rowAt rows o.pl).2[k].2 : Int), rfl, hr3, ?_⟩
        refine ⟨by show 2 ≤ sizeLine; decide, fun t3 h3 => ⟨by show 2 ≤ sizeLine; decide, fun t4 h4 => ⟨F, xs, _, rfl, rfl, Ext.new h4 _ _ (Ext.new h3 _ _ h3F), len, ?_⟩⟩⟩
        exact ⟨_, _, _, rfl, fin vc H3 t3 t4 (Ext.refl _) hvc3 h3 h4⟩
      | some pr =>
        have ev : armV (rowAt rows o.pl).2[k] = [.str pr.1, .str pr.2, .int ((rowAt rows o.pl).2[k].2 : Int)] := by
          rw [show (rowAt rows o.pl).2[k] = (some pr, (rowAt rows o.pl).2[k].2) from Prod.ext ho rfl]
          rfl
        rw [ev] at hr3
        obtain ⟨j, hj, ej⟩ := List.getElem_of_mem (la pr ho)
        have hw : pr.1 ∈ words4 := by
          unfold GArm at ga
          rw [ho] at ga
          exact ga.1
        have hop : (beh pr.1 (o.st pr.2).1 (o.st pr.2).2 (bdOf ps pr.2)).isSome = true := by
          rcases op with op | op
          · unfold openB at op
            rw [ho] at op
            exact op
          · rw [ho] at op
            cases op
        obtain ⟨s', hs'⟩ := Option.isSome_iff_exists.mp hop
        rw [← ej] at hr3
        refine .inl ⟨db, r, vc, [.int ((rowAt rows o.pl).2[k].2 : Int)], ps, ns, o.st, pr.1, j, hj, s', rfl, hdb3, hvc3, hr3, L.p3, L.perm, L.nd, L.so, hw, go.st _ (List.getElem_mem hj), by rw [ej]; exact hs', fun v H4 e4 dv => ?_⟩
        rw [leftS_set L.nd hj ej hs', ← ho] at dv
        refine ⟨by show 2 ≤ sizeLine; decide, fun t3 h3 => ⟨by show 2 ≤ sizeLine; decide, fun t4 h4 => ⟨F, xs, _, rfl, rfl, Ext.new h4 _ _ (Ext.new h3 _ _ (e4 _ _ h3F)), len, ?_⟩⟩⟩
        exact ⟨_, _, _, rfl, fin v H4 t3 t4 e4 dv h3 h4⟩
    · rintro σ H3 ⟨s4, s5, xs, rfl, e3, h3F, hxs⟩
      rw [las, List.take_length] at hxs
      exact ⟨_, rfl, q F xs H3 hF (eB2.trans e3) h3F (DqAll.up del_ext hxs)⟩
end
end K70

set_option Elab.async false
set_option linter.all false
set_option maxRecDepth 100000
set_option maxHeartbeats 4000000
namespace Ol
open PySem PySem.Spec PyProof.Rows L2
/-- a class catches its own errors -/
theorem exm_same {K : PySem.W.Frag} {S : Addr} (q1 : PySem.W.subIn K (.ref S) (.type "BaseException") = some true) (q2 : PySem.W.isClsIn K S = true)
    (q3 : PySem.W.typeIn K (.ref S) = some (.type "type")) (q4 : PySem.W.subIn K (.ref S) (.ref S) = some true) : PySem.W.exmOne K (.ref S) (.ref S) = some true := by
  have q5 : (PySem.W.clsIn K S).isSome = true := q2
  unfold PySem.W.exmOne
  simp [PySem.W.kitCls, q1, q3, q4, q5]
end Ol

set_option Elab.async false
set_option linter.all false
set_option maxRecDepth 100000
set_option maxHeartbeats 4000000
namespace Ol
open PySem PySem.Spec PyProof.Rows L2
/-- isinstance(e, c): e the error with fields that the suite holds, c a class of the program -/
def rIsX (K : PySem.W.Frag) (a : Addr) (cls : Value) (d : Option Addr) : List V → Hp → VK → Prop := fun xs H Q => ∃ (D c dd : Addr) (fs : List (Str × V)) (b : Bool), xs = [.ref a, .ref c] ∧ cls = .ref D ∧ ExcC K D ∧ d = some dd ∧ H dd = some (.xd fs) ∧
  PySem.W.kitOne K (.ref D) (.ref c) = some b ∧ Q (.bl b) H
theorem call_isX {X : Cx} {a : Addr} {cls : Value} {d : Option Addr} {oe : Obj} {pn : List (Addr × Obj)} (hz : Zc cls d oe) (hf : ∃ vs, oe.data = .fields vs) : CallR (X.suite a ((a, oe) :: pn)) (.builtin "isinstance") (rIsX X.K a cls d) := by
  intro pins s σ H xs us Q I r h
  obtain ⟨D, c, dd, fs, b, rfl, rfl, T, rfl, hdd, e, q⟩ := h
  cases r with
  | cons rx rr =>
    cases rr with
    | cons rt rr =>
      cases rr
      cases rx
      cases rt
      obtain ⟨hget, _⟩ := I.pin (a, oe) (List.mem_append.mpr (.inl List.mem_cons_self))
      obtain ⟨vs, hd⟩ := hf
      have hx : ObjOk X.prog X.w H s.heap dd (.xd fs) := I.hok dd _ hdd
      obtain ⟨mA, hns, hr⟩ := hx
      obtain ⟨od, ho, hl⟩ := lookIn_ns hns
      have J : PySem.W.InstAt s.heap a oe D (some od) := ⟨hget, hz.1, by unfold PySem.W.notCls; rw [hd] <;> rfl, by rw [hz.2]; exact ho⟩
      obtain ⟨cd, hcd, _⟩ := PySem.W.any_some T.hd
      exact PySem.W.kia_one (PySem.W.kitx_exc (by rw [hcd]; rfl) T.hg T.hk T.hs T.ha T.hn T.ht T.hm) I.kIn J e (fun z => nomatch z) fun tk => ⟨.bl b, H, I.kept (t' := tk) fun _ _ z => z, rfl, q⟩
end Ol

set_option Elab.async false
set_option linter.all false
set_option maxRecDepth 100000
set_option maxHeartbeats 4000000
/-! Own rules: sum(xs, []) of a list of lists. -/
namespace Ol
open PySem PySem.Spec PyProof.Rows L2
/-- what stands in the list that a value names -/
def itemsAt (h : Heap) : Value → List Value
  | .ref b => match h.get? b with
    | some o => match o.data with
      | .seq xs _ => xs.toList
      | _ => []
    | none => []
  | _ => []
theorem itemsAt_list {h : Heap} {b : Addr} {its : Array Value} (l : h.IsList b its) : itemsAt h (.ref b) = its.toList := by
  obtain ⟨o, ho, _, n, hd⟩ := l
  unfold itemsAt
  dsimp only
  rw [ho]
  dsimp only
  rw [hd]
/-- a plain list of these stands at a -/
def LAt (h : Heap) (a : Addr) (vs : List Value) : Prop := ∃ n, h.get? a = some (seqObj "list" vs.toArray n)
theorem LAt.isList {h : Heap} {a : Addr} {vs : List Value} (l : LAt h a vs) : h.IsList a vs.toArray := by
  obtain ⟨n, e⟩ := l
  exact ⟨_, e, rfl, n, rfl⟩
theorem LAt.at {h h' : Heap} {a : Addr} {vs : List Value} (l : LAt h a vs) (k : ∀ o, h.get? a = some o → h'.get? a = some o) : LAt h' a vs := by
  obtain ⟨n, e⟩ := l
  exact ⟨n, k _ e⟩
theorem args_sum2 (a b : Value) : argsOk "sum" ⟨[a, b], []⟩ := by unfold argsOk; kernel_rfl
theorem sub_list_str2 : isSubtype (.type "list") (.type "str") = pure false := by rw [isSubtype_type]; kernel_rfl
theorem sub_list_bytes2 : isSubtype (.type "list") (.type "bytes") = pure false := by rw [isSubtype_type]; kernel_rfl
theorem sub_list_bytearray2 : isSubtype (.type "list") (.type "bytearray") = pure false := by rw [isSubtype_type]; kernel_rfl
theorem add_lists2 {prog : Program} {w : World} {A : Around} {E : Value → Shared → Prop} {s : Shared} {l b : Addr} {vs ws : List Value} {Q : Value → Shared → Prop} (hl : s.heap.IsList l vs.toArray) (hb : s.heap.IsList b ws.toArray)
    (hsz : vs.length + ws.length ≤ sizeLine) (h : Q (.ref s.heap.objs.size) { s with heap := s.heap.push { cls := .type "list", data := .seq (vs ++ ws).toArray } }) :
    wpAny (model prog w) A (binaryOp .Add (.ref l) (.ref b)) Q E s := by
  obtain ⟨⟨cls, dd, data, sl⟩, ho, hc, n, hd⟩ := id hl
  obtain ⟨⟨cls2, dd2, data2, sl2⟩, ho2, hc2, n2, hd2⟩ := id hb
  simp only at hc hd hc2 hd2
  subst hc hd hc2 hd2
  have e : vs.toArray ++ ws.toArray = (vs ++ ws).toArray := by simp
  refine concat_meets ⟨_, ho, rfl⟩ ⟨_, ho2, rfl⟩ noFill_list_add seq_list_add PySem.F.slot_list_add PySem.F.entry_list_add (PySem.F.args_list_add_2 _ _) (list_addW l b vs.toArray ws.toArray n n2 dd dd2 sl sl2 (by simpa using hsz)) ⟨ho, ho2, ?_⟩
  rw [e]
  exact h
section
variable {prog : Program} {w : World} {A : Around} {R : Result → Shared → Prop}
theorem sum_lists_loop (calm : A.in1.handled = none) {I l S : Addr} (ne : l ≠ I) (nS : S ≠ I) (lS : S ≠ l) (old : Heap) (its : List Value) (ok : ∀ v ∈ its, ∃ b, v = .ref b ∧ old.IsList b (itemsAt old v).toArray) (oI : old.objs.size ≤ I) (oS : old.objs.size ≤ S)
    (room : (its.flatMap (itemsAt old)).length ≤ sizeLine) :
    ∀ (k i : Nat) (s : Shared) (t : Addr) (c : Nat), its.length - i = k → i ≤ its.length → s.heap.IsListIter I l i → s.heap.IsList l its.toArray → (∀ b o, old.get? b = some o → s.heap.get? b = some o) →
      s.heap.get? S = some { cls := .type "list", dict := none, data := .seq #[.ref t] c, slots := #[] } → t ≠ I → t ≠ S → LAt s.heap t ((its.take i).flatMap (itemsAt old)) →
      (∀ (h' : Heap) (t' : Addr), (∀ b o, b ≠ I → b ≠ S → s.heap.get? b = some o → h'.get? b = some o) → LAt h' t' (its.flatMap (itemsAt old)) → (t' = t ∨ s.heap.objs.size ≤ t') → R (.ok (.ret (.ref t'))) { s with heap := h' }) →
      codeAny (model prog w) A (.builtin "sum.loop" ⟨[.ref I, .ref S, rawInt 2, rawInt 0], []⟩) R s := by
  intro k
  induction k with
  | zero =>
    intro i s t c hk hi hit hl keep hS tI tS ht hR
    have hin : i = its.length := by omega
    subst hin
    refine codeAny_builtin PySem.F.entry_sum_loop ?_
    rw [Around.under_plainId PySem.F.plain_sum_loop _]
    show wpAny _ A.in1 (seqItems? (.ref S) >>= _) _ _ s
    refine wpAny_bind (wpAny_seqItems hS rfl ?_)
    show wpAny _ A.in1 (tryCatch (pyNext (.ref I)) _ >>= _) _ _ s
    refine wpAny_bind (wpAny_tryCatch (wpAny_pyNext_list_end calm hit hl (by simp) fun h' he' => ?_))
    rw [List.take_length] at ht
    refine wpAny_pure (hR h' t (fun b o nI _ e => he' b o nI e) ?_ (.inl rfl))
    exact ht.at fun o e => he' t o tI e
  | succ k ih =>
    intro i s t c hk hi hit hl keep hS tI tS ht hR
    have hlt : i < its.length := by omega
    refine codeAny_builtin PySem.F.entry_sum_loop ?_
    rw [Around.under_plainId PySem.F.plain_sum_loop _]
    show wpAny _ A.in1 (seqItems? (.ref S) >>= _) _ _ s
    refine wpAny_bind (wpAny_seqItems hS rfl ?_)
    show wpAny _ A.in1 (tryCatch (pyNext (.ref I)) _ >>= _) _ _ s
    refine wpAny_bind (wpAny_tryCatch (wpAny_pyNext_list_item hit hl (x := its[i]) (by simp [hlt]) fun h1 hit1 hs1 => ?_))
    have hO := hs1.extBut
    obtain ⟨b, eb, lb⟩ := ok _ (List.getElem_mem hlt)
    have tk : (its.take (i + 1)).flatMap (itemsAt old) = (its.take i).flatMap (itemsAt old) ++ itemsAt old its[i] := by
      rw [List.take_add_one, List.getElem?_eq_getElem hlt, List.flatMap_append]
      simp
    have keep1 : ∀ b o, old.get? b = some o → h1.get? b = some o := fun b o e => hO b o (fun z => absurd (Heap.lt_size e) (by rw [z]; exact Nat.not_lt.mpr oI)) (keep b o e)
    have lb1 : h1.IsList b (itemsAt old its[i]).toArray := lb.at fun o e => keep1 b o e
    have ht1 : LAt h1 t ((its.take i).flatMap (itemsAt old)) := ht.at fun o e => hO t o tI e
    have hl1 : h1.IsList l its.toArray := hl.extBut hO ne
    have hS1 : h1.get? S = _ := hO S _ nS hS
    generalize hv : itemsAt old its[i] = add at tk lb1
    generalize hp : (its.take i).flatMap (itemsAt old) = pre at tk ht1
    have rm : pre.length + add.length ≤ sizeLine := by
      have e1 : its.flatMap (itemsAt old) = (its.take (i + 1)).flatMap (itemsAt old) ++ (its.drop (i + 1)).flatMap (itemsAt old) := by rw [← List.flatMap_append, List.take_append_drop]
      rw [e1, tk] at room
      simp only [List.length_append] at room
      omega
    rw [eb]
    show wpAny _ A.in1 ((holding [Value.ref b] (binaryOp .Add (.ref t) (.ref b))).attempt >>= _) _ _ _
    refine wpAny_bind (wpAny_attempt (wpAny_holding (add_lists2 ht1.isList lb1 rm ?_)))
    have lt1 := Heap.lt_size hS1
    generalize hh2 : h1.push { cls := .type "list", data := .seq (pre ++ add).toArray } = h2
    have z2 : ∀ b o, h1.get? b = some o → h2.get? b = some o := fun b o e => hh2 ▸ Heap.get?_push_of_some _ e
    have new2 : LAt h2 h1.objs.size (pre ++ add) := hh2 ▸ ⟨0, Heap.get?_push_size _ rfl⟩
    have hS2 := z2 _ _ hS1
    show wpAny _ A.in1 (updateSeq S (fun _ => #[.ref h1.objs.size]) >>= _) _ _ _
    refine wpAny_bind (wpAny_updateSeq hS2 rfl ?_)
    have hS3 := Heap.get?_update_self (Obj.mapSeq fun _ => #[Value.ref h1.objs.size]) hS2 rfl
    refine wpAny_bind (wpAny_letGo ?_)
    refine wpAny_bind (wpAny_updateSeq hS3 rfl ?_)
    have hS4 := Heap.get?_update_self (Obj.mapSeq fun _ => #[Value.ref h1.objs.size]) hS3 rfl
    have z4 : ∀ b o, b ≠ S → h2.get? b = some o → ((h2.update S (Obj.mapSeq fun _ => #[Value.ref h1.objs.size])).update S (Obj.mapSeq fun _ => #[Value.ref h1.objs.size])).get? b = some o := fun b o nb e =>
      (Heap.get?_update_other _ _ (Ne.symm nb)).trans ((Heap.get?_update_other _ _ (Ne.symm nb)).trans e)
    refine wpAny_pure ⟨plainId_quiet PySem.F.plain_sum_loop _, ?_⟩
    have g1 : s.heap.objs.size ≤ h1.objs.size := by rw [hs1.1]; exact Nat.le_refl _
    have g4 : s.heap.objs.size ≤ ((h2.update S (Obj.mapSeq fun _ => #[Value.ref h1.objs.size])).update S (Obj.mapSeq fun _ => #[Value.ref h1.objs.size])).objs.size := by
      rw [(Heap.SameBut.update ..).1, (Heap.SameBut.update ..).1, ← hh2, Heap.size_push]
      exact Nat.le_succ_of_le g1
    generalize ((h2.update S (Obj.mapSeq fun _ => #[Value.ref h1.objs.size])).update S (Obj.mapSeq fun _ => #[Value.ref h1.objs.size])) = h4 at z4 hS4 g4 ⊢
    have lI : I < h1.objs.size := by obtain ⟨o, ho, _⟩ := hit1; exact Heap.lt_size ho
    refine ih (i + 1) _ h1.objs.size _ (by omega) hlt (hit1.at fun o e => z4 _ o nS.symm (z2 _ o e)) (hl1.at fun o e => z4 _ o lS.symm (z2 _ o e)) (fun b o e => z4 b o (fun z => absurd (Heap.lt_size e) (by rw [z]; exact Nat.not_lt.mpr oS)) (z2 b o (keep1 b o e))) hS4 (Nat.ne_of_gt lI) (Nat.ne_of_gt lt1) ?_ ?_
    · rw [tk]
      exact new2.at fun o e => z4 _ o (Nat.ne_of_gt lt1) e
    · intro h' t' k' l' d'
      refine hR h' t' (fun b o nI nS2 e => k' b o nI nS2 (z4 b o nS2 (z2 b o (hO b o nI e)))) l' (.inr ?_)
      rcases d' with rfl | d'
      · exact g1
      · exact Nat.le_trans g4 d'
end
section
variable {prog : Program} {w : World} {A : Around} {E : Value → Shared → Prop} {s : Shared}
theorem call_sum_lists {a st : Addr} {its : List Value} {Q : Value → Shared → Prop} (calm : A.handled = none) (hl : s.heap.IsList a its.toArray) (hst : LAt s.heap st [])
    (ok : ∀ v ∈ its, ∃ b, v = .ref b ∧ s.heap.IsList b (itemsAt s.heap v).toArray) (room : (its.flatMap (itemsAt s.heap)).length ≤ sizeLine)
    (fin : ∀ (h' : Heap) (t' : Addr), (∀ b o, s.heap.get? b = some o → h'.get? b = some o) → LAt h' t' (its.flatMap (itemsAt s.heap)) → (t' = st ∨ s.heap.objs.size ≤ t') → Q (.ref t') { s with heap := h' }) :
    wpAny (model prog w) A (call (.builtin "sum") [.ref a, .ref st]) Q E s := by
  refine call_function_tree PySem.F.kind_sum PySem.F.plain_sum PySem.F.entry_sum (args_sum2 _ _) ?_
  unfold Builtin.«sum»
  simp only [List.length_cons, List.length_nil]
  rw [if_neg (by decide)]
  refine wpAny_bind (wpAny_of_eq (show Builtin.Builtins.bindParams "sum" ["start"] 0 ⟨[.ref st], []⟩ = pure [some (.ref st)] from rfl) ?_)
  have la : a < s.heap.objs.size := by obtain ⟨o, ho, _⟩ := hl; exact Heap.lt_size ho
  have lst : st < s.heap.objs.size := by obtain ⟨o, ho⟩ := hst; exact Heap.lt_size ho
  refine wpAny_bind (wpAny_pyIter_list hl ?_)
  have sI : (s.heap.push { cls := .type "list_iterator", data := .fields #[.ref a, .int 0 0] }).objs.size = s.heap.objs.size + 1 := Heap.size_push ..
  have k1 : ∀ b o, s.heap.get? b = some o → (s.heap.push { cls := .type "list_iterator", data := .fields #[.ref a, .int 0 0] }).get? b = some o := fun b o e => Heap.get?_push_of_some _ e
  have it1 : (s.heap.push { cls := .type "list_iterator", data := .fields #[.ref a, .int 0 0] }).IsListIter s.heap.objs.size a 0 := ⟨_, Heap.get?_push_size _ rfl, rfl, rfl⟩
  generalize s.heap.push { cls := .type "list_iterator", data := .fields #[.ref a, .int 0 0] } = h1 at sI k1 it1 ⊢
  refine wpAny_bind (wpAny_pure ?_)
  have ty : ∀ {g : Shared}, g.heap = h1 → g.TypeIs (.ref st) "list" := fun {g} e => by
    obtain ⟨n, ho⟩ := hst
    exact ⟨_, by rw [e]; exact k1 _ _ ho, rfl⟩
  simp only [List.forIn_cons, List.forIn_nil]
  refine wpAny_bind (wpAny_bind (wpAny_bind (wpAny_isInstance (T := "list") (b := false) (ty rfl) sub_list_str2 ?_)))
  simp only [Bool.false_eq_true, if_false]
  refine wpAny_pure (wpAny_bind (wpAny_bind (wpAny_isInstance (T := "list") (b := false) (ty rfl) sub_list_bytes2 ?_)))
  simp only [Bool.false_eq_true, if_false]
  refine wpAny_pure (wpAny_bind (wpAny_bind (wpAny_isInstance (T := "list") (b := false) (ty rfl) sub_list_bytearray2 ?_)))
  simp only [Bool.false_eq_true, if_false]
  refine wpAny_pure (wpAny_pure ?_)
  refine wpAny_bind (wpAny_newObj_type ?_)
  have calm1 : A.in1.handled = none := calm
  have k2 : ∀ b o, h1.get? b = some o → (h1.push { cls := .type "list", data := .seq #[.ref st] }).get? b = some o := fun b o e => Heap.get?_push_of_some _ e
  refine wpAny_pure ⟨plainId_quiet PySem.F.plain_sum_loop _, sum_lists_loop calm1 (I := s.heap.objs.size) (l := a) (S := h1.objs.size) (Nat.ne_of_lt la) (by rw [sI]; exact Nat.succ_ne_self _) (by rw [sI]; exact Nat.ne_of_gt (Nat.lt_succ_of_lt la)) s.heap its ok (Nat.le_refl _) (by rw [sI]; exact Nat.le_succ _) room
    its.length 0 _ st _ rfl (Nat.zero_le _) (it1.at fun o e => k2 _ _ e) ((hl.at fun o e => k2 _ _ (k1 _ o e))) (fun b o e => k2 _ _ (k1 b o e)) (Heap.get?_push_size _ rfl) (Nat.ne_of_lt lst) (by rw [sI]; exact Nat.ne_of_lt (Nat.lt_succ_of_lt lst)) (by rw [List.take_zero]; exact hst.at fun o e => k2 _ _ (k1 _ o e)) ?_⟩
  intro h' t' keep isl d
  refine fin h' t' (fun b o e => keep b o (Nat.ne_of_lt (Heap.lt_size e)) (by rw [sI]; exact Nat.ne_of_lt (Nat.lt_succ_of_lt (Heap.lt_size e))) (k2 _ _ (k1 _ _ e))) isl ?_
  rcases d with d | d
  · exact .inl d
  · refine .inr (Nat.le_trans ?_ d)
    show s.heap.objs.size ≤ (h1.push _).objs.size
    rw [Heap.size_push, sI]
    omega
end
/-- lists of these stand there -/
inductive LstsAt (K : PySem.W.Frag) (H : Hp) : List V → List (List V) → Prop
  | nil : LstsAt K H [] []
  | cons {b : Addr} {ps : List V} {xs : List V} {pss : List (List V)} : SqL K H b ps → LstsAt K H xs pss → LstsAt K H (.ref b :: xs) (ps :: pss)
theorem LstsAt.vals {X : Cx} {pins : List (Addr × Obj)} {σ : L2.St} {H : Hp} {s : Shared} (I : Inv X pins σ H s) : ∀ {xs : List V} {pss : List (List V)} {its : List Value}, LstsAt X.K H xs pss → Vals xs its →
    (∀ v ∈ its, ∃ b, v = .ref b ∧ s.heap.IsList b (itemsAt s.heap v).toArray) ∧ Vals pss.flatten (its.flatMap (itemsAt s.heap))
  | _, _, _, .nil, .nil => ⟨fun _ z => (nomatch z), .nil⟩
  | _, _, _, .cons (b := b) (ps := ps) hb r, .cons ha rt => by
    cases ha
    obtain ⟨it2, r2, pl, _⟩ := I.list hb
    obtain ⟨h1, h2⟩ := LstsAt.vals I r rt
    have e := itemsAt_list pl.isList
    rw [List.toList_toArray] at e
    refine ⟨fun v mv => ?_, ?_⟩
    · rcases List.mem_cons.mp mv with rfl | mv
      · exact ⟨b, rfl, by rw [e]; exact pl.isList⟩
      · exact h1 v mv
    · rw [List.flatten_cons, List.flatMap_cons, e]
      exact r2.append h2
/-- sum(xs, []), xs a list of lists -/
def rSumL (K : PySem.W.Frag) : List V → Hp → VK → Prop := fun vs H Q => ∃ (a st : Addr) (xs : List V) (pss : List (List V)), vs = [.ref a, .ref st] ∧ SqL K H a xs ∧ LstsAt K H xs pss ∧ H st = some (.lst []) ∧ pss.flatten.length ≤ sizeLine ∧
  ∀ (p : Addr) (H' : Hp), Ext H H' → H' p = some (.lst pss.flatten) → (p = st ∨ H p = none) → Q (.ref p) H'
theorem call_sumL {X : Cx} (calm : X.calm = true) : CallR X (.builtin "sum") (rSumL X.K) := by
  rintro pins s σ H vs us Q I r ⟨a, st, xs, pss, rfl, sq, hp, hst, room, fin⟩
  cases r with
  | cons r1 r2 => cases r2 with
    | cons r2 r3 =>
      cases r3
      cases r1
      cases r2
      obtain ⟨its, rel, place, _⟩ := I.list sq
      obtain ⟨_, its2, n2, rel2, got2⟩ := I.hok _ _ hst
      cases rel2
      have place2 : LAt s.heap _ [] := ⟨n2, got2⟩
      obtain ⟨ok, vals⟩ := hp.vals I rel
      have len : (its.flatMap (itemsAt s.heap)).length ≤ sizeLine := by rw [← vals.length]; exact room
      refine call_sum_lists (I.ok.hd calm) place.isList place2 ok len fun h' t' keep isl d => ?_
      obtain ⟨n1, g1⟩ := isl
      rcases d with rfl | d
      · have g2 := keep _ _ got2
        rw [g1] at g2
        have e : seqObj "list" (its.flatMap (itemsAt s.heap)).toArray n1 = seqObj "list" [].toArray n2 := Option.some.inj g2
        have e1 : (Data.seq (its.flatMap (itemsAt s.heap)).toArray n1) = Data.seq [].toArray n2 := congrArg Obj.data e
        have e2 : its.flatMap (itemsAt s.heap) = [] := by
          injection e1 with e1
          simpa using e1
        have e3 : pss.flatten = [] := List.eq_nil_of_length_eq_zero (by rw [vals.length, e2]; rfl)
        exact ⟨.ref t', H, I.kept (t' := s.toks) keep, rfl, fin t' H (Ext.refl H) (by rw [e3]; exact hst) (.inl rfl)⟩
      · have free : H t' = none := I.hok.fresh d
        have J := I.laid (a := t') (o := .lst pss.flatten) (t' := s.toks) (fun b u e => keep b u e) d ⟨room, _, n1, vals, g1⟩
        exact ⟨.ref t', _, J, rfl, fin t' _ (Ext.new free) upd_same (.inr free)⟩
end Ol

set_option Elab.async false
set_option linter.all false
set_option maxRecDepth 100000
set_option maxHeartbeats 4000000
namespace K70
open PySem PySem.Spec PyProof.Rows L2 Ol RZ
open TL (tl)
def opn (bd : Str → Int) (st : Str → Nat × Bool) (p : Str × Str) : Bool := (beh p.1 (st p.2).1 (st p.2).2 (bd p.2)).isSome
def fitB (bd : Str → Int) (st : Str → Nat × Bool) (it : Item) : Bool := (it.1.filter (opn bd st)).isEmpty && (match it.2 with | none => true | some p => opn bd st p)
theorem ext_upd {H H' : Hp} {a : Addr} {o : HO} (e : Ext (del H a) (del H' a)) : Ext (del H a) (upd H' a o) := fun b u z => by
  have n : b ≠ a := fun c => by rw [c, del_same] at z; cases z
  have y := e _ _ z
  rw [del_ne n] at y
  rw [upd_ne n]
  exact y
theorem ext_upd' {H H' : Hp} {a : Addr} {o : HO} (e : Ext H H') (n : H a = none) : Ext H (upd H' a o) := Ext.mut e n
abbrev rLenSeq (K : PySem.W.Frag) : List V → Hp → VK → Prop := fun xs H Q => ∃ p ys, xs = [.ref p] ∧ (SqL K H p ys ∨ SqT K H p ys) ∧ Q (.int (ys.length : Int)) H
section
variable {P : Program} {w : World} {K : PySem.W.Frag} {mg : Str → Option Value} {base : Heap} {C CP : Addr}
/-! ### _law_fits -/
def spFt : Sp := fun vs H Q _ => ∃ (db : Addr) (vc vi : V) (ps : List (Str × Int)) (ns : List Str) (st : Str → Nat × Bool) (it : Item), vs = [.ref db, vc, vi] ∧ H db = some (.dK (kvI ps)) ∧ Dq H vc (ctD (ns.map st)) ∧ Dq H vi (itD it) ∧ Lo ps ns ∧ ItOk ns it ∧
  ∀ H', Ext H H' → Q (.bl (fitB (bdOf ps) st it)) H'
/-! ### _law_due -/
def spDu : Sp := fun vs H Q _ => ∃ (l : Addr) (xs : List V) (row : List Item) (ns : List Str), vs = [.ref l] ∧ H l = some (.lst xs) ∧ DqAll H xs (row.map itD) ∧ (∀ it ∈ row, ItOk ns it) ∧ row.length ≤ 16 ∧
  ∀ (v : V) (H' : Hp), Ext H H' → Dq H' v (.list ((cPlaces row).map placeD)) → Q v H'
abbrev nDu : List Str := ["_law_row_here", "_law_found", "_law_at", "_law_arms", "_law_one"]
end
end K70

set_option Elab.async false
set_option linter.all false
set_option maxRecDepth 100000
set_option maxHeartbeats 4000000
namespace K70
open PySem PySem.Spec PyProof.Rows L2 Ol RZ
open TL (tl)
/-- items of a drawn row -/
structure ItN (ns : List Str) (n : Nat) (it : Item) : Prop where
  deals : ∀ p ∈ it.1, DealOk ns p
  few : it.1.length ≤ n
  tak : ∀ p, it.2 = some p → DealOk ns p
theorem ItN.ok {ns : List Str} {n : Nat} {it : Item} (h : ItN ns n it) (hn : n ≤ 14) : ItOk ns it := ⟨h.deals, Nat.le_trans h.few hn, h.tak⟩
theorem ItN.up {ns : List Str} {n m : Nat} {it : Item} (h : ItN ns n it) (hn : n ≤ m) : ItN ns m it := ⟨h.deals, Nat.le_trans h.few hn, h.tak⟩
theorem nl_prs (l : List (Str × Str)) : NlAll (l.map pairD) := NlAll.of fun d hd => by
  obtain ⟨p, _, rfl⟩ := List.mem_map.mp hd
  exact nl_pair _ _
theorem nl_it (it : Item) : Nl (itD it) := by
  refine .tup (.cons (.tup (nl_prs _)) (.cons ?_ .nil))
  cases it.2 with
  | none => exact .non
  | some p => exact nl_pair _ _
section
variable {P : Program} {w : World} {K : PySem.W.Frag} {mg : Str → Option Value} {base : Heap} {C CP : Addr}
/-! ### _law_row -/
def spRw : Sp := fun vs H Q _ => ∃ (a db rl : Addr) (m : Nat) (ps : List (Str × Int)) (ns : List Str) (rows : List Place), vs = [.ref a, .ref db, .ref rl, .int (m : Int)] ∧ Sys H ∧ Bag H a ∧ H db = some (.dK (kvI ps)) ∧ Dq H (.ref rl) (.list (rows.map placeD)) ∧ Lo ps ns ∧ GRows ns rows ∧ m ≤ 10 ∧
  ∀ (r : Addr) (xs : List V) (H' : Hp) (row : List Item), H r = none → Ext H H' → H' r = some (.lst xs) → DqAll (del H' r) xs (row.map itD) → (∀ it ∈ row, ItN ns 12 it) → row.length ≤ m → Q (.ref r) H'
abbrev s__law_row : Stmt := (topS 50)
abbrev nRw : List Str := ["_law_bag_here", "_law_bounds_here", "_law_rows", "_law_many", "_law_one", "_law_found", "_law_k", "_law_again", "_law_steps", "_law_shut", "_law_arms", "_law_style", "_law_some", "_law_arm_here", "_law_pair"]
theorem sc__law_row : FnScope nRw ["_law_bag_here", "_law_bounds_here", "_law_rows", "_law_many"] (defScope s__law_row) := ⟨rfl, rfl, rfl, by decide +kernel, rfl, by decide +kernel, by decide +kernel⟩
theorem ok_rw {f : Addr} {fd : FuncData} (F : Fun K "_law_row" "_law_row" s__law_row f fd) (T : BT mg)
    (CT : Ca P w K mg base 1 "_law_take" ["_law_bag_here", "_law_many"] spTake) (CSt : Ca P w K mg base 1 "_law_start" ["_law_bounds_here"] spSt)
    (COs : Ca P w K mg base 3 "_law_own_steps" ["_law_bounds_here", "_law_rows", "_law_one"] spOs) (CPo : Ca P w K mg base 2 "_law_pairs_of" ["_law_bounds_here", "_law_content", "_law_opened"] spPo)
    (CLe : Ca P w K mg base 1 "_law_left" ["_law_bounds_here", "_law_content", "_law_arm_here"] spLeft) :
    FnOk P w K mg base CX0 4 f fd ["_law_bag_here", "_law_bounds_here", "_law_rows", "_law_many"] spRw := by
  refine F.ok sc__law_row (fun vs H Q E h => ?_) (fun cdv A outer s H vs Q E hr h => ?_)
  · obtain ⟨a, db, rl, m, ps, ns, rows, rfl, _⟩ := h
    rfl
  · obtain ⟨a, db, rl, m, ps, ns, rows, rfl, hS, hb, hdb, hrl, L, gr, m10, q⟩ := h
    refine ⟨_, (pss_cons (ps_par (i := 4) (j := 5) rfl sc__law_row.nd rfl rfl (by decide) rfl rfl (pa_cons (pe_ca CSt (hr.mono (by decide)) (by rfl) (pa_cons (pv 1) pa_nil)) (pa_cons (pe_lst pa_nil) pa_nil)) (by rfl))
    (pss_cons (ps_for PassesOwn.never rfl (pi_range1 (by rfl) T.n_range (pa_cons (pe_ca CT (hr.mono (by decide)) (by rfl) (pa_cons (pv 0) (pa_cons (pe_op op_add (pv 3) pe_int) pa_nil))) pa_nil)) (pg_name (i := 6) sc__law_row.nd rfl (.inl rfl))
      (pss_cons (ps_for PassesOwn.never rfl (pi_range1 (by rfl) T.n_range (pa_cons (pe_ca CT (hr.mono (by decide)) (by rfl) (pa_cons (pv 0) (pa_cons pe_int pa_nil))) pa_nil)) (pg_name (i := 7) sc__law_row.nd rfl (.inl rfl))
        (pss_cons (ps_set (i := 8) sc__law_row.nd rfl (.inl rfl) (pe_ca COs (hr.mono (by decide)) (by rfl) (pa_cons (pv 1) (pa_cons (pv 2) (pa_cons (pv 4) pa_nil)))))
        (pss_one (ps_set (i := 4) sc__law_row.nd rfl (.inl rfl) (pe_ifExp (pt_cmpR (op_neE hr) (pv 8) (pe_lst pa_nil) (nomark _)) (pe_ix ix_tup (pe_ix ix_list (pv 8) (pe_ca CT (hr.mono (by decide)) (by rfl) (pa_cons (pv 0) (pa_cons (pe_callB call_len_seq (by rfl) T.n_len (by decide +kernel) (pa_cons (pv 8) pa_nil)) pa_nil))) (fun _ _ => rfl)) pe_int (fun _ _ => rfl)) (pv 4))))))
      (pss_cons (ps_set (i := 9) sc__law_row.nd rfl (.inl rfl) (pe_ca CPo (hr.mono (by decide)) (by rfl) (pa_cons (pv 1) (pa_cons (pe_ix ix_tup (pv 4) pe_int (fun _ _ => rfl)) (pa_cons pe_bl pa_nil)))))
      (pss_cons (ps_set (i := 10) sc__law_row.nd rfl (.inl rfl) (pe_op op_cat (pe_lst (pa_cons pe_non pa_nil)) (pe_ca CPo (hr.mono (by decide)) (by rfl) (pa_cons (pv 1) (pa_cons (pe_ix ix_tup (pv 4) pe_int (fun _ _ => rfl)) (pa_cons pe_bl pa_nil))))))
      (pss_cons (ps_set (i := 11) sc__law_row.nd rfl (.inr rfl) (pe_ca CT (hr.mono (by decide)) (by rfl) (pa_cons (pv 0) (pa_cons pe_int pa_nil))))
      (pss_cons (ps_setLc (i := 12) (own := [("_law_pair", 14)]) (g := gName 14) (tt := _) rfl sc__law_row.nd rfl rfl (sw_true rfl rfl rfl (by decide +kernel)) (pi_list (pv 9)) (blkOk_by (N := nRw) (sc := defScope s__law_row) (by decide +kernel)) (fun _ _ _ _ _ => (pg_name (i := 14) sc__law_row.nd rfl (.inl rfl))) (fun _ _ _ _ _ => (pts_one (PW.pt (pw_or (pt_cmpR op_eq (pv 11) pe_int (nomark _)) (pw_or1 (PW.pt (pw_and (pt_cmpR op_eq (pv 11) pe_int (nomark _)) (pw_and1 (pt_cmpR op_eq (pe_ca CT (hr.mono (by decide)) (by rfl) (pa_cons (pv 0) (pa_cons pe_int pa_nil))) pe_int (nomark _)))))))))) (fun _ _ _ _ _ => (pv 14)))
      (pss_cons (ps_set (i := 13) sc__law_row.nd rfl (.inl rfl) (pe_ix ix_list (pv 10) (pe_ca CT (hr.mono (by decide)) (by rfl) (pa_cons (pv 0) (pa_cons (pe_callB call_len_seq (by rfl) T.n_len (by decide +kernel) (pa_cons (pv 10) pa_nil)) pa_nil))) (fun _ _ => rfl)))
      (pss_cons (ps_expr (pe_bm PySem.F.plainAttrs_list PySem.F.slot_list_append PySem.F.type_list_append mt_append (pv 5) (pa_cons (pe_tup (pa_cons (pe_callTy call_tuple_of (by rfl) T.n_tuple (by decide +kernel) (pa_cons (pv 12) pa_nil)) (pa_cons (pv 13) pa_nil))) pa_nil)))
      (pss_one (ps_set (i := 4) sc__law_row.nd rfl (.inl rfl) (pe_ifExp (pt_cmpR op_isN (pv 13) pe_non (nomark _)) (pv 4) (pe_tup (pa_cons (pe_ix ix_tup (pv 4) pe_int (fun _ _ => rfl)) (pa_cons (pe_ca CLe (hr.mono (by decide)) (by rfl) (pa_cons (pv 1) (pa_cons (pe_ix ix_tup (pv 4) pe_int (fun _ _ => rfl)) (pa_cons (pv 13) pa_nil)))) pa_nil))))))))))))))
    (pss_one (ps_ret (pv 5))))), ?_⟩
    refine ⟨_, rfl, db, ps, ns, rfl, hdb, L, fun vo H1 e1 hvo => ⟨by show 0 ≤ sizeLine; decide, fun F hF => ⟨_, _, rfl, ?_⟩⟩⟩
    have e2 := Ext.new (o := .lst []) hF
    have h2F := upd_same (H := H1) (a := F) (o := HO.lst [])
    have hvo2 := hvo.up e2
    generalize upd H1 F (.lst []) = H2 at e2 h2F hvo2 ⊢
    have e02 := e1.trans e2
    have nF := e1.free hF
    have eB : Ext H (del H2 F) := ext_to e02 nF
    have g0 : GOne ps ns rows.length ⟨0, stt0⟩ := ⟨gr.n1, fun x hx => by have := L.bd x hx; show ((0 : Nat) : Int) ≤ _; omega⟩
    refine ⟨_, rfl, _, rfl, _, _, rfl, rfl, a, (m : Int) + 1, rfl, hb.up e02, by omega, by omega, fun n n0 n1 => ?_⟩
    obtain ⟨n, rfl⟩ := Int.eq_ofNat_of_zero_le n0
    refine ⟨_, rfl, by omega, by omega, ?_⟩
    rw [Int.toNat_natCast]
    refine for_range (n := n) (fun i σ H' => ∃ vo o xs row s6 s7 s8 s9 s10 s11 s12 s13 s14, σ = [some (.ref a), some (.ref db), some (.ref rl), some (.int (m : Int)), some vo, some (.ref F), s6, s7, s8, s9, s10, s11, s12, s13, s14] ∧ Ext (del H2 F) H' ∧ H' F = some (.lst xs) ∧ DqAll (del H' F) xs (row.map itD) ∧ Dq (del H' F) vo (oneD ns o) ∧ GOne ps ns rows.length o ∧ (∀ it ∈ row, ItN ns 12 it) ∧ row.length ≤ i)
      ⟨vo, ⟨0, stt0⟩, [], [], none, none, none, none, none, none, none, none, none, rfl, del_ext, h2F, .nil, Dq.offl h2F hvo2 (nl_one _ _), g0, fun _ z => (nomatch z), Nat.le_refl _⟩ ?_ ?_
    · rintro i σ H3 hi ⟨vo, o, xs, row, s6, s7, s8, s9, s10, s11, s12, s13, s14, rfl, e3, h3F, hxs, hvo3, go, hrow, lrow⟩
      have e03 := eB.trans e3
      refine ⟨_, rfl, a, 3, rfl, hb.up e03, by decide, by decide, fun k k0 k1 => ?_⟩
      obtain ⟨k, rfl⟩ := Int.eq_ofNat_of_zero_le k0
      refine ⟨_, rfl, by omega, by omega, ?_⟩
      rw [Int.toNat_natCast]
      refine for_range (n := k) (fun j σ H' => ∃ vo o s7 s8, σ = [some (.ref a), some (.ref db), some (.ref rl), some (.int (m : Int)), some vo, some (.ref F), some (.int (0 + (i : Int))), s7, s8, s9, s10, s11, s12, s13, s14] ∧ Ext H3 H' ∧ Dq H' vo (oneD ns o) ∧ GOne ps ns rows.length o)
        ⟨vo, o, s7, s8, rfl, Ext.refl _, hvo3.up del_ext, go⟩ ?_ ?_
      · rintro j σ H4 hj ⟨vo, o, s7, s8, rfl, e4, hvo4, go⟩
        have e04 := e03.trans e4
        refine ⟨_, rfl, _, rfl, _, rfl, db, rl, vo, ps, ns, rows, o, rfl, sysUp hS e04, e04 _ _ hdb, hrl.up e04, hvo4, L, gr, go, fun r zs H5 nr e5 h5r hzs => ?_⟩
        have e05 := e04.trans e5
        have lz : zs.length = (nxtL (bdOf ps) rows o).length := by rw [hzs.len, List.length_map]
        have l20 := nxtL_len (bd := bdOf ps) gr go
        refine ⟨_, rfl, by show 0 ≤ sizeLine; decide, fun b hb2 => ⟨r, b, zs, rfl, rfl, SqL.of (Ext.new hb2 _ _ h5r), SqL.of upd_same, _, rfl, ?_⟩⟩
        have e6 := Ext.new (o := .lst []) hb2
        generalize upd H5 b (.lst []) = H6 at e6 ⊢
        have e46 := e4.trans (e5.trans e6)
        cases hz : zs.isEmpty with
        | true =>
          refine iteF ?_
          exact ⟨_, rfl, vo, o, _, _, rfl, e46, hvo4.up (e5.trans e6), go⟩
        | false =>
          refine iteT ?_
          have zpos : 0 < zs.length := by
            cases zs with
            | nil => cases hz
            | cons _ _ => exact Nat.succ_pos _
          refine ⟨_, rfl, _, rfl, _, rfl, r, _, rfl, .inl (SqL.of (e6 _ _ h5r)), a, (zs.length : Int), rfl, hb.up (e05.trans e6), by omega, by rw [lz]; omega, fun t t0 t1 => ?_⟩
          obtain ⟨t, rfl⟩ := Int.eq_ofNat_of_zero_le t0
          have ht : t < (nxtL (bdOf ps) rows o).length := by omega
          obtain ⟨x', hx', dx'⟩ := DqAll_get hzs t (idxD ns (nxtL (bdOf ps) rows o)[t]) (by rw [List.getElem?_map, List.getElem?_eq_getElem ht]; rfl)
          have gx := nxt_ok gr go (List.getElem_mem ht)
          generalize (nxtL (bdOf ps) rows o)[t] = x at dx' gx
          obtain ⟨tt, vs, ds, rfl, ed, d1, d2⟩ := dq_tup dx' rfl
          unfold idxD at ed
          injection ed with ed
          rw [← ed] at d2
          cases d2 with
          | cons a1 t1 => cases t1 with
            | cons a2 t2 =>
              cases t2
              refine ⟨r, _, _, _, rfl, rfl, SqL.of (e6 _ _ h5r), atI_nat hx', tt, _, 1, _, rfl, rfl, SqT.of (e6 _ _ d1), rfl, ?_⟩
              exact ⟨_, x.2, _, _, rfl, e46, a2.up e6, gx⟩
      · clear hvo3 go
        rintro σ H4 ⟨vo, o, s7, s8, rfl, e4, hvo4, go⟩
        have e04 := e03.trans e4
        obtain ⟨to, vc, rfl, hto, hvc⟩ := one_inv hvo4
        refine ⟨_, rfl, _, rfl, to, _, 1, _, rfl, rfl, SqT.of hto, rfl, db, vc, ps, ns, o.st, false, rfl, e04 _ _ hdb, hvc, L, fun r1 ys1 H5 nr1 e5 h5 hy1 => ?_⟩
        have e05 := e04.trans e5
        have d1 : ∀ p ∈ prs (opP false o.st (bdOf ps)) ns, DealOk ns p := fun p hp => prs_deal L hp
        have d2 : ∀ p ∈ prs (opP true o.st (bdOf ps)) ns, DealOk ns p ∧ opn (bdOf ps) o.st p = true := fun p hp => ⟨prs_deal L hp, eq_of_beq (prs_mem.mp hp).2.2⟩
        have l1 := prs_len (q := opP false o.st (bdOf ps)) (ns := ns) (by rw [L.len]; exact L.p3)
        have l2 := prs_len (q := opP true o.st (bdOf ps)) (ns := ns) (by rw [L.len]; exact L.p3)
        generalize prs (opP false o.st (bdOf ps)) ns = P1 at hy1 d1 l1
        refine ⟨by show 1 ≤ sizeLine; decide, fun b hb2 => ?_⟩
        have f6 := Ext.new (o := .lst [V.non]) hb2
        have h6b := upd_same (H := H5) (a := b) (o := HO.lst [V.non])
        have h6r1 := f6 _ _ h5
        have hto6 := f6 _ _ (e5 _ _ hto)
        have hvc6 := hvc.up (e5.trans f6)
        have e06 := e05.trans f6
        have hy16 := DqAll.up f6 hy1
        have e46 := e5.trans f6
        generalize upd H5 b (.lst [V.non]) = H6 at f6 h6b h6r1 hto6 hvc6 e06 hy16 e46 ⊢
        refine ⟨_, rfl, _, rfl, to, _, 1, _, rfl, rfl, SqT.of hto6, rfl, db, vc, ps, ns, o.st, true, rfl, e06 _ _ hdb, hvc6, L, fun r2 ys2 H7 nr2 e7 h7 hy2 => ?_⟩
        generalize prs (opP true o.st (bdOf ps)) ns = P2 at hy2 d2 l2
        have ly2 : ys2.length = P2.length := by rw [hy2.len, List.length_map]
        refine ⟨b, r2, _, _, rfl, rfl, e7 _ _ h6b, h7, Nat.le_trans (show 1 + ys2.length ≤ 20 by omega) (by decide), fun p hp => ?_⟩
        have f8 := Ext.new (o := .lst ([V.non] ++ ys2)) hp
        have h8p := upd_same (H := H7) (a := p) (o := HO.lst ([V.non] ++ ys2))
        have e78 := e7.trans f8
        have h8r1 := e78 _ _ h6r1
        have hto8 := e78 _ _ hto6
        have hvc8 := hvc6.up e78
        have e08 := e06.trans e78
        have hy18 := DqAll.up e78 hy16
        have hy28 := DqAll.up f8 hy2
        have e48 := e46.trans e78
        generalize upd H7 p (.lst ([V.non] ++ ys2)) = H8 at f8 h8p e78 h8r1 hto8 hvc8 e08 hy18 hy28 e48 ⊢
        refine ⟨_, rfl, a, 3, rfl, hb.up e08, by decide, by decide, fun sy sy0 sy1 => ?_⟩
        refine ⟨_, rfl, r1, rfl, ⟨_, SqL.of h8r1⟩, fun D hD => ?_⟩
        have ly1 : ys1.length = P1.length := by rw [hy18.len, List.length_map]
        refine lc1_acc (walk_list (xs := ys1)) (fun j ws Hz => ∃ sel : List (Str × Str), DqAll Hz ws (sel.map pairD) ∧ (∀ p ∈ sel, DealOk ns p) ∧ sel.length ≤ j ∧ j ≤ 12) (fun _ _ _ _ e ⟨sel, h, h2⟩ => ⟨sel, DqAll.up e h, h2⟩) ⟨[], .nil, fun _ z => (nomatch z), by decide, by decide⟩ hD
          (fun j ws _ ⟨sel, h, _, h2, h3⟩ => by rw [h.len, List.length_map]; exact Nat.lt_of_le_of_lt (show sel.length ≤ 12 by omega) (by decide)) (fun H' e => SqL.of (e _ _ h8r1)) ?_ ?_
        · rintro j y Hi H9 ws hj e hy ⟨rfl, hyj⟩ ⟨sel, hp1, hp2, hp3, hp4⟩ QY QN kY kN
          have hj2 : j < P1.length := by omega
          obtain ⟨y', hy', dy⟩ := DqAll_get hy18 j (pairD P1[j]) (by rw [List.getElem?_map, List.getElem?_eq_getElem hj2]; rfl)
          rw [hyj] at hy'
          cases hy'
          obtain ⟨pa, rfl, hpa⟩ := pair_inv dy
          have dk := d1 _ (List.getElem_mem hj2)
          have yes : (∃ sel : List (Str × Str), DqAll (del H9 D) (ws ++ [.ref pa]) (sel.map pairD) ∧ (∀ p ∈ sel, DealOk ns p) ∧ sel.length ≤ j + 1 ∧ j + 1 ≤ 12) := by
            refine ⟨sel ++ [P1[j]], ?_, fun p hp => ?_, by rw [List.length_append, List.length_singleton]; omega, by omega⟩
            · rw [List.map_append]
              exact DqAll_snoc hp1 (.tup ((del_ne (fun z => by rw [z, hD] at hpa; cases hpa)).trans (e _ _ hpa)) (.cons (.str _) (.cons (.str _) .nil)))
            · rcases List.mem_append.mp hp with h | h
              · exact hp2 p h
              · rw [List.mem_singleton.mp h]; exact dk
          have no : (∃ sel : List (Str × Str), DqAll (del H9 D) ws (sel.map pairD) ∧ (∀ p ∈ sel, DealOk ns p) ∧ sel.length ≤ j + 1 ∧ j + 1 ≤ 12) := ⟨sel, hp1, hp2, by omega, by omega⟩
          refine ⟨rfl, ?_⟩
          refine ⟨_, rfl, rfl, _, rfl, ?_⟩
          refine ite2 (fun _ => ?_) (fun _ => ?_)
          · refine iteT ?_
            exact ⟨_, rfl, kY _ _ (Ext.refl _) yes⟩
          · refine ⟨_, rfl, rfl, _, rfl, ?_⟩
            refine ite2 (fun _ => ?_) (fun _ => ?_)
            · refine ⟨_, rfl, a, 2, rfl, hb.up (e08.trans e), by decide, by decide, fun z _ _ => ⟨rfl, _, rfl, ?_⟩⟩
              refine ite2 (fun g => ?_) (fun g => ?_)
              · exact ⟨_, rfl, kY _ _ (Ext.refl _) yes⟩
              · exact kN _ (Ext.refl _) no
            · refine iteF ?_
              exact kN _ (Ext.refl _) no
        · rintro H9 ws e9 h9D ⟨sel, hsel, dsel, lsel, _⟩
          rw [ly1] at lsel
          have e09 := e08.trans e9
          have h9p := e9 _ _ h8p
          refine ⟨_, rfl, _, rfl, _, rfl, p, _, rfl, .inl (SqL.of h9p), a, _, rfl, hb.up e09, by simp, by simp; omega, fun t t0 t1 => ?_⟩
          obtain ⟨t, rfl⟩ := Int.eq_ofNat_of_zero_le t0
          have ht : t < ([V.non] ++ ys2).length := by omega
          have hz := List.getElem?_eq_getElem ht
          have hyz := DqAll.up e9 hy28
          have key : ∃ tk : Option (Str × Str), Dq H9 (([V.non] ++ ys2)[t]) (tkD tk) ∧ (∀ p, tk = some p → DealOk ns p ∧ opn (bdOf ps) o.st p = true) ∧ (tk = none → ([V.non] ++ ys2)[t] = .non) := by
            cases t with
            | zero => exact ⟨none, .non, fun _ z => (nomatch z), fun _ => rfl⟩
            | succ t =>
              have ht2 : t < P2.length := by simp at ht; omega
              obtain ⟨y', hy', dy⟩ := DqAll_get hyz t (pairD P2[t]) (by rw [List.getElem?_map, List.getElem?_eq_getElem ht2]; rfl)
              have hg : ([V.non] ++ ys2)[t + 1] = y' := by
                have z : ([V.non] ++ ys2)[t + 1]? = some y' := hy'
                rw [hz] at z
                exact Option.some.inj z
              rw [hg]
              exact ⟨some P2[t], dy, fun p hp => by cases hp; exact d2 _ (List.getElem_mem ht2), fun z => nomatch z⟩
          obtain ⟨tk, dtk, tk1, tk2⟩ := key
          generalize ([V.non] ++ ys2)[t] = vt at hz dtk tk2
          refine ⟨p, _, _, vt, rfl, rfl, SqL.of h9p, atI_nat hz, ?_⟩
          have h9F := e9 _ _ (e48 _ _ (e4 _ _ h3F))
          refine ⟨_, rfl, .inl ⟨rfl, _, SqL.of h9F⟩, _, rfl, D, ws, rfl, .inl ⟨SqL.of h9D, fun u hu => ⟨_, rfl, by show 2 ≤ sizeLine; decide, fun w2 hw2 => ?_⟩⟩⟩
          have x6 := Ext.new (o := .tup ws) hu
          have x7 := Ext.new (o := .tup [.ref u, vt]) hw2
          have x67 := x6.trans x7
          have lx10 : xs.length ≤ i := by rw [hxs.len, List.length_map]; exact lrow
          refine ⟨F, xs, _, rfl, rfl, x67 _ _ h9F, Nat.lt_of_le_of_lt (show _ ≤ 20 by omega) (by decide), ?_⟩
          have e39 : Ext H3 (upd (upd H9 u (.tup ws)) w2 (.tup [.ref u, vt])) := e4.trans (e48.trans (e9.trans x67))
          have hit : Dq (upd (upd H9 u (.tup ws)) w2 (.tup [.ref u, vt])) (.ref w2) (itD (sel, tk)) := .tup upd_same (.cons (.tup (x7 _ _ upd_same) (DqAll.up x67 hsel)) (.cons (dtk.up x67) .nil))
          have hFx := x67 _ _ h9F
          have hvcx := hvc8.up (e9.trans x67)
          have htox := x67 _ _ (e9 _ _ hto8)
          have hdbx := x67 _ _ (e09 _ _ hdb)
          have dtkx := dtk.up x67
          have e0x := e09.trans x67
          generalize upd (upd H9 u (.tup ws)) w2 (.tup [.ref u, vt]) = H10 at e39 hit hFx hvcx htox hdbx dtkx e0x ⊢
          have eF : Ext (del H10 F) (upd H10 F (.lst (xs ++ [.ref w2]))) := fun b o z => by
            by_cases c : b = F
            · rw [c, del_same] at z; cases z
            · rw [del_ne c] at z
              rw [upd_ne c]
              exact z
          have h11F := upd_same (H := H10) (a := F) (o := HO.lst (xs ++ [.ref w2]))
          have e2F : Ext (del H2 F) (upd H10 F (.lst (xs ++ [.ref w2]))) := Ext.mut (e3.trans e39) del_same
          have hx11 : DqAll (del (upd H10 F (.lst (xs ++ [.ref w2]))) F) (xs ++ [.ref w2]) ((row ++ [(sel, tk)]).map itD) := by
            rw [del_upd, List.map_append]
            exact dq_app (DqAll.up (ext_del e39) hxs) (.cons (Dq.offl hFx hit (nl_it _)) .nil)
          have row11 : ∀ it ∈ row ++ [(sel, tk)], ItN ns 12 it := fun it hit => by
            rcases List.mem_append.mp hit with h | h
            · exact hrow it h
            · rw [List.mem_singleton.mp h]
              exact ⟨dsel, by show sel.length ≤ 12; omega, fun p hp => (tk1 p hp).1⟩
          have l11 : (row ++ [(sel, tk)]).length ≤ i + 1 := by rw [List.length_append, List.length_singleton]; omega
          have dd : del (upd H10 F (.lst (xs ++ [.ref w2]))) F = del H10 F := del_upd
          have ddH : ∀ {b o}, H10 b = some (HO.tup o) → (upd H10 F (.lst (xs ++ [.ref w2]))) b = some (.tup o) := fun {b o} z => by
            have c : b ≠ F := fun c => by rw [c, hFx] at z; cases z
            rw [upd_ne c]; exact z
          have hdb11 : (upd H10 F (.lst (xs ++ [.ref w2]))) db = some (.dK (kvI ps)) := by
            have c : db ≠ F := fun c => by rw [c, hFx] at hdbx; cases hdbx
            rw [upd_ne c]; exact hdbx
          have hvc11 : Dq (upd H10 F (.lst (xs ++ [.ref w2]))) vc (ctD (ns.map o.st)) := (Dq.offl hFx hvcx (nl_ct _)).up eF
          have hvo11 : Dq (del (upd H10 F (.lst (xs ++ [.ref w2]))) F) (.ref to) (oneD ns o) := by
            rw [dd]
            exact Dq.offl hFx (.tup htox (.cons (.int _) (.cons hvcx .nil))) (nl_one _ _)
          have hto11 := ddH htox
          refine ⟨_, rfl, rfl, _, rfl, ?_⟩
          cases tk with
          | none =>
            rw [tk2 rfl]
            refine iteT ?_
            exact ⟨_, rfl, .ref to, o, _, _, _, _, _, _, _, _, _, _, _, rfl, e2F, h11F, hx11, hvo11, go, row11, l11⟩
          | some pr =>
            obtain ⟨dk, op⟩ := tk1 pr rfl
            obtain ⟨pa, rfl, hpa⟩ := pair_inv dtkx
            refine iteF ?_
            have hpa11 := ddH hpa
            generalize upd H10 F (.lst (xs ++ [.ref w2])) = H11 at *
            obtain ⟨p1, p2⟩ := pr
            obtain ⟨s', hs'⟩ := Option.isSome_iff_exists.mp op
            have lset := fun (j : Nat) (hj : j < ns.length) (e : ns[j] = p2) => leftS_set (p := (p1, p2)) L.nd hj e hs'
            obtain ⟨jj, hjj, ej⟩ := List.getElem_of_mem dk.nm
            have ls := lset jj hjj ej
            have g11 : GOne ps ns rows.length ⟨o.pl, leftS (bdOf ps) o.st (some (p1, p2))⟩ := ⟨go.pl, leftS_ok go.st⟩
            have ej2 : ns[jj] = p2 := ej
            subst ej2
            refine ⟨_, rfl, to, _, 0, _, rfl, rfl, SqT.of hto11, rfl, _, rfl, _, rfl, to, _, 1, _, rfl, rfl, SqT.of hto11, rfl, _, rfl, .inl ⟨db, pa, vc, [], ps, ns, o.st, p1, jj, hjj, s', rfl, hdb11, hvc11, hpa11, L.p3, L.perm, L.nd, L.so, dk.wd, go.st _ (List.getElem_mem hjj), hs', fun v H12 e12 dv => ?_⟩⟩
            rw [ls] at dv
            refine ⟨by show 2 ≤ sizeLine; decide, fun t3 ht3 => ?_⟩
            have e13 := Ext.new (o := .tup [.int (o.pl : Int), v]) ht3
            have e123 := e12.trans e13
            have h12F := e123 _ _ h11F
            refine ⟨.ref t3, ⟨o.pl, leftS (bdOf ps) o.st (some (p1, ns[jj]))⟩, _, _, _, _, _, _, _, _, _, _, _, rfl, e2F.trans e123, h12F, DqAll.up (ext_del e123) hx11, ?_, g11, row11, l11⟩
            exact Dq.offl h12F (.tup upd_same (.cons (.int _) (.cons (dv.up e13) .nil))) (nl_one _ _)
    · rintro σ H3 ⟨vo, o, xs, row, s6, s7, s8, s9, s10, s11, s12, s13, s14, rfl, e3, h3F, hxs, hvo3, go, hrow, lrow⟩
      exact ⟨_, rfl, q F xs H3 row nF (eB.trans e3) h3F hxs hrow (by omega)⟩
end
end K70

set_option Elab.async false
set_option linter.all false
set_option maxRecDepth 100000
set_option maxHeartbeats 8000000
namespace Ol
open PySem PySem.Spec PyProof.Rows L2
/-- the text of a set's member -/
def txOf (e : Int × Value) : Str := match e.2 with | .str x _ => x | _ => Str.empty
def IsTx (prog : Program) (w : World) (e : Int × Value) : Prop := ∃ x u, e.2 = Value.str x u ∧ e.1 = (PySem.strKind prog w).hash x
/-- the members, each once -/
structure TMem (prog : Program) (w : World) (es : Array (Int × Value)) (S : Str → Bool) (n : Nat) : Prop where
  tx : ∀ e ∈ es.toList, IsTx prog w e
  once : (es.toList.map txOf).Nodup
  mem : ∀ x, S x = true ↔ x ∈ es.toList.map txOf
  few : es.size < scanBound
  cnt : es.size = n
/-- the table: it can be walked -/
structure TTab (w : World) (es : Array (Int × Value)) (t : SetTable) : Prop where
  fits : t.fits es.size = true
  ris : Ris t.place.toList
  led : w.params.followText "set-order" = true ∨ t.led = true
/-- a set of texts that can be walked -/
def TSet (prog : Program) (w : World) (h : Heap) (a : Addr) (S : Str → Bool) (n : Nat) : Prop :=
  ∃ o es ep t, h.get? a = some o ∧ o.ExactSet ∧ o.data = .set es ep t ∧ TMem prog w es S n ∧ TTab w es t
section
variable {prog : Program} {w : World}
theorem TMem.perm {es es2 : Array (Int × Value)} {S : Str → Bool} {n : Nat} (pm : es2.toList.Perm es.toList) (M : TMem prog w es S n) : TMem prog w es2 S n := by
  have sz : es2.size = es.size := by
    have := pm.length_eq
    rw [Array.length_toList, Array.length_toList] at this
    exact this
  constructor
  · intro e me
    exact M.tx e (pm.mem_iff.mp me)
  · exact (pm.map txOf).nodup_iff.mpr M.once
  · intro x
    rw [M.mem x]
    exact (pm.map txOf).mem_iff.symm
  · exact sz ▸ M.few
  · exact sz ▸ M.cnt
theorem IsTx.is_iff {e : Int × Value} (g : IsTx prog w e) (x : Str) : (PySem.strKind prog w).is x e.2 = true ↔ txOf e = x := by
  obtain ⟨y, u, eq, _⟩ := g
  unfold txOf
  rw [eq]
  show Value.isStrOf x (.str y u) = true ↔ y = x
  simp [Value.isStrOf]
theorem TMem.elems {es : Array (Int × Value)} {S : Str → Bool} {n : Nat} (M : TMem prog w es S n) : ElemsOf (PySem.strKind prog w) es.toList := by
  intro e me
  obtain ⟨y, u, eq, hh⟩ := M.tx e me
  refine ⟨⟨y, ?_, hh⟩, ?_⟩
  · rw [eq]; exact PySem.strKind_is _ _ _ _
  · rw [eq]; rfl
theorem TMem.mem_is {es : Array (Int × Value)} {S : Str → Bool} {n : Nat} (M : TMem prog w es S n) (x : Str) : S x = true ↔ ∃ e ∈ es.toList, (PySem.strKind prog w).is x e.2 = true := by
  rw [M.mem x, List.mem_map]
  constructor
  · rintro ⟨e, me, eq⟩
    exact ⟨e, me, ((M.tx e me).is_iff x).mpr eq⟩
  · rintro ⟨e, me, eq⟩
    exact ⟨e, me, ((M.tx e me).is_iff x).mp eq⟩
theorem TSet.old {h h2 : Heap} {a : Addr} {S : Str → Bool} {n : Nat} (keep : ∀ o, h.get? a = some o → h2.get? a = some o) : TSet prog w h a S n → TSet prog w h2 a S n
  | ⟨o, es, ep, t, get, rest⟩ => ⟨o, es, ep, t, keep o get, rest⟩
theorem TSet.same {h : Heap} {a : Addr} {S S2 : Str → Bool} {n n2 : Nat} (T : TSet prog w h a S n) (e : ∀ x, S x = S2 x) (c : n = n2) : TSet prog w h a S2 n2 := by
  obtain rfl : S = S2 := funext e
  exact c ▸ T
variable {A : Around} {E : Value → Shared → Prop} {s : Shared} {a : Addr} {S : Str → Bool} {n : Nat}
theorem tset_tail {g : Bool → Sem Unit} (still : ∀ (b : Bool) (s1 : Shared) (q : Unit → Shared → Prop), q () s1 → wpAny (model prog w) A (g b) q E s1) {o : Obj} {es : Array (Int × Value)} {ep : Nat} {t : SetTable}
    (get : s.heap.get? a = some o) (ex : o.ExactSet) (dat : o.data = .set es ep t) {es1 : Array (Int × Value)} {t1 : SetTable} {S2 : Str → Bool} {m : Nat} (M : TMem prog w es1 S2 m) (T : TTab w es1 t1) {dummy : Bool}
    {R : Option Bool → Shared → Prop} (fin : ∀ h2, Heap.SameBut a s.heap h2 → TSet prog w h2 a S2 m → R (some true) { s with heap := h2 }) :
    wpAny (model prog w) A (do
        storeSet a es1 t1
        if (!dummy && t1.tooFull) = true then do
            g (relayAll t1 es1 (SetTable.grown es1.size)).2.2
            storeSet a (relayAll t1 es1 (SetTable.grown es1.size)).1 (relayAll t1 es1 (SetTable.grown es1.size)).2.1
            pure (some true)
          else pure (some true)) R E s := by
  apply wpAny_bind
  apply wpAny_storeSet_of get dat ?_ (fits_of_scanBound M.few)
  have get1 := store_at (es' := es1) (t' := t1) get dat
  have but1 := Heap.SameBut.update s.heap a (Obj.putSet es1 t1)
  by_cases full : (!dummy && t1.tooFull) = true
  · rw [if_pos full]
    have pm := relayAll_perm t1 es1 (SetTable.grown es1.size)
    have fi := relayAll_fits t1 es1 (SetTable.grown es1.size)
    have ri := relayAll_ris t1 es1 (SetTable.grown es1.size)
    have le := relayAll_led t1 es1 (SetTable.grown es1.size)
    generalize relayAll t1 es1 (SetTable.grown es1.size) = Z at *
    rcases Z with ⟨es2, t2, b⟩
    have M2 := M.perm pm
    apply wpAny_bind
    apply still
    apply wpAny_bind
    apply wpAny_storeSet_of get1 rfl ?_ (fits_of_scanBound M2.few)
    have get2 := store_at (es' := es2) (t' := t2) get1 rfl
    apply wpAny_pure
    refine fin _ (but1.trans (Heap.SameBut.update _ a _)) ⟨_, es2, _, t2, get2, ex, rfl, M2, fi, ri, ?_⟩
    rcases T.led with z | z
    · exact .inl z
    · exact .inr (le.trans z)
  · rw [if_neg full]
    apply wpAny_pure
    exact fin _ but1 ⟨_, es1, _, t1, get1, ex, rfl, M, T⟩
/-- a text is put in -/
theorem tset_add {x : Str} {u : Tok} {Q : Bool → Shared → Prop} (R : TSet prog w s.heap a S n) (room : n + 1 < scanBound)
    (fin : ∀ h2, Heap.SameBut a s.heap h2 → TSet prog w h2 a (fun y => S y || decide (y = x)) (if S x = true then n else n + 1) → Q (!S x) { s with heap := h2 }) :
    wpAny (model prog w) A (setAddHashed a (.str x u) ((PySem.strKind prog w).hash x)) Q E s := by
  obtain ⟨o, es, ep, t, get, ex, dat, M, T⟩ := R
  have it := PySem.strKind_is prog w x u
  have scan : (Value.str x u).scannable = true := rfl
  have els := M.elems
  unfold setAddHashed setAddHashedIn
  apply wpAny_holding
  apply wpAny_bind
  apply wpAny_setState_of get dat T.fits
  dsimp only
  rw [byScan_of scan M.few els]
  simp only [↓reduceIte]
  unfold setAddByScan
  apply wpAny_bind
  apply wpAny_bind
  apply wpAny_rule
  apply wpAny_bind
  apply wpAny_setScan_of it get dat T.fits els
  cases found : List.findIdx? (fun e => (PySem.strKind prog w).is x e.2) es.toList with
  | some j =>
    dsimp only
    obtain ⟨jl, pj, _⟩ := List.findIdx?_eq_some_iff_getElem.mp found
    have yes : S x = true := (M.mem_is x).mpr ⟨es.toList[j], List.getElem_mem jl, pj⟩
    apply wpAny_pure
    apply wpAny_pure
    have z := fin s.heap (Heap.SameBut.refl a s.heap) (TSet.same ⟨o, es, ep, t, get, ex, dat, M, T⟩ (fun y => by by_cases c : y = x <;> simp [c, yes]) (by rw [if_pos yes]))
    rw [yes] at z
    exact z
  | none =>
    dsimp only
    have no : S x = false := by
      cases c : S x with
      | false => rfl
      | true =>
        obtain ⟨e, me, is_⟩ := (M.mem_is x).mp c
        have := List.findIdx?_eq_none_iff.mp found e me
        rw [is_] at this
        cases this
    have out : x ∉ es.toList.map txOf := fun z => by
      rw [(M.mem x).mpr z] at no
      cases no
    have pm := layNew_perm t es ((PySem.strKind prog w).hash x) (.str x u)
    have fi := layNew_fits t es ((PySem.strKind prog w).hash x) (.str x u)
    have ri := layNew_ris t es ((PySem.strKind prog w).hash x) (.str x u) T.ris
    have le := layNew_led t es ((PySem.strKind prog w).hash x) (.str x u)
    generalize layNew t es ((PySem.strKind prog w).hash x) (.str x u) = Z at *
    rcases Z with ⟨es1, t1, dummy, gave⟩
    dsimp only at *
    rw [Array.toList_push] at pm
    have pc := pm.trans (List.perm_append_singleton _ _)
    have pk : (es1.toList.map txOf).Perm (x :: es.toList.map txOf) := pc.map txOf
    have sz : es1.size = n + 1 := by
      have := pc.length_eq
      rw [List.length_cons, Array.length_toList, Array.length_toList, M.cnt] at this
      exact this
    have M1 : TMem prog w es1 (fun y => S y || decide (y = x)) (n + 1) := by
      constructor
      · intro e me
        rcases List.mem_cons.mp (pc.mem_iff.mp me) with rfl | z
        · exact ⟨x, u, rfl, rfl⟩
        · exact M.tx e z
      · exact pk.nodup_iff.mpr (List.nodup_cons.mpr ⟨out, M.once⟩)
      · intro y
        rw [pk.mem_iff, List.mem_cons, ← M.mem y, Bool.or_eq_true, decide_eq_true_eq]
        exact or_comm
      · exact sz ▸ room
      · exact sz
    have lead : w.params.followText "set-order" = true ∨ t1.led = true := by
      rcases T.led with z | z
      · exact .inl z
      · exact .inr (le.trans z)
    have done_ : ∀ h2, Heap.SameBut a s.heap h2 → TSet prog w h2 a (fun y => S y || decide (y = x)) (n + 1) → Q true { s with heap := h2 } := by
      intro h2 but r
      have z := fin h2 but (r.same (fun _ => rfl) (by rw [no]; rfl))
      rw [no] at z
      exact z
    have quiet : ∀ (b : Bool) {s1 : Shared} {q : Unit → Shared → Prop}, q () s1 → wpAny (model prog w) A (match b with | true => rule "set.scan.the-table-gave-way" | false => pure ()) q E s1 := by
      intro b s1 q z
      cases b with
      | true => exact wpAny_rule z
      | false => exact wpAny_pure z
    apply wpAny_bind
    apply quiet
    split
    · apply wpAny_bind
      rw [hashByValue_scannable 8 scan]
      apply wpAny_pure
      refine tset_tail ?_ get ex dat M1 ?_ ?_
      · intro b s1 q z
        cases b with
        | true => exact wpAny_rule z
        | false => exact wpAny_pure z
      · constructor
        · first
            | (split <;> first | exact fi | exact SetTable.fits_plain_off fi)
            | exact fi
        · first
            | (split <;> exact ri)
            | exact ri
        · first
            | (split <;> exact lead)
            | exact lead
      · intro h2 but r
        dsimp only
        exact wpAny_pure (done_ h2 but r)
    · apply wpAny_bind
      apply wpAny_pure
      simp only [↓reduceIte]
      refine tset_tail ?_ get ex dat M1 ⟨fi, ri, lead⟩ ?_
      · intro b s1 q z
        cases b with
        | true => exact wpAny_rule z
        | false => exact wpAny_pure z
      · intro h2 but r
        dsimp only
        exact wpAny_pure (done_ h2 but r)
end
end Ol

set_option Elab.async false
set_option linter.all false
set_option maxRecDepth 100000
set_option maxHeartbeats 16000000
namespace Ol
open PySem PySem.Spec PyProof.Rows L2
theorem text_at : ∀ {us : List Value} {xs : List Str}, StrsAre us xs → ∀ (i : Nat) (v : Value), us[i]? = some v → ∃ u, v = .str (xs.getD i Str.empty) u
  | _, _, .nil, _, _, h => nomatch h
  | _, _, .cons _ t _, 0, _, h => ⟨t, (Option.some.inj h).symm⟩
  | _, _, .cons _ _ r, i + 1, v, h => text_at r i v h
theorem texts_from : ∀ {xs : List Str} {us : List Value}, Vals (xs.map V.str) us → StrsAre us xs
  | [], _, .nil => .nil
  | x :: xs, _, .cons r t => by
    obtain ⟨u, rfl⟩ := r
    exact .cons x u (texts_from t)
section
variable {prog : Program} {w : World} {A : Around} {R : Result → Shared → Prop} {I : Addr} {fp wr : List Addr} {G : Array GenState → Array GenState → Prop} {n : Nat} {P : Nat → Value → Prop} {St : Nat → Shared → Prop}
/-- the set T takes the texts that a walk yields -/
theorem fill_on (W : WalksS prog w A.in1 I fp wr G n P St) {T : Addr} (off : T ∉ fp) {xs : List Str} (room : n + 1 < scanBound) (val : ∀ i v, P i v → ∃ u, v = .str (xs.getD i Str.empty) u) (len : xs.length = n) :
    ∀ (m i c : Nat) (s : Shared), m + i = n → c ≤ i → St i s → TSet prog w s.heap T (fun y => decide (y ∈ xs.take i)) c →
      (∀ s2 c2, Moved (T :: wr) G s s2 → c2 ≤ n → TSet prog w s2.heap T (fun y => decide (y ∈ xs.take n)) c2 → R (.ok (.ret .none)) s2) →
      codeAny (model prog w) A (.builtin "set.update.loop" ⟨[.ref T, .ref I], []⟩) R s := by
  have off2 : T ∉ wr := fun z => off (W.sub _ z)
  have more : ∀ b ∈ wr, b ∈ T :: wr := fun b z => .tail _ z
  have stay : ∀ {s1 s2 : Shared} {S : Str → Bool} {c : Nat}, Moved wr G s1 s2 → TSet prog w s1.heap T S c → TSet prog w s2.heap T S c := fun mv t => t.old fun o get => mv.heap T o off2 get
  intro m
  induction m with
  | zero =>
    intro i c s e le st set go
    obtain rfl : i = n := by omega
    apply codeAny_builtin PyProof.Rows.F.entry_set_update_loop
    rw [Around.under_plainId PyProof.Rows.F.plain_set_update_loop _]
    apply wpAny_bind (m := pyNext (.ref I))
    apply W.done s _ _ st
    intro s2 mv
    exact wpAny_pure (go s2 c (mv.mono more) le (stay mv set))
  | succ m ih =>
    intro i c s e le st set go
    have lt : i < n := by omega
    apply codeAny_builtin PyProof.Rows.F.entry_set_update_loop
    rw [Around.under_plainId PyProof.Rows.F.plain_set_update_loop _]
    apply wpAny_bind (m := pyNext (.ref I))
    apply W.item i s _ _ lt st
    intro v s1 pv st1 mv
    obtain ⟨u, rfl⟩ := val i v pv
    have set1 := stay mv set
    apply wpAny_bind (m := holding [Value.str (xs.getD i Str.empty) u] (setAdd T (.str (xs.getD i Str.empty) u)))
    apply wpAny_holding
    unfold setAdd
    apply wpAny_holding
    apply wpAny_bind
    apply (PySem.strKind prog w).pyHash (k := xs.getD i Str.empty) (PySem.strKind_is _ _ _ _)
    apply tset_add (s := { s1 with toks := s1.toks + 1 }) set1 (by omega)
    intro h2 but set2
    have tk : xs.take (i + 1) = xs.take i ++ [xs.getD i Str.empty] := by
      rw [List.take_add_one, List.getD_eq_getElem?_getD, List.getElem?_eq_getElem (by omega)]
      rfl
    have set3 := set2.same (S2 := fun y => decide (y ∈ xs.take (i + 1))) (fun y => by rw [tk]; by_cases a : y ∈ xs.take i <;> by_cases b : y = xs.getD i Str.empty <;> simp [a, b]) rfl
    apply wpAny_pure
    refine ⟨plainId_quiet PyProof.Rows.F.plain_set_update_loop _, ih (i + 1) _ _ (by omega) (by split <;> omega) (W.frame _ s1 _ _ st1 (Nat.le_succ _) ?_) set3 ?_⟩
    · intro b mb o get
      rw [but.2 b fun z => off (z ▸ mb)]
      exact get
    · intro s2 c2 mv2 le2 set4
      refine go s2 c2 (Moved.trans W.gtrans ((mv.mono more).then_heap (Nat.le_succ _) ?_) mv2) le2 set4
      intro b o nb get
      rw [but.2 b fun z => nb (z ▸ .head _)]
      exact get
end
section
variable {prog : Program} {w : World} {A : Around} {E : Value → Shared → Prop} {s : Shared}
/-- a new set, with its setting -/
theorem new_led (a : Value) {Q : Value → Shared → Prop}
    (q : Q (.ref s.heap.objs.size) { s with heap := s.heap.push { cls := .type "set", dict := none, data := .set #[] 0 (.fresh 0 0 (!w.params.followText "set-order")) } }) :
    codeAny (model prog w) A (.call (.builtin "set.__new__") ⟨[.type "set", a], []⟩) (wants Q E) s := by
  apply codeAny_of_tree
  change wpAny _ A.in1 (checkBuiltinCall "set.__new__" ⟨[.type "set", a], []⟩ >>= fun _ => again (.builtin "set.__new__" ⟨[.type "set", a], []⟩)) _ _ s
  apply wpAny_bind
  apply wpAny_of_eq (PySem.F.newCall_set_1 a)
  apply wpAny_pure
  refine ⟨plainId_quiet PySem.F.plain_set_new _, codeAny_builtin PySem.F.entry_set_new ?_⟩
  rw [Around.under_plainId PySem.F.plain_set_new _]
  unfold Builtin.«set.__new__» Builtin.Frozenset.newClass
  have sub_ := sub_set_self
  rcases s with ⟨hp, g, d, tk, os⟩
  dsimp only
  wp_walk
  apply wpAny_askSetting
  apply wpAny_pure
  dsimp only
  simp only [newObj]
  apply wpAny_bind
  apply wpAny_alloc
  apply wpAny_pure
  exact wpAny_pure q
abbrev bareO (led : Bool) : Obj := { cls := .type "set", dict := none, data := .set #[] 0 (.fresh 0 0 led) }
theorem tset_bare {h : Heap} {a : Addr} (get : h.get? a = some (bareO (!w.params.followText "set-order"))) : TSet prog w h a (fun _ => false) 0 := by
  refine ⟨_, _, _, _, get, ⟨rfl, rfl, rfl⟩, rfl, ?_, ?_⟩
  · constructor
    · intro e me
      simp at me
    · simp
    · intro x
      simp
    · decide
    · rfl
  · constructor
    · rfl
    · exact List.Pairwise.nil
    · cases c : w.params.followText "set-order" with
      | true => exact .inl rfl
      | false => exact .inr rfl
/-- set(xs), xs a list of texts: it can be walked -/
theorem set_walked {l : Addr} {items : Array Value} {xs : List Str} {Q : Value → Shared → Prop} (calm : A.handled = none) (at_l : s.heap.IsList l items) (txt : StrsAre items.toList xs) (few : xs.length + 1 < scanBound)
    (q : ∀ (h' : Heap) (tk c : Nat), c ≤ xs.length → TSet prog w h' s.heap.objs.size (fun y => decide (y ∈ xs)) c →
      (∀ b o, b < s.heap.objs.size → s.heap.get? b = some o → h'.get? b = some o) → Q (.ref s.heap.objs.size) { s with heap := h', toks := tk }) :
    wpAny (model prog w) A (call (.type "set") [.ref l]) Q E s := by
  have len : items.size = xs.length := by have := StrsAre.len_eq txt; rw [Array.length_toList] at this; exact this
  obtain ⟨at_o, at_get, at_cls, at_n, at_data⟩ := id at_l
  have l_lt := Heap.lt_size at_get
  have t0 := PySem.F.called_set
  have t1 := t0.made; have t2 := t0.sub; have t3 := t0.notType; have t4 := t0.canCreate; have t5 := PySem.F.typeCall_set_1 (.ref l)
  obtain ⟨m0, m1, t6⟩ := t0.mro
  apply wpAny_call; apply codeAny_of_tree
  change wpAny _ _ (callAny (.type "set") _) _ _ _
  apply wpAny_pure; refine And.intro (Code.quiet_builtin _ (by decide +kernel)) (codeAny_builtin PySem.F.entry_type_call ?_)
  rw [Around.under_plain (weight_type_call_type "set" [.ref l] []) rfl]
  repeat any_goals first | assumption | wp_step
  -- the new set
  apply codeAny_mono (new_led (.ref l) (E := E) (Q := fun v s1 => v = .ref s.heap.objs.size ∧ s1 = { s with heap := s.heap.push (bareO (!w.params.followText "set-order")) }) ⟨rfl, rfl⟩)
  intro r s1 made
  rcases r with e | f
  · exact made
  cases f with
  | ret v =>
    obtain ⟨rfl, rfl⟩ := made
    have at_S : (s.heap.push (bareO (!w.params.followText "set-order"))).get? s.heap.objs.size = some (bareO (!w.params.followText "set-order")) := Heap.get?_push_size _ rfl
    have ty_S : Shared.TypeIs { s with heap := s.heap.push (bareO (!w.params.followText "set-order")) } (.ref s.heap.objs.size) "set" := ⟨_, at_S, rfl⟩
    have t7 := t0.init.lookup; have t8 := t0.init.bind (.ref s.heap.objs.size)
    repeat any_goals first | assumption | wp_step
    let D : Result → Shared → Prop := wants (fun v s2 => v = .none ∧ ∃ h' tk c, s2 = { s with heap := h', toks := tk } ∧ c ≤ xs.length ∧ TSet prog w h' s.heap.objs.size (fun y => decide (y ∈ xs)) c ∧
      ∀ b o, b < s.heap.objs.size → s.heap.get? b = some o → h'.get? b = some o) E
    apply codeAny_mono (codeAny_call_builtin (R := D) t0.init.plain PySem.F.entry_set_init (check_set_init_1 ty_S ?fills))
    case fills =>
      rcases at_o with ⟨oc, od, dt, sl⟩
      cases at_cls; cases at_data
      have get2 : (s.heap.push (bareO (!w.params.followText "set-order"))).get? l = some { cls := .type "list", dict := od, data := .seq items at_n, slots := sl } := Heap.get?_push_of_some _ at_get
      have lst2 : (s.heap.push (bareO (!w.params.followText "set-order"))).IsList l items := ⟨_, get2, rfl, at_n, rfl⟩
      have n1 := PySem.F.sub_list_set; have n2 := PySem.F.sub_list_frozenset
      have n3 : (Value.type "list" == Value.type "dict") = false := by decide
      unfold Builtin.«set.__init__» noKeywords Builtin.Frozenset.updateFrom
      generalize asks : pyIter = PI
      wp_walk
      subst asks
      apply wpAny_pyIter_list lst2
      apply wpAny_bind; apply wpAny_runValue
      have calm3 : A.in1.in1.in1.handled = none := by simp [calm]
      have grown : (s.heap.push (bareO (!w.params.followText "set-order"))).objs.size = s.heap.objs.size + 1 := Heap.size_push ..
      have ne_l : l ≠ (s.heap.push (bareO (!w.params.followText "set-order"))).objs.size := Nat.ne_of_lt (grown ▸ Nat.lt_succ_of_lt l_lt)
      have out : s.heap.objs.size ∉ [(s.heap.push (bareO (!w.params.followText "set-order"))).objs.size, l] := fun z => by
        rw [grown] at z
        rcases List.mem_cons.mp z with z | z
        · exact Nat.ne_of_lt (Nat.lt_succ_self _) z
        · exact Nat.ne_of_gt l_lt (List.mem_singleton.mp z)
      refine fill_on (Walks.list calm3 _ l ne_l items).toS out (xs := xs) (by omega) (fun i v z => text_at txt i v (by rw [Array.getElem?_toList]; exact z)) len.symm items.size 0 0 _ (by omega) (Nat.le_refl _) ⟨⟨_, Heap.get?_push_size _ rfl, rfl, rfl⟩, lst2.push _⟩ ?start ?stop
      case start =>
        exact (tset_bare (Heap.get?_push_of_some _ at_S)).same (fun y => by simp) rfl
      case stop =>
        rintro ⟨h', gens, drawn, toks, os⟩ c mv le set
        cases (show gens = s.gens from mv.gens)
        cases (show drawn = s.drawn from mv.drawn)
        cases (show os = s.os from mv.os)
        refine wpAny_pure (wpAny_pure ⟨rfl, h', toks, c, rfl, by omega, ?_, ?_⟩)
        · rw [len, List.take_length] at set
          exact set
        · intro b o lt get
          apply mv.heap b o
          · intro z
            rw [grown] at z
            rcases List.mem_cons.mp z with z | z
            · exact Nat.ne_of_lt lt z
            · exact Nat.ne_of_lt (Nat.lt_succ_of_lt lt) (List.mem_singleton.mp z)
          · exact Heap.get?_push_of_some _ (Heap.get?_push_of_some _ get)
    intro r2 s2 filled
    rcases r2 with e | f2
    · exact filled
    cases f2 with
    | ret v2 =>
      obtain ⟨rfl, h', tk, c, rfl, le, set, keep⟩ := filled
      repeat any_goals first | assumption | wp_step
      exact q _ _ c le set keep
    | _ => exact filled.elim
  | _ => exact made.elim
end
end Ol

set_option Elab.async false
set_option linter.all false
set_option maxRecDepth 100000
set_option maxHeartbeats 8000000
namespace Ol
open PySem PySem.Spec PyProof.Rows L2
/-! ### sets whose members are tuples of a kind -/
section
variable {P : Program} {w : World} {α : Type} [DecidableEq α]
/-- what such a kind lets a set do -/
structure SetK (knd : HeapKind P w α) : Prop where
  st : knd.Stays
  sees : ∀ {A : Around} {E : Value → Shared → Prop} {s : Shared} {k : α} {a : Addr} {Q : Bool → Shared → Prop}, knd.is s.heap k a → Q false s → wpAny (model P w) A (ofAClassStatement 8 (.ref a)) Q E s
  byv : ∀ {A : Around} {E : Value → Shared → Prop} {s : Shared} {k : α} {a : Addr} {Q : Bool → Shared → Prop}, knd.is s.heap k a → (∀ b, Q b s) → wpAny (model P w) A (hashByValue 8 (.ref a)) Q E s
/-- the rows of a set's table -/
abbrev rowsK (knd : HeapKind P w α) (L : List (Addr × α)) : List (Int × Value) := L.map fun p => (knd.hash p.2, Value.ref p.1)
/-- a set of such tuples -/
structure NSet (knd : HeapKind P w α) (h : Heap) (a : Addr) (L : List (Addr × α)) (es : Array (Int × Value)) (ep : Nat) (t : SetTable) : Prop where
  ob : ∃ o, h.get? a = some o ∧ o.ExactSet ∧ o.data = .set es ep t
  rows : es.toList = rowsK knd L
  tab : TabOk t (L.map fun p => knd.hash p.2)
  nd : (L.map (·.2)).Nodup
  tup : ∀ p ∈ L, knd.is h p.2 p.1
  led : w.params.followText "set-order" = true ∨ t.led = true
  room : L.length * 5 < t.mask * 3
  few : L.length < 64
theorem nth_dummy (m : Nat) (p : SetTable.Probe) (k : Nat) (h : p.dummy = none) : (nth m p k).dummy = none := by
  induction k with
  | zero => exact h
  | succ k ih =>
    rw [nth_succ]
    unfold adv
    split
    · exact ih
    · exact ih
variable {knd : HeapKind P w α} {A : Around} {E : Value → Shared → Prop} {s : Shared} {a : Addr} {L : List (Addr × α)} {es : Array (Int × Value)} {ep : Nat} {t : SetTable}
theorem NSet.size {h : Heap} (T : NSet knd h a L es ep t) : es.size = L.length := by rw [← Array.length_toList, T.rows, List.length_map]
theorem NSet.fits {h : Heap} (T : NSet knd h a L es ep t) : t.fits es.size = true := by
  have h1 := T.tab.sz
  rw [List.length_map] at h1
  have h2 := T.tab.dm
  have h3 := T.room
  have h4 := T.size
  unfold SetTable.fits SetTable.fill
  rw [h2]
  simp only [Bool.and_eq_true, beq_iff_eq, decide_eq_true_eq]
  refine ⟨h1.trans h4.symm, ?_⟩
  rw [h1]
  simp
  omega
theorem NSet.gw {h : Heap} (T : NSet knd h a L es ep t) : ¬ t.gaveWay = true := by
  have h1 := mask_odd T.tab.mok
  unfold SetTable.gaveWay
  rw [h1]
  decide
theorem NSet.entry {h : Heap} (T : NSet knd h a L es ep t) {i : Nat} {p : Addr × α} (e : L[i]? = some p) : es[i]? = some (knd.hash p.2, Value.ref p.1) := by
  rw [← Array.getElem?_toList, T.rows, List.getElem?_map, e]
  rfl
theorem seenK (S : SetK knd) {k : α} {b : Addr} (it : knd.is s.heap k b) {ys : List Value} (hy : ∀ y ∈ ys, ∃ k' c, y = Value.ref c ∧ knd.is s.heap k' c) {Q : Bool → Shared → Prop} (q : Q false s) :
    wpAny (model P w) A (searchCouldBeSeen (.ref b) ys) Q E s := by
  unfold searchCouldBeSeen
  apply wpAny_bind
  have loop : ∀ (ys : List Value), (∀ y ∈ ys, ∃ k' c, y = Value.ref c ∧ knd.is s.heap k' c) → ∀ {R : Option Bool × Unit → Shared → Prop}, R (none, ()) s →
      wpAny (model P w) A (forIn ys ((none, ()) : Option Bool × Unit) fun y __s => do
        let __r := __s
        let very := match Value.ref b, y with | Value.ref a, Value.ref b => a == b | x, x_1 => false
        if (very || carriedByValue (Value.ref b) && carriedByValue y) = true then pure (ForInStep.yield (none, ()))
        else do
          let __do_lift ← eqIsQuiet 8 (Value.ref b)
          if (!__do_lift) = true then pure (ForInStep.done (some true, ()))
            else do
              let __do_lift ← eqIsQuiet 8 y
              if (!__do_lift) = true then pure (ForInStep.done (some true, ()))
                else do
                  let __do_lift ← ofAClassStatement 8 (Value.ref b)
                  if __do_lift = true then pure (ForInStep.done (some true, ()))
                    else do
                      let __do_lift ← ofAClassStatement 8 y
                      if __do_lift = true then pure (ForInStep.done (some true, ()))
                        else pure (ForInStep.yield (none, ()))) R E s := by
    intro ys
    induction ys with
    | nil => intro _ R r; rw [List.forIn_nil]; exact wpAny_pure r
    | cons y ys ih =>
      intro hy R r
      obtain ⟨k', c, rfl, ic⟩ := hy y (.head _)
      rw [List.forIn_cons]
      apply wpAny_bind
      have go : wpAny (model P w) A (forIn ys ((none, ()) : Option Bool × Unit) _) R E s := ih (fun z hz => hy z (.tail _ hz)) r
      dsimp only
      split
      · exact wpAny_pure go
      · apply wpAny_bind
        apply knd.quiet it
        simp only [Bool.not_true, Bool.false_eq_true, ↓reduceIte]
        apply wpAny_bind
        apply knd.quiet ic
        simp only [Bool.not_true, Bool.false_eq_true, ↓reduceIte]
        apply wpAny_bind
        apply S.sees it
        simp only [Bool.false_eq_true, ↓reduceIte]
        apply wpAny_bind
        apply S.sees ic
        simp only [Bool.false_eq_true, ↓reduceIte]
        exact wpAny_pure go
  exact loop ys hy (wpAny_pure q)
end
end Ol

set_option Elab.async false
set_option linter.all false
set_option maxRecDepth 100000
set_option maxHeartbeats 8000000
namespace Ol
open PySem PySem.Spec PyProof.Rows L2
section
variable {P : Program} {w : World} {α : Type} [DecidableEq α] {knd : HeapKind P w α} {A : Around} {E : Value → Shared → Prop} {s : Shared} {a : Addr} {L : List (Addr × α)} {es : Array (Int × Value)} {ep : Nat} {t : SetTable}
theorem nsearch_from (S : SetK knd) (T : NSet knd s.heap a L es ep t) {x : Addr} {k : α} (it : knd.is s.heap k x) (rm : knd.room A) {K : Nat} (hK : K < 10 * SetTable.turns t.mask) (free : ¬ way t.mask (knd.hash k) K ∈ t.place.toList)
    (occ : ∀ c, c < K → way t.mask (knd.hash k) c ∈ t.place.toList) {Q : SetFound → Shared → Prop} (yes : k ∈ L.map (·.2) → Q (.there none) s) (no : ¬ k ∈ L.map (·.2) → Q (.free (way t.mask (knd.hash k) K) false) s) :
    ∀ (f c : Nat) (stand : Option SetTable.Probe), stand.getD (t.probeStart (knd.hash k)) = nth t.mask (runAt t.mask (SetTable.bits (knd.hash k) % (t.mask + 1)) (SetTable.bits (knd.hash k))) c → c ≤ K → K - c < f →
      (∀ (i : Nat) (p : Addr × α), L[i]? = some p → p.2 = k → ∃ c', c ≤ c' ∧ c' < K ∧ t.place.toList[i]? = some (way t.mask (knd.hash k) c')) →
      wpAny (model P w) A (setSearchFrom a (.ref x) (knd.hash k) true f stand) Q E s := by
  intro f
  induction f with
  | zero => intro c stand _ _ h _; omega
  | succ f ih =>
    intro c stand hst hc hf hin
    obtain ⟨o, get, ex, dat⟩ := T.ob
    rw [setSearchFrom_succ]
    apply wpAny_bind
    apply wpAny_setState_of get dat T.fits
    dsimp only
    rw [if_neg T.gw]
    have G := go_spec t T.tab.ris T.tab.dm (fun i => (Option.map (fun x => x.fst) es[i]?).getD 0) (knd.hash k) (10 * SetTable.turns t.mask) (K - c)
      (nth t.mask (runAt t.mask (SetTable.bits (knd.hash k) % (t.mask + 1)) (SetTable.bits (knd.hash k))) c) (nth_dummy _ _ _ rfl) (by omega)
      (fun j hj => by rw [← nth_add]; exact occ _ (by omega)) (by rw [← nth_add, show c + (K - c) = K by omega]; exact free)
    rw [SetTable.probe, hst]
    rcases G with ⟨j, i, hj, hpl, hh, hbe, eq⟩ | ⟨hno, eq⟩
    · rw [eq]
      dsimp only
      rw [← nth_add] at hpl
      have hi : i < L.length := by
        have h1 := T.tab.sz
        rw [List.length_map] at h1
        have := (List.getElem?_eq_some_iff.mp hpl).1
        rw [Array.length_toList] at this
        omega
      have hLi : L[i]? = some L[i] := List.getElem?_eq_getElem hi
      have hes := T.entry hLi
      have ity := T.tup L[i] (List.getElem_mem hi)
      have rest : wpAny (model P w) A (searchRest a (.ref x) (knd.hash k) true f es t (nth t.mask (nth t.mask (runAt t.mask (SetTable.bits (knd.hash k) % (t.mask + 1)) (SetTable.bits (knd.hash k))) c) j).j i (nth t.mask (nth t.mask (runAt t.mask (SetTable.bits (knd.hash k) % (t.mask + 1)) (SetTable.bits (knd.hash k))) c) (j + 1))) Q E s := by
        unfold searchRest
        rw [hes]
        dsimp only
        apply wpAny_bind
        apply wpAny_holding
        apply knd.eqBool rm ity it
        apply wpAny_bind
        apply wpAny_setState_of get dat T.fits
        dsimp only
        by_cases e : L[i].2 = k
        · rw [decide_eq_true e]
          simp only [Bool.and_self, ↓reduceIte]
          exact wpAny_pure (yes (e ▸ List.mem_map_of_mem (List.getElem_mem hi)))
        · rw [decide_eq_false e]
          simp only [Bool.and_false, Bool.false_eq_true, ↓reduceIte]
          rw [sameMem]
          dsimp only
          rw [← nth_add, slot_live T.tab.ris hpl]
          simp only [↓reduceIte]
          rw [hes]
          dsimp only
          apply wpAny_bind
          apply wpAny_isSame_ref_self
          simp only [↓reduceIte]
          apply wpAny_bind
          apply wpAny_pure
          dsimp only
          refine ih (c + (j + 1)) _ ?_ (by omega) (by omega) ?_
          · show nth t.mask _ (j + 1) = _
            rw [← nth_add]
          · intro i' p' e1 e2
            obtain ⟨c', h1, h2, h3⟩ := hin i' p' e1 e2
            refine ⟨c', ?_, h2, h3⟩
            rcases Nat.lt_or_ge c' (c + (j + 1)) with z | z
            · exfalso
              have e3 : (Option.map (fun x => x.fst) es[i']?).getD 0 = knd.hash k := by rw [T.entry e1, e2]; rfl
              rcases Nat.lt_or_ge c' (c + j) with z2 | z2
              · refine hbe (c' - c) i' (by omega) ?_ e3
                rw [← nth_add, show c + (c' - c) = c' by omega]
                exact h3
              · obtain rfl : c' = c + j := by omega
                have hz : i' = i := by
                  have r := T.tab.ris
                  have l1 := List.getElem?_eq_some_iff.mp h3
                  have l2 := List.getElem?_eq_some_iff.mp hpl
                  obtain ⟨a1, b1⟩ := l1
                  obtain ⟨a2, b2⟩ := l2
                  have := List.pairwise_iff_getElem.mp r
                  rcases Nat.lt_trichotomy i' i with y | y | y
                  · have := this i' i a1 a2 y
                    rw [b1, b2] at this
                    exact absurd this (Nat.lt_irrefl _)
                  · exact y
                  · have := this i i' a2 a1 y
                    rw [b1, b2] at this
                    exact absurd this (Nat.lt_irrefl _)
                subst hz
                rw [hLi] at e1
                cases e1
                exact e e2
            · exact z
      by_cases led : t.led = true
      · rw [led]
        simp only [Bool.not_true, Bool.false_eq_true, ↓reduceIte]
        exact rest
      · rw [if_pos (by simp [led])]
        apply wpAny_bind
        apply seenK S it
        · intro y hy
          obtain ⟨e, he, rfl⟩ := List.mem_map.mp hy
          rw [Array.toList_filter, List.mem_filter, T.rows] at he
          obtain ⟨p, hp, rfl⟩ := List.mem_map.mp he.1
          exact ⟨p.2, p.1, rfl, T.tup p hp⟩
        · simp only [Bool.false_eq_true, ↓reduceIte]
          exact rest
    · rw [eq]
      dsimp only
      rw [← nth_add, show c + (K - c) = K by omega]
      refine wpAny_pure (no fun z => ?_)
      obtain ⟨p, hp, e2⟩ := List.mem_map.mp z
      obtain ⟨i, hi, rfl⟩ := List.getElem_of_mem hp
      obtain ⟨c', h1, h2, h3⟩ := hin i L[i] (List.getElem?_eq_getElem hi) e2
      refine hno (c' - c) i (by omega) ?_ ?_
      · rw [← nth_add, show c + (c' - c) = c' by omega]
        exact h3
      · rw [T.entry (List.getElem?_eq_getElem hi), e2]
        rfl
theorem nsearch_at (S : SetK knd) (T : NSet knd s.heap a L es ep t) {x : Addr} {k : α} (it : knd.is s.heap k x) (rm : knd.room A) {Q : SetFound → Shared → Prop} (yes : k ∈ L.map (·.2) → Q (.there none) s)
    (no : ∀ K, ¬ k ∈ L.map (·.2) → ¬ way t.mask (knd.hash k) K ∈ t.place.toList → (∀ c, c < K → way t.mask (knd.hash k) c ∈ t.place.toList) → Q (.free (way t.mask (knd.hash k) K) false) s) :
    wpAny (model P w) A (setSearch a (.ref x) (knd.hash k) true) Q E s := by
  have hl : (L.map fun p => knd.hash p.2).length ≤ t.mask := by rw [List.length_map]; have := T.room; omega
  obtain ⟨K, hK, free, occ⟩ := T.tab.first hl (knd.hash k)
  have m128 : t.mask ≤ 127 := by rcases T.tab.mok with h | h | h <;> omega
  unfold setSearch
  refine nsearch_from S T it rm hK free occ yes (fun z => no K z free occ) 100000 0 none ?_ (Nat.zero_le _) ?_ ?_
  · show t.probeStart _ = _
    rw [start_run]
    rfl
  · unfold SetTable.turns at hK
    omega
  · intro i p e1 e2
    have hi := (List.getElem?_eq_some_iff.mp e1).1
    have hsz := T.tab.sz
    rw [List.length_map] at hsz
    have hpl : i < t.place.toList.length := by rw [Array.length_toList]; omega
    have hp : t.place.toList[i]? = some (t.place.toList[i]'hpl) := List.getElem?_eq_getElem hpl
    obtain ⟨c', hc, e3⟩ := T.tab.before (h := knd.hash k) (K := K) (i := i) free (by rw [List.getElem?_map, e1, ← e2]; rfl) hp
    exact ⟨c', Nat.zero_le _, hc, by rw [e3]; exact hp⟩
end
end Ol

set_option Elab.async false
set_option linter.all false
set_option maxRecDepth 100000
set_option maxHeartbeats 8000000
namespace Ol
open PySem PySem.Spec PyProof.Rows L2
theorem filter_range {β : Type} (L : List β) : (List.range L.length).filterMap (fun i => L[i]?) = L := by
  apply List.ext_getElem?
  intro i
  have e : (List.range L.length).filterMap (fun i => L[i]?) = (List.range L.length).pmap (fun i h => L[i]'h) (fun i h => List.mem_range.mp h) := by
    rw [List.pmap_eq_map_attach]
    have : ∀ (l : List Nat) (H : ∀ i ∈ l, i < L.length), l.filterMap (fun i => L[i]?) = l.attach.map (fun x => L[x.1]'(H x.1 x.2)) := by
      intro l
      induction l with
      | nil => intro _; rfl
      | cons x l ih =>
        intro H
        rw [List.filterMap_cons, List.getElem?_eq_getElem (H x (.head _))]
        dsimp only
        rw [ih fun i hi => H i (.tail _ hi), List.attach_cons, List.map_cons, List.map_map]
        rfl
    exact this _ fun i h => List.mem_range.mp h
  rw [e, List.getElem?_pmap]
  rcases Nat.lt_or_ge i L.length with c | c
  · simp [c]
  · simp [c]
section
variable {P : Program} {w : World} {α : Type} [DecidableEq α] {knd : HeapKind P w α} {A : Around} {E : Value → Shared → Prop} {s : Shared} {a : Addr} {L : List (Addr × α)} {es : Array (Int × Value)} {ep : Nat} {t : SetTable}
theorem order_rowsK (L : List (Addr × α)) (es : Array (Int × Value)) (order : Array Nat) (rows : es.toList = rowsK knd L) (pm : order.toList.Perm (List.range L.length)) :
    ∃ L2, (Array.filterMap (fun x => es[x]?) order).toList = rowsK knd L2 ∧ L2.Perm L ∧ L2.map (fun p => knd.hash p.2) = order.toList.map (fun i => (Array.map (fun x => x.fst) es).getD i 0) := by
  refine ⟨order.toList.filterMap fun i => L[i]?, ?_, ?_, ?_⟩
  · rw [Array.toList_filterMap]
    unfold rowsK
    rw [List.map_filterMap]
    congr 1
    funext i
    rw [← Array.getElem?_toList, rows, List.getElem?_map]
  · have z := pm.filterMap fun i => L[i]?
    rw [filter_range] at z
    exact z
  · have hin : ∀ i ∈ order.toList, i < L.length := fun i hi => List.mem_range.mp (pm.mem_iff.mp hi)
    generalize order.toList = l at hin
    clear pm
    induction l with
    | nil => rfl
    | cons x l ih =>
      have hx := hin x (.head _)
      rw [List.filterMap_cons, List.getElem?_eq_getElem hx]
      dsimp only
      rw [List.map_cons, List.map_cons, ih fun i hi => hin i (.tail _ hi)]
      congr 1
      rw [Array.getD_eq_getD_getElem?, Array.getElem?_map, ← Array.getElem?_toList, rows, List.getElem?_map, List.getElem?_eq_getElem hx]
      rfl
theorem nrelay (S : SetK knd) {o : Obj} (get : s.heap.get? a = some o) (ex : o.ExactSet) (dat : o.data = .set es ep t) (rows : es.toList = rowsK knd L) (psz : t.place.size = es.size) (dm : t.dummies = #[]) (msk : es.size ≤ t.mask)
    (nd : (L.map (·.2)).Nodup) (tup : ∀ p ∈ L, knd.is s.heap p.2 p.1) (led : w.params.followText "set-order" = true ∨ t.led = true) (few : L.length < 64) {wanted M : Nat} (hM : SetTable.sizeAbove wanted - 1 = M) (mok : MaskOk M)
    (le : SetTable.sizeAbove wanted ≤ 128) (room : L.length * 5 < M * 3) {Q : Unit → Shared → Prop}
    (q : ∀ (h' : Heap) (L' : List (Addr × α)) (es' : Array (Int × Value)) (ep' : Nat) (t' : SetTable), Heap.SameBut a s.heap h' → NSet knd h' a L' es' ep' t' → L'.Perm L → Q () { s with heap := h' }) :
    wpAny (model P w) A (setRelay a wanted) Q E s := by
  have sz : es.size = L.length := by rw [← Array.length_toList, rows, List.length_map]
  have ft : t.fits es.size = true := by
    unfold SetTable.fits SetTable.fill
    rw [dm]
    simp only [Bool.and_eq_true, beq_iff_eq, decide_eq_true_eq]
    refine ⟨psz, ?_⟩
    rw [psz]
    simpa using msk
  rw [setRelay_eq]
  apply wpAny_bind
  apply wpAny_setState_of get dat ft
  dsimp only
  rw [if_neg (by rw [sizeLine_eq]; omega)]
  obtain ⟨t', order, e, pm, tab, m', l', p', d'⟩ := relaid_ok t (hs := es.map fun x => x.fst) hM mok (by rw [Array.size_map]; omega)
  rw [e]
  dsimp only
  rw [Array.size_map, sz] at pm
  obtain ⟨L2, r2, pm2, h2⟩ := order_rowsK L es order rows pm
  have s2 : (Array.filterMap (fun x => es[x]?) order).size = es.size := by rw [← Array.length_toList, r2, List.length_map, pm2.length_eq, sz]
  rw [if_neg (by rw [s2]; simp)]
  apply wpAny_bind
  apply wpAny_pure
  dsimp only
  refine wpAny_storeSet_of get dat ?_ (by rw [s2, sizeLine_eq]; omega)
  have get1 := store_at (es' := Array.filterMap (fun x => es[x]?) order) (t' := t') get dat
  have but1 := Heap.SameBut.update s.heap a (Obj.putSet (Array.filterMap (fun x => es[x]?) order) t')
  refine q _ L2 _ _ t' but1 ⟨⟨_, get1, ex, rfl⟩, r2, ?_, ?_, ?_, ?_, ?_, ?_⟩ pm2
  · rw [h2]
    exact tab
  · exact (pm2.map _).nodup_iff.mpr nd
  · intro p hp
    refine S.st.stays (fun b ob vs n g d => ?_) (tup p (pm2.mem_iff.mp hp))
    rw [but1.2 b fun z => ?_]
    · exact g
    · rw [z, get] at g
      cases g
      rw [dat] at d
      cases d
  · rw [l']
    exact led
  · rw [m', pm2.length_eq]
    exact room
  · rw [pm2.length_eq]
    exact few
end
end Ol

set_option Elab.async false
set_option linter.all false
set_option maxRecDepth 100000
set_option maxHeartbeats 8000000
namespace Ol
open PySem PySem.Spec PyProof.Rows L2
theorem insertAt_list {β : Type} (xs : Array β) (p : Nat) (x : β) (h : p ≤ xs.size) : (SetTable.insertAt xs p x).toList = xs.toList.take p ++ x :: xs.toList.drop p := by
  unfold SetTable.insertAt
  rw [Array.toList_append, Array.toList_push, Array.toList_extract, Array.toList_extract, List.append_assoc]
  simp [List.extract_eq_drop_take]
  rw [List.take_of_length_le (by rw [List.length_drop, Array.length_toList]; exact Nat.le_refl _)]
section
variable {P : Program} {w : World} {α : Type} [DecidableEq α] {knd : HeapKind P w α} {A : Around} {E : Value → Shared → Prop} {s : Shared} {a : Addr} {L : List (Addr × α)} {es : Array (Int × Value)} {ep : Nat} {t : SetTable}
theorem NSet.stay (S : SetK knd) {h h' : Heap} (T : NSet knd h a L es ep t) (keep : ∀ c o, h.get? c = some o → h'.get? c = some o) : NSet knd h' a L es ep t := by
  obtain ⟨o, get, ex, dat⟩ := T.ob
  exact ⟨⟨o, keep _ _ get, ex, dat⟩, T.rows, T.tab, T.nd, fun p hp => S.st.stays (fun b o _ _ g _ => keep b o g) (T.tup p hp), T.led, T.room, T.few⟩
theorem nadd_at (S : SetK knd) (T : NSet knd s.heap a L es ep t) {x : Addr} {k : α} (it : knd.is s.heap k x) (rm : knd.room A) (room : L.length + 1 < 64) {Q : Bool → Shared → Prop}
    (q : ∀ (b : Bool) (h' : Heap) (L' : List (Addr × α)) (es' : Array (Int × Value)) (ep' : Nat) (t' : SetTable), Heap.SameBut a s.heap h' → NSet knd h' a L' es' ep' t' → (k ∈ L.map (·.2) → L' = L) → (¬ k ∈ L.map (·.2) → L'.Perm ((x, k) :: L)) → Q b { s with heap := h' }) :
    wpAny (model P w) A (setAddHashed a (.ref x) (knd.hash k)) Q E s := by
  obtain ⟨o, get, ex, dat⟩ := T.ob
  unfold setAddHashed
  apply wpAny_holding
  rw [setAddHashedIn_succ]
  apply wpAny_bind
  apply wpAny_setState_of get dat T.fits
  dsimp only
  rw [if_neg (by simp [byScan, Value.scannable])]
  apply wpAny_bind
  refine nsearch_at S T it rm (fun z => ?_) (fun K nin free occ => ?_)
  · dsimp only
    exact wpAny_pure (q false s.heap L es ep t (Heap.SameBut.refl a s.heap) T (fun _ => rfl) (fun n => absurd z n))
  · dsimp only
    apply wpAny_bind
    apply wpAny_setState_of get dat T.fits
    dsimp only
    obtain ⟨p1, ple, tab1, m1, l1, pl1, mv1, fg1, fl1⟩ := T.tab.put free occ
    generalize t.put (way t.mask (knd.hash k) K) = Z at *
    rcases Z with ⟨t1, p⟩
    dsimp only at *
    rw [← p1] at ple tab1
    rw [List.length_map] at ple fl1
    clear p1
    have sz := T.size
    have rm1 := T.room
    have hp1 : (SetTable.insertAt es p (knd.hash k, Value.ref x)).toList = rowsK knd (L.take p ++ (x, k) :: L.drop p) := by
      rw [insertAt_list _ _ _ (by omega), T.rows]
      unfold rowsK
      rw [List.map_append, List.map_cons, List.map_take, List.map_drop]
    have pm : (L.take p ++ (x, k) :: L.drop p).Perm ((x, k) :: L) := put_perm L p (x, k)
    have hh : (L.take p ++ (x, k) :: L.drop p).map (fun p => knd.hash p.2) = (L.map fun p => knd.hash p.2).take p ++ knd.hash k :: (L.map fun p => knd.hash p.2).drop p := by
      rw [List.map_append, List.map_cons, List.map_take, List.map_drop]
    rw [← hh] at tab1
    have len1 : (L.take p ++ (x, k) :: L.drop p).length = L.length + 1 := by rw [pm.length_eq, List.length_cons]
    have nd1 : ((L.take p ++ (x, k) :: L.drop p).map (·.2)).Nodup := (pm.map _).nodup_iff.mpr (List.nodup_cons.mpr ⟨nin, T.nd⟩)
    have s1 : (SetTable.insertAt es p (knd.hash k, Value.ref x)).size = L.length + 1 := by rw [← Array.length_toList, hp1, List.length_map, len1]
    generalize L.take p ++ (x, k) :: L.drop p = L1 at hp1 pm tab1 len1 nd1
    generalize SetTable.insertAt es p (knd.hash k, Value.ref x) = es1 at hp1 s1
    have tail : ∀ (t2 : SetTable), t2.mask = t1.mask → t2.place = t1.place → t2.dummies = t1.dummies → t2.led = t1.led →
        wpAny (model P w) A (do
          storeSet a es1 t2
          if (!false && t2.tooFull) = true then do
              setRelay a (SetTable.grown (es.size + 1))
              pure true
            else pure true) Q E s := by
      intro t2 q1 q2 q3 q4
      have tab2 : TabOk t2 (L1.map fun p => knd.hash p.2) := by
        refine ⟨?_, ?_, ?_, ?_, ?_, ?_⟩
        · rw [q2]; exact tab1.ris
        · rw [q3]; exact tab1.dm
        · rw [q2]; exact tab1.sz
        · rw [q1]; exact tab1.mok
        · rw [q2, q1]; exact tab1.bd
        · rw [q2, q1]; exact tab1.reach
      have fl2 : t2.fill = L.length + 1 := by
        rw [← fl1]
        unfold SetTable.fill
        rw [q2, q3]
      have led2 : w.params.followText "set-order" = true ∨ t2.led = true := by rw [q4, l1]; exact T.led
      have m2 : t2.mask = t.mask := q1.trans m1
      apply wpAny_bind
      refine wpAny_storeSet_of get dat ?_ (by rw [s1, sizeLine_eq]; omega)
      have get1 := store_at (es' := es1) (t' := t2) get dat
      have but1 := Heap.SameBut.update s.heap a (Obj.putSet es1 t2)
      have tup1 : ∀ p ∈ L1, knd.is (s.heap.update a (Obj.putSet es1 t2)) p.2 p.1 := by
        intro p hp
        refine S.st.stays (fun b ob vs n g d => ?_) (?_ : knd.is s.heap p.2 p.1)
        · rw [but1.2 b fun z => ?_]
          · exact g
          · rw [z, get] at g
            cases g
            rw [dat] at d
            cases d
        · rcases List.mem_cons.mp (pm.mem_iff.mp hp) with rfl | z
          · exact it
          · exact T.tup p z
      by_cases full : (!false && t2.tooFull) = true
      · rw [if_pos full]
        have full2 : t2.fill * 5 ≥ t2.mask * 3 := by
          simp only [Bool.not_false, Bool.true_and] at full
          unfold SetTable.tooFull at full
          exact of_decide_eq_true full
        rw [fl2, m2] at full2
        have go : ∀ {M : Nat}, SetTable.sizeAbove (SetTable.grown (es.size + 1)) - 1 = M → MaskOk M → SetTable.sizeAbove (SetTable.grown (es.size + 1)) ≤ 128 → L1.length * 5 < M * 3 →
            wpAny (model P w) A (do setRelay a (SetTable.grown (es.size + 1)); pure true) Q E { s with heap := s.heap.update a (Obj.putSet es1 t2) } := by
          intro M g1 g2 g3 g4
          apply wpAny_bind
          refine nrelay (s := { s with heap := s.heap.update a (Obj.putSet es1 t2) }) S get1 ex rfl hp1 ?_ tab2.dm ?_ nd1 tup1 led2 (by omega) g1 g2 g3 g4 fun h' L' es' ep' t' but N pm' => ?_
          · have := tab2.sz
            rw [List.length_map] at this
            omega
          · rw [m2]; omega
          · exact wpAny_pure (q true h' L' es' ep' t' (but1.trans but) N (fun z => absurd z nin) (fun _ => pm'.trans pm))
        have n1 := sz
        rcases T.tab.mok with e | e | e
        · have : L.length = 4 := by rw [e] at full2 rm1; omega
          have e5 : es.size + 1 = 5 := by omega
          rw [e5] at go ⊢
          exact go (M := 31) (by rw [size_20]) (.inr (.inl rfl)) (by rw [size_20]; decide) (by omega)
        · have : L.length = 18 := by rw [e] at full2 rm1; omega
          have e5 : es.size + 1 = 19 := by omega
          rw [e5] at go ⊢
          exact go (M := 127) (by rw [size_76]) (.inr (.inr rfl)) (by rw [size_76]; decide) (by omega)
        · rw [e] at full2
          omega
      · rw [if_neg full]
        have full2 : ¬ t2.fill * 5 ≥ t2.mask * 3 := fun z => full (by
          simp only [Bool.not_false, Bool.true_and]
          unfold SetTable.tooFull
          exact decide_eq_true z)
        rw [fl2] at full2
        exact wpAny_pure (q true _ L1 es1 _ t2 but1 ⟨⟨_, get1, ex, rfl⟩, hp1, tab2, nd1, tup1, led2, by rw [len1]; omega, by omega⟩ (fun z => absurd z nin) (fun _ => pm))
    split
    · apply wpAny_bind
      refine S.byv it fun b => ?_
      cases b with
      | true => exact tail t1 rfl rfl rfl rfl
      | false => exact tail _ rfl rfl rfl rfl
    · apply wpAny_bind
      apply wpAny_pure
      exact tail t1 rfl rfl rfl rfl
end
end Ol

set_option Elab.async false
set_option linter.all false
set_option maxRecDepth 100000
set_option maxHeartbeats 8000000
namespace Ol
open PySem PySem.Spec PyProof.Rows L2
section
variable {P : Program} {w : World} {A : Around} {E : Value → Shared → Prop} {s : Shared}
theorem depth_all {ks : List NestedKey} {n : Nat} (h : NestedKey.depthAll ks ≤ n) : ∀ k ∈ ks, k.depth ≤ n := by
  induction ks with
  | nil => intro k hk; cases hk
  | cons x ks ih =>
    rw [NestedKey.depthAll] at h
    intro k hk
    rcases List.mem_cons.mp hk with rfl | z
    · omega
    · exact ih (by omega) k z
theorem sees_nested : ∀ (n : Nat) (k : NestedKey) (v : Value), NestedIs s.heap k v → k.depth ≤ n → ∀ {Q : Bool → Shared → Prop}, Q false s → wpAny (model P w) A (ofAClassStatement n v) Q E s := by
  intro n
  induction n with
  | zero =>
    intro k v it hd Q q
    cases it with
    | tup _ _ _ _ => rw [NestedKey.depth] at hd; omega
    | _ => rw [ofAClassStatement.eq_def]; exact wpAny_pure q
  | succ n ih =>
    intro k v it hd Q q
    cases it with
    | @tup a o vs c ks get cls dat all =>
      rw [NestedKey.depth] at hd
      have ty : s.TypeIs (.ref a) "tuple" := ⟨o, get, cls⟩
      rw [ofAClassStatement.eq_def]
      dsimp only
      apply wpAny_bind
      apply wpAny_typeOf (T := "tuple") ty
      dsimp only
      rw [if_pos (by decide)]
      apply wpAny_bind
      apply wpAny_pure
      rw [if_neg (by decide)]
      apply wpAny_bind
      apply wpAny_seqItems get dat
      dsimp only
      apply wpAny_bind
      rw [← Array.forIn_toList]
      have dl := depth_all (n := n) (by omega : NestedKey.depthAll ks ≤ n)
      clear ty get cls dat hd
      have loop : ∀ (us : List Value) (ks : List NestedKey), NestedAll s.heap ks us → (∀ k ∈ ks, k.depth ≤ n) → ∀ {R : Option Bool × Unit → Shared → Prop}, R (none, ()) s →
          wpAny (model P w) A (forIn us ((none, ()) : Option Bool × Unit) fun y __s => do
            let __do_lift ← ofAClassStatement n y
            if __do_lift = true then pure (ForInStep.done (some true, ()))
              else pure (ForInStep.yield (none, ()))) R E s := by
        intro us
        induction us with
        | nil => intro ks _ _ R r; rw [List.forIn_nil]; exact wpAny_pure r
        | cons u us ihu =>
          intro ks hk hdl R r
          cases hk with
          | cons h1 h2 =>
            rw [List.forIn_cons]
            apply wpAny_bind
            apply wpAny_bind
            refine ih _ _ h1 (hdl _ (.head _)) ?_
            simp only [Bool.false_eq_true, ↓reduceIte]
            apply wpAny_pure
            dsimp only
            exact ihu _ h2 (fun k hk => hdl k (.tail _ hk)) r
      exact loop _ _ all dl (wpAny_pure q)
    | _ => rw [ofAClassStatement.eq_def]; exact wpAny_pure q
theorem byv_nested : ∀ (n : Nat) (k : NestedKey) (v : Value), NestedIs s.heap k v → ∀ {Q : Bool → Shared → Prop}, (∀ b, Q b s) → wpAny (model P w) A (hashByValue n v) Q E s := by
  intro n
  induction n with
  | zero =>
    intro k v it Q q
    cases it with
    | _ => rw [hashByValue.eq_def]; exact wpAny_pure (q _)
  | succ n ih =>
    intro k v it Q q
    cases it with
    | @tup a o vs c ks get cls dat all =>
      have ty : s.TypeIs (.ref a) "tuple" := ⟨o, get, cls⟩
      rw [hashByValue.eq_def]
      dsimp only
      apply wpAny_bind
      refine wpAny_specialOf (T := "tuple") (r := some (.builtin "tuple.__hash__")) ty (by first | rfl | kernel_rfl) ?_
      apply wpAny_bind (m := seqItems? (Value.ref a))
      apply wpAny_seqItems get dat
      apply wpAny_bind
      rw [← Array.forIn_toList]
      clear ty get cls dat
      have loop : ∀ (us : List Value) (ks : List NestedKey), NestedAll s.heap ks us → ∀ {R : Option Bool × Unit → Shared → Prop}, R (none, ()) s → R (some false, ()) s →
          wpAny (model P w) A (forIn us ((none, ()) : Option Bool × Unit) fun y __s => do
            let __do_lift ← hashByValue n y
            if (!__do_lift) = true then pure (ForInStep.done (some false, ()))
              else pure (ForInStep.yield (none, ()))) R E s := by
        intro us
        induction us with
        | nil => intro ks _ R r _; rw [List.forIn_nil]; exact wpAny_pure r
        | cons u us ihu =>
          intro ks hk R r r2
          cases hk with
          | cons h1 h2 =>
            rw [List.forIn_cons]
            apply wpAny_bind
            apply wpAny_bind
            refine ih _ _ h1 fun b => ?_
            cases b with
            | true =>
              simp only [Bool.not_true, Bool.false_eq_true, ↓reduceIte]
              apply wpAny_pure
              dsimp only
              exact ihu _ h2 r r2
            | false =>
              simp only [Bool.not_false, ↓reduceIte]
              apply wpAny_pure
              dsimp only
              exact wpAny_pure r2
      exact loop _ _ all (wpAny_pure (q _)) (wpAny_pure (q _))
    | _ => rw [hashByValue.eq_def]; exact wpAny_pure (q _)
theorem setK_nested : SetK (nestedKind P w) :=
  ⟨nestedKind_stays, fun it q => sees_nested 8 _ _ it.1 it.2 q, fun it q => byv_nested 8 _ _ it.1 q⟩
end
end Ol

set_option Elab.async false
set_option linter.all false
set_option maxRecDepth 100000
set_option maxHeartbeats 8000000
namespace Ol
open PySem PySem.Spec PyProof.Rows L2
/-- how many different texts there are -/
def many : List Str → Nat
  | [] => 0
  | x :: xs => if x ∈ xs then many xs else many xs + 1
/-- among the first i -/
def firstN (xs : List Str) : Nat → Nat
  | 0 => 0
  | i + 1 => if xs.getD i Str.empty ∈ xs.take i then firstN xs i else firstN xs i + 1
theorem firstN_le (xs : List Str) : ∀ i, firstN xs i ≤ i
  | 0 => Nat.le_refl _
  | i + 1 => by
    have h := firstN_le xs i
    unfold firstN
    split <;> omega
theorem firstN_nodup {xs : List Str} (hd : xs.Nodup) : ∀ i, i ≤ xs.length → firstN xs i = i
  | 0, _ => rfl
  | i + 1, h => by
    unfold firstN
    rw [firstN_nodup hd i (by omega), if_neg]
    intro z
    rw [List.getD_eq_getElem?_getD, List.getElem?_eq_getElem (by omega)] at z
    obtain ⟨j, hj, e⟩ := List.getElem_of_mem z
    rw [List.length_take] at hj
    rw [List.getElem_take] at e
    exact List.pairwise_iff_getElem.mp hd j i (by omega) (by omega) (by omega) e
section
variable {prog : Program} {w : World} {A : Around} {R : Result → Shared → Prop} {I : Addr} {fp wr : List Addr} {G : Array GenState → Array GenState → Prop} {n : Nat} {P : Nat → Value → Prop} {St : Nat → Shared → Prop}
/-- the set T takes the texts that a walk yields, one by one -/
theorem fill (W : WalksS prog w A.in1 I fp wr G n P St) {T : Addr} (hT : T ∉ fp) {xs : List Str} (hn : n + 1 < scanBound) (hv : ∀ i v, P i v → ∃ u, v = .str (xs.getD i Str.empty) u) (hx : xs.length = n) :
    ∀ (m i : Nat) (s : Shared), m + i = n → St i s → s.heap.SetOf (PySem.strKind prog w) T (fun t => decide (t ∈ xs.take i)) (firstN xs i) →
      (∀ s', Moved (T :: wr) G s s' → s'.heap.SetOf (PySem.strKind prog w) T (fun t => decide (t ∈ xs.take n)) (firstN xs n) → R (.ok (.ret .none)) s') →
      codeAny (model prog w) A (.builtin "set.update.loop" ⟨[.ref T, .ref I], []⟩) R s := by
  have nT : T ∉ wr := fun z => hT (W.sub _ z)
  have more : ∀ b ∈ wr, b ∈ T :: wr := fun b z => .tail _ z
  -- what stands at T stays while the walk goes on
  have stay : ∀ {s s' : Shared} {S : Str → Bool} {c : Nat}, Moved wr G s s' → s.heap.SetOf (PySem.strKind prog w) T S c → s'.heap.SetOf (PySem.strKind prog w) T S c :=
    fun mv ⟨o, es, ep, tb, get, r⟩ => ⟨o, es, ep, tb, mv.heap T _ nT get, r⟩
  intro m
  induction m with
  | zero =>
    intro i s e st set go
    obtain rfl : i = n := by omega
    apply codeAny_builtin PyProof.Rows.F.entry_set_update_loop
    rw [Around.under_plainId PyProof.Rows.F.plain_set_update_loop _]
    apply wpAny_bind (m := pyNext (.ref I))
    exact W.done s _ _ st fun s' mv => wpAny_pure (go s' (mv.mono more) (stay mv set))
  | succ m ih =>
    intro i s e st set go
    have lt : i < n := by omega
    apply codeAny_builtin PyProof.Rows.F.entry_set_update_loop
    rw [Around.under_plainId PyProof.Rows.F.plain_set_update_loop _]
    apply wpAny_bind (m := pyNext (.ref I))
    refine W.item i s _ _ lt st fun v s1 pv st1 mv => ?_
    obtain ⟨u, rfl⟩ := hv i v pv
    have set1 := stay mv set
    apply wpAny_bind (m := holding [Value.str (xs.getD i Str.empty) u] (setAdd T (.str (xs.getD i Str.empty) u)))
    apply wpAny_holding
    unfold setAdd
    apply wpAny_holding
    apply wpAny_bind
    apply (PySem.strKind prog w).pyHash (k := xs.getD i Str.empty) (strKind_is _ _ _ _)
    apply wpAny_setAddHashed_of (s := { s1 with toks := s1.toks + 1 }) (knd := PySem.strKind prog w) (strKind_is _ _ _ _) rfl set1 (by have := firstN_le xs i; omega)
    intro h' but set2
    have set3 : h'.SetOf (PySem.strKind prog w) T (fun t => decide (t ∈ xs.take (i + 1))) (firstN xs (i + 1)) := by
      have tk : xs.take (i + 1) = xs.take i ++ [xs.getD i Str.empty] := by
        rw [List.take_add_one, List.getD_eq_getElem?_getD, List.getElem?_eq_getElem (by omega)]
        rfl
      apply SetOf_congr set2
      · intro t
        rw [tk]
        by_cases a : t ∈ xs.take i <;> by_cases b : t = xs.getD i Str.empty <;> simp [a, b]
      · show _ = if _ then _ else _
        by_cases a : xs.getD i Str.empty ∈ xs.take i <;> simp [a]
    apply wpAny_pure
    refine ⟨plainId_quiet PyProof.Rows.F.plain_set_update_loop _, ih (i + 1) _ (by omega) (W.frame _ s1 _ _ st1 (Nat.le_succ _) ?_) set3 ?_⟩
    · intro b hb o get
      have ne : b ≠ T := fun z => hT (z ▸ hb)
      rw [but.2 b ne]
      exact get
    · intro s2 mv2 set4
      refine go s2 (Moved.trans W.gtrans ((mv.mono more).then_heap (Nat.le_succ _) ?_) mv2) set4
      intro b o nb get
      have ne : b ≠ T := fun z => nb (z ▸ .head _)
      rw [but.2 b ne]
      exact get
end
end Ol

set_option Elab.async false
set_option linter.all false
set_option maxRecDepth 100000
set_option maxHeartbeats 16000000
namespace Ol
open PySem PySem.Spec PyProof.Rows L2
/-- an empty set, as it is laid -/
abbrev bare (led : Bool) : Obj := { cls := .type "set", dict := none, data := .set #[] 0 (.fresh 0 0 led) }
theorem texts_at : ∀ {us : List Value} {xs : List Str}, StrsAre us xs → ∀ (i : Nat) (v : Value), us[i]? = some v → ∃ u, v = .str (xs.getD i Str.empty) u
  | _, _, .nil, _, _, h => nomatch h
  | _, _, .cons _ t _, 0, _, h => ⟨t, (Option.some.inj h).symm⟩
  | _, _, .cons _ _ r, i + 1, v, h => texts_at r i v h
section
variable {prog : Program} {w : World} {A : Around} {E : Value → Shared → Prop} {s : Shared}
/-- set(xs), xs a list of texts -/
theorem set_texts {l : Addr} {items : Array Value} {xs : List Str} {Q : Value → Shared → Prop} (calm : A.handled = none) (at_l : s.heap.IsList l items) (txt : StrsAre items.toList xs) (few : xs.length + 1 < scanBound)
    (q : ∀ (h' : Heap) (tk : Nat), h'.SetOf (PySem.strKind prog w) s.heap.objs.size (fun t => decide (t ∈ xs)) (firstN xs xs.length) →
      (∀ b o, b < s.heap.objs.size → s.heap.get? b = some o → h'.get? b = some o) → Q (.ref s.heap.objs.size) { s with heap := h', toks := tk }) :
    wpAny (model prog w) A (call (.type "set") [.ref l]) Q E s := by
  have len : items.size = xs.length := by have := StrsAre.len_eq txt; rw [Array.length_toList] at this; exact this
  obtain ⟨at_o, at_get, at_cls, at_n, at_data⟩ := id at_l
  have l_lt := Heap.lt_size at_get
  have t0 := PySem.F.called_set
  have t1 := t0.made; have t2 := t0.sub; have t3 := t0.notType; have t4 := t0.canCreate; have t5 := PySem.F.typeCall_set_1 (.ref l)
  obtain ⟨m0, m1, t6⟩ := t0.mro
  apply wpAny_call; apply codeAny_of_tree
  change wpAny _ _ (callAny (.type "set") _) _ _ _
  apply wpAny_pure; refine And.intro (Code.quiet_builtin _ (by decide +kernel)) (codeAny_builtin PySem.F.entry_type_call ?_)
  rw [Around.under_plain (weight_type_call_type "set" [.ref l] []) rfl]
  repeat any_goals first | assumption | wp_step
  -- the new set
  apply codeAny_mono (code_set_new_1 (.ref l) (E := E) (Q₁ := fun v s1 => ∃ led : Bool, v = .ref s.heap.objs.size ∧ s1 = { s with heap := s.heap.push (bare led) }) fun led => ⟨led, rfl, rfl⟩)
  intro r s1 made
  rcases r with e | f
  · exact made
  cases f with
  | ret v =>
    obtain ⟨led, rfl, rfl⟩ := made
    have at_S : (s.heap.push (bare led)).get? s.heap.objs.size = some (bare led) := Heap.get?_push_size _ rfl
    have ty_S : Shared.TypeIs { s with heap := s.heap.push (bare led) } (.ref s.heap.objs.size) "set" := ⟨_, at_S, rfl⟩
    have t7 := t0.init.lookup; have t8 := t0.init.bind (.ref s.heap.objs.size)
    repeat any_goals first | assumption | wp_step
    let D : Result → Shared → Prop := wants (fun v s2 => v = .none ∧ ∃ h' tk, s2 = { s with heap := h', toks := tk } ∧ h'.SetOf (PySem.strKind prog w) s.heap.objs.size (fun t => decide (t ∈ xs)) (firstN xs xs.length) ∧
      ∀ b o, b < s.heap.objs.size → s.heap.get? b = some o → h'.get? b = some o) E
    apply codeAny_mono (codeAny_call_builtin (R := D) t0.init.plain PySem.F.entry_set_init (check_set_init_1 ty_S ?fills))
    case fills =>
      rcases at_o with ⟨oc, od, dt, sl⟩
      cases at_cls; cases at_data
      have get2 : (s.heap.push (bare led)).get? l = some { cls := .type "list", dict := od, data := .seq items at_n, slots := sl } := Heap.get?_push_of_some _ at_get
      have lst2 : (s.heap.push (bare led)).IsList l items := ⟨_, get2, rfl, at_n, rfl⟩
      have n1 := PySem.F.sub_list_set; have n2 := PySem.F.sub_list_frozenset
      have n3 : (Value.type "list" == Value.type "dict") = false := by decide
      unfold Builtin.«set.__init__» noKeywords Builtin.Frozenset.updateFrom
      generalize asks : pyIter = PI
      wp_walk
      subst asks
      apply wpAny_pyIter_list lst2
      apply wpAny_bind; apply wpAny_runValue
      have calm3 : A.in1.in1.in1.handled = none := by simp [calm]
      have grown : (s.heap.push (bare led)).objs.size = s.heap.objs.size + 1 := Heap.size_push ..
      have ne_l : l ≠ (s.heap.push (bare led)).objs.size := Nat.ne_of_lt (grown ▸ Nat.lt_succ_of_lt l_lt)
      have out : s.heap.objs.size ∉ [(s.heap.push (bare led)).objs.size, l] := fun z => by
        rw [grown] at z
        rcases List.mem_cons.mp z with z | z
        · exact Nat.ne_of_lt (Nat.lt_succ_self _) z
        · exact Nat.ne_of_gt l_lt (List.mem_singleton.mp z)
      refine fill ((Walks.list calm3 _ l ne_l items).toS) out (xs := xs) (by omega) (fun i v z => texts_at txt i v (by rw [Array.getElem?_toList]; exact z)) len.symm items.size 0 _ (by omega) ⟨⟨_, Heap.get?_push_size _ rfl, rfl, rfl⟩, lst2.push _⟩ ?start ?stop
      case start =>
        have fresh := setObjOf_fresh (knd := PySem.strKind prog w) led
        exact SetOf_congr (fresh.setOf (Heap.get?_push_of_some _ at_S) (by decide)) (fun t => by simp) rfl
      case stop =>
        rintro ⟨h', gens, drawn, toks, os⟩ mv set
        cases (show gens = s.gens from mv.gens)
        cases (show drawn = s.drawn from mv.drawn)
        cases (show os = s.os from mv.os)
        refine wpAny_pure (wpAny_pure ⟨rfl, h', toks, rfl, ?_, ?_⟩)
        · rw [len, List.take_length] at set
          exact set
        · intro b o lt get
          apply mv.heap b o
          · intro z
            rw [grown] at z
            rcases List.mem_cons.mp z with z | z
            · exact Nat.ne_of_lt lt z
            · exact Nat.ne_of_lt (Nat.lt_succ_of_lt lt) (List.mem_singleton.mp z)
          · exact Heap.get?_push_of_some _ (Heap.get?_push_of_some _ get)
    intro r2 s2 filled
    rcases r2 with e | f2
    · exact filled
    cases f2 with
    | ret v2 =>
      obtain ⟨rfl, h', tk, rfl, set, keep⟩ := filled
      repeat any_goals first | assumption | wp_step
      exact q _ _ set keep
    | _ => exact filled.elim
  | _ => exact made.elim
end
end Ol

set_option Elab.async false
set_option linter.all false
set_option maxRecDepth 100000
set_option maxHeartbeats 4000000
namespace Ol
open PySem PySem.Spec PyProof.Rows L2
/-- len(set(xs)), xs a list of texts: how many different ones -/
def tLenT (K : PySem.W.Frag) (ta : TE) : TE := fun σ H Q => ta σ H fun x H1 => ∃ (l : Addr) (xs : List Str), x = .ref l ∧ SqL K H1 l (xs.map V.str) ∧ xs.length ≤ 1000 ∧ Q (.int (firstN xs xs.length)) H1
theorem texts_of : ∀ {xs : List Str} {us : List Value}, Vals (xs.map V.str) us → StrsAre us xs
  | [], _, .nil => .nil
  | x :: xs, _, .cons r t => by
    obtain ⟨u, rfl⟩ := r
    exact .cons x u (texts_of t)
theorem pe_lenT {X : Cx} {a : Expr} {ta : TE} {p p2 q pos : Pos} (calm : X.calm = true) (gl : Gl X "len") (ml : X.mg "len" = none) (gs : Gl X "set") (ms : X.mg "set" = none) (pa : PE X a ta)
    (st : starEach [a] X.env = (false, eval a X.env) :: starEach [] X.env := by rfl) : PE X (.Call (.Name "len" p) [.Call (.Name "set" p2) [a] [] q] [] pos) (tLenT X.K ta) := by
  constructor
  intro pins s σ H Q I h
  refine Call_ (ld_blt I gl ml boot_len (callWith_builtin1 (args_cons ?_ rfl) rfl rfl))
  refine Call_ (ld_blt I gs ms boot_set (callWith_type1 (args_cons (thn (pa.run pins s σ H _ I h) ?_) st) st rfl))
  rintro v s1 ⟨x, H1, I1, rx, l, xs, rfl, sq, few, fin⟩
  refine args_nil ?_
  cases rx
  obtain ⟨its, vals, place, _⟩ := I1.list sq
  refine set_texts (I1.ok.hd calm) place.isList (texts_of vals) (Nat.lt_of_le_of_lt (Nat.succ_le_succ few) (by decide)) fun h' tk set keep => ?_
  refine args_nil ?_
  obtain ⟨o, es, ep, tb, get, exact_, data, _, _, _, fits, cnt⟩ := set
  have I2 : Inv X pins σ H1 { s1 with heap := h', toks := tk } := I1.kept fun b o e => keep b o (Heap.lt_size e) e
  have small : (es.size : Int) < 2 ^ 63 := by
    have := firstN_le xs xs.length
    omega
  exact call_len_set get exact_ data fits small ⟨.int (firstN xs xs.length), H1, I2.tok _, ⟨_, by rw [cnt]⟩, fin⟩
/-- a class held by a name of the def: cls(..) -/
def tMakeL (i : Nat) (C : Addr) (sp : Sp) (E : XK) (t : TA) : TE := fun σ H Q => σ[i]? = some (some (.ref C)) ∧ tMake C sp [] E t σ H Q
theorem pe_makeL {X : Cx} {CX : CXT} {k i : Nat} {f C : Addr} {fd : FuncData} {ps : List Str} {sp : Sp} {E : XK} {x : Str} {p pos : Pos} {e : Expr} {es : List Expr} {t : TA} (M : Mk X.K C f) (F : FnOk X.prog X.w X.K X.mg X.base CX k f fd ps sp) (hr : Room (k + 1) X.A)
    (hN : X.N[i]? = some x) (hv : Vis X.env.scope x) (hb : Binds X.K fd ps []) (hx : Passes CX X E) (ha : PA X (e :: es) t)
    (hdb : (x == ("__debug__" : Str)) = false := by decide) (hcd : (x == ("__classdict__" : Str)) = false := by decide)
    (st : starEach (e :: es) X.env = (false, eval e X.env) :: starEach es X.env := by rfl) (sn : (backTo pos (starEach es X.env)).any (·.1) = false := by rfl) : PE X (.Call (.Name x p) (e :: es) [] pos) (tMakeL i C sp E t) := by
  constructor
  rintro pins s σ H Q I ⟨at_i, h⟩
  refine wpAny_Call_Name_kw (thn ((pe_var (pos := p) hN hv hdb hcd).run pins s σ H (fun v H1 => v = .ref C ∧ H1 = H) I ⟨_, at_i, rfl, rfl⟩) ?_)
  rintro u s1 ⟨v, H1, I1, rv, rfl, rfl⟩
  cases rv
  refine PySem.W.callWith_K (h₀ := X.base) I.ok.mod.kin M.kp (thn (ha.run pos pins s1 σ _ _ I1 h) ?_) st sn
  rintro us s2 ⟨vs, H2, I2, r, q⟩
  exact ⟨I2.kIn, run_make M F hr hb .nil hx I2 r q⟩
end Ol

set_option Elab.async false
set_option linter.all false
set_option maxRecDepth 100000
set_option maxHeartbeats 16000000
namespace Ol
open PySem PySem.Spec PyProof.Rows L2
section
variable {prog : Program} {w : World} {A : Around} {E : Value → Shared → Prop} {s : Shared}
/-- set(xs), xs a tuple of texts -/
theorem set_textsT {l : Addr} {items : Array Value} {xs : List Str} {Q : Value → Shared → Prop} (calm : A.handled = none) (at_l : s.heap.IsTuple l items) (txt : StrsAre items.toList xs) (few : xs.length + 1 < scanBound)
    (q : ∀ (h' : Heap) (tk : Nat), h'.SetOf (PySem.strKind prog w) s.heap.objs.size (fun t => decide (t ∈ xs)) (firstN xs xs.length) →
      (∀ b o, b < s.heap.objs.size →
        s.heap.get? b = some o → h'.get? b = some o) →
      Q (.ref s.heap.objs.size) { s with heap := h', toks := tk }) :
    wpAny (model prog w) A (call (.type "set")
      [.ref l]) Q E s := by
  have len : items.size = xs.length := by have := StrsAre.len_eq txt; rw [Array.length_toList] at this; exact this
  obtain ⟨at_o, at_get, at_cls, at_n, at_data⟩ := id at_l
  have l_lt := Heap.lt_size at_get
  have t0 := PySem.F.called_set
  have t1 := t0.made; have t2 := t0.sub; have t3 := t0.notType; have t4 := t0.canCreate; have t5 := PySem.F.typeCall_set_1 (.ref l)
  obtain ⟨m0, m1, t6⟩ := t0.mro
  apply wpAny_call; apply codeAny_of_tree
  change wpAny _ _ (callAny (.type "set") _) _ _ _
  apply wpAny_pure; refine And.intro (Code.quiet_builtin _ (by decide +kernel)) (codeAny_builtin PySem.F.entry_type_call ?_)
  rw [Around.under_plain
    (weight_type_call_type "set" [.ref l] []) rfl]
  repeat any_goals first | assumption | wp_step
  -- the new set
  apply codeAny_mono (code_set_new_1 (.ref l) (E := E) (Q₁ := fun v s1 => ∃ led : Bool, v = .ref s.heap.objs.size ∧ s1 = { s with heap := s.heap.push (bare led) }) fun led => ⟨led, rfl, rfl⟩)
  intro r s1 made
  rcases r with e | f
  · exact made
  cases f with
  | ret v =>
    obtain ⟨led, rfl, rfl⟩ := made
    have at_S : (s.heap.push (bare led)).get? s.heap.objs.size = some (bare led) := Heap.get?_push_size _ rfl
    have ty_S : Shared.TypeIs { s with heap := s.heap.push (bare led) } (.ref s.heap.objs.size) "set" := ⟨_, at_S, rfl⟩
    have t7 := t0.init.lookup; have t8 := t0.init.bind (.ref s.heap.objs.size)
    repeat any_goals first | assumption | wp_step
    let D : Result → Shared → Prop := wants (fun v s2 => v = .none ∧ ∃ h' tk, s2 = { s with heap := h', toks := tk } ∧ h'.SetOf (PySem.strKind prog w) s.heap.objs.size (fun t => decide (t ∈ xs)) (firstN xs xs.length) ∧
      ∀ b o, b < s.heap.objs.size → s.heap.get? b = some o → h'.get? b = some o) E
    apply codeAny_mono (codeAny_call_builtin (R := D) t0.init.plain PySem.F.entry_set_init (check_set_init_1 ty_S ?fills))
    case fills =>
      rcases at_o with ⟨oc, od, dt, sl⟩
      cases at_cls; cases at_data
      have get2 : (s.heap.push (bare led)).get? l = some { cls := .type "tuple", dict := od, data := .seq items at_n, slots := sl } := Heap.get?_push_of_some _ at_get
      have lst2 : (s.heap.push (bare led)).IsTuple l items := ⟨_, get2, rfl, at_n, rfl⟩
      have n1 := PySem.F.sub_tuple_set; have n2 := PySem.F.sub_tuple_frozenset
      have n3 : (Value.type "tuple" == Value.type "dict") = false := by decide
      unfold Builtin.«set.__init__»
      unfold noKeywords Builtin.Frozenset.updateFrom
      generalize asks : pyIter = PI
      wp_walk
      subst asks
      apply wpAny_pyIter_tuple lst2
      apply wpAny_bind; apply wpAny_runValue
      have calm3 : A.in1.in1.in1.handled = none := by simp [calm]
      have grown : (s.heap.push (bare led)).objs.size = s.heap.objs.size + 1 := Heap.size_push ..
      have ne_l : l ≠ (s.heap.push (bare led)).objs.size := Nat.ne_of_lt (grown ▸ Nat.lt_succ_of_lt l_lt)
      have out : s.heap.objs.size ∉ [(s.heap.push (bare led)).objs.size, l] := fun z => by
        rw [grown] at z
        rcases List.mem_cons.mp z with z | z
        · exact Nat.ne_of_lt (Nat.lt_succ_self _) z
        · exact Nat.ne_of_gt l_lt (List.mem_singleton.mp z)
      refine fill ((Walks.tuple calm3 _ l ne_l items).toS) out (xs := xs) (by omega) (fun i v z => texts_at txt i v (by rw [Array.getElem?_toList]; exact z)) len.symm items.size 0 _ (by omega) ⟨⟨_, Heap.get?_push_size _ rfl, rfl, rfl⟩, lst2.push _⟩ ?start ?stop
      case start =>
        have fresh := setObjOf_fresh (knd := PySem.strKind prog w) led
        exact SetOf_congr (fresh.setOf (Heap.get?_push_of_some _ at_S) (by decide)) (fun t => by simp) rfl
      case stop =>
        rintro ⟨h', gens, drawn, toks, os⟩ mv set
        cases (show gens = s.gens from mv.gens)
        cases (show drawn = s.drawn from mv.drawn)
        cases (show os = s.os from mv.os)
        refine wpAny_pure (wpAny_pure ⟨rfl, h', toks, rfl, ?_, ?_⟩)
        · rw [len, List.take_length] at set
          exact set
        · intro b o lt get
          apply mv.heap b o
          · intro z
            rw [grown] at z
            rcases List.mem_cons.mp z with z | z
            · exact Nat.ne_of_lt lt z
            · exact Nat.ne_of_lt (Nat.lt_succ_of_lt lt) (List.mem_singleton.mp z)
          · exact Heap.get?_push_of_some _ (Heap.get?_push_of_some _ get)
    intro r2 s2 filled
    rcases r2 with e | f2
    · exact filled
    cases f2 with
    | ret v2 =>
      obtain ⟨rfl, h', tk, rfl, set, keep⟩ := filled
      repeat any_goals first | assumption | wp_step
      exact q _ _ set keep
    | _ => exact filled.elim
  | _ => exact made.elim
end
end Ol

set_option Elab.async false
set_option linter.all false
set_option maxRecDepth 100000
set_option maxHeartbeats 16000000
namespace Ol
open PySem PySem.Spec PyProof.Rows L2
theorem free_size (h : Heap) : h.get? h.objs.size = none := by
  cases e : h.get? h.objs.size with
  | none => rfl
  | some o => exact absurd (Heap.lt_size e) (Nat.lt_irrefl _)
/-- what of the first i is in the set -/
structure NGot {α : Type} (ks : List (Addr × α)) (i : Nat) (L : List (Addr × α)) : Prop where
  sub : ∀ p ∈ L, p ∈ ks.take i
  all : ∀ p ∈ ks.take i, p.2 ∈ L.map (·.2)
  len : L.length ≤ i
section
variable {P : Program} {w : World} {α : Type} [DecidableEq α] {knd : HeapKind P w α} {A : Around} {R : Result → Shared → Prop} {I : Addr} {fp wr : List Addr} {G : Array GenState → Array GenState → Prop} {n : Nat} {Pv : Nat → Value → Prop} {St : Nat → Shared → Prop}
/-- the set T takes the tuples that a walk yields -/
theorem fillN (S : SetK knd) (W : WalksS P w A.in1 I fp wr G n Pv St) {T : Addr} (off : T ∉ fp) (ks : List (Addr × α)) (len : n = ks.length) (few : ks.length < 64) (val : ∀ i v, Pv i v → ∃ p, ks[i]? = some p ∧ v = .ref p.1)
    (h0 : Heap) (tup : ∀ p ∈ ks, knd.is h0 p.2 p.1) (n0 : h0.get? T = none) (nw : ∀ b ∈ wr, h0.get? b = none) (rm : knd.room A.in1) :
    ∀ (m i : Nat) (s : Shared), m + i = n → St i s → (∀ b o, h0.get? b = some o → s.heap.get? b = some o) → (∃ L es ep t, NSet knd s.heap T L es ep t ∧ NGot ks i L) →
      (∀ s2 L es ep t, Moved (T :: wr) G s s2 → NSet knd s2.heap T L es ep t → NGot ks n L → (∀ b o, h0.get? b = some o → s2.heap.get? b = some o) → R (.ok (.ret .none)) s2) →
      codeAny (model P w) A (.builtin "set.update.loop" ⟨[.ref T, .ref I], []⟩) R s := by
  have off2 : T ∉ wr := fun z => off (W.sub _ z)
  have more : ∀ b ∈ wr, b ∈ T :: wr := fun b z => .tail _ z
  have kept : ∀ {s1 s2 : Shared}, Moved wr G s1 s2 → (∀ b o, h0.get? b = some o → s1.heap.get? b = some o) → ∀ b o, h0.get? b = some o → s2.heap.get? b = some o :=
    fun mv k b o g => mv.heap b o (fun z => by rw [nw b z] at g; cases g) (k b o g)
  have stay : ∀ {s1 s2 : Shared} {L es ep t}, Moved wr G s1 s2 → (∀ b o, h0.get? b = some o → s2.heap.get? b = some o) → (∀ p ∈ L, p ∈ ks) → NSet knd s1.heap T L es ep t → NSet knd s2.heap T L es ep t := by
    intro s1 s2 L es ep t mv k2 sub N
    obtain ⟨o, get, ex, dat⟩ := N.ob
    exact ⟨⟨o, mv.heap T o off2 get, ex, dat⟩, N.rows, N.tab, N.nd, fun p hp => S.st.stays (fun b o _ _ g _ => k2 b o g) (tup p (sub p hp)), N.led, N.room, N.few⟩
  have insub : ∀ {i : Nat} {L : List (Addr × α)}, NGot ks i L → ∀ p ∈ L, p ∈ ks := fun g p hp => List.mem_of_mem_take (g.sub p hp)
  intro m
  induction m with
  | zero =>
    intro i s e st k0 set go
    obtain rfl : i = n := by omega
    obtain ⟨L, es, ep, t, N, gt⟩ := set
    apply codeAny_builtin PyProof.Rows.F.entry_set_update_loop
    rw [Around.under_plainId PyProof.Rows.F.plain_set_update_loop _]
    apply wpAny_bind (m := pyNext (.ref I))
    apply W.done s _ _ st
    intro s2 mv
    exact wpAny_pure (go s2 L es ep t (mv.mono more) (stay mv (kept mv k0) (insub gt) N) gt (kept mv k0))
  | succ m ih =>
    intro i s e st k0 set go
    have lt : i < n := by omega
    obtain ⟨L, es, ep, t, N, gt⟩ := set
    apply codeAny_builtin PyProof.Rows.F.entry_set_update_loop
    rw [Around.under_plainId PyProof.Rows.F.plain_set_update_loop _]
    apply wpAny_bind (m := pyNext (.ref I))
    apply W.item i s _ _ lt st
    intro v s1 pv st1 mv
    obtain ⟨⟨x, k⟩, hp, rfl⟩ := val i v pv
    have hmem : (x, k) ∈ ks := List.mem_of_getElem? hp
    have k1 := kept mv k0
    have N1 := stay mv k1 (insub gt) N
    have it1 : knd.is s1.heap k x := S.st.stays (fun b o _ _ g _ => k1 b o g) (tup _ hmem)
    apply wpAny_bind (m := holding [Value.ref x] (setAdd T (.ref x)))
    apply wpAny_holding
    unfold setAdd
    apply wpAny_holding
    apply wpAny_bind
    apply knd.pyHash rm it1
    refine nadd_at (s := { s1 with toks := s1.toks + knd.draws k }) S N1 it1 rm (by have := gt.len; omega) fun b h2 L2 es2 ep2 t2 but N2 same new => ?_
    have tk : ks.take (i + 1) = ks.take i ++ [(x, k)] := take_next hp
    have gt2 : NGot ks (i + 1) L2 := by
      by_cases c : k ∈ L.map (·.2)
      · rw [same c]
        refine ⟨fun p hp => by rw [tk]; exact List.mem_append_left _ (gt.sub p hp), fun p hp => ?_, by have := gt.len; omega⟩
        rw [tk] at hp
        rcases List.mem_append.mp hp with z | z
        · exact gt.all p z
        · rw [List.mem_singleton.mp z]; exact c
      · have pm := new c
        refine ⟨fun p hp => ?_, fun p hp => ?_, by rw [pm.length_eq, List.length_cons]; have := gt.len; omega⟩
        · rw [tk]
          rcases List.mem_cons.mp (pm.mem_iff.mp hp) with rfl | z
          · exact List.mem_append_right _ (List.mem_singleton.mpr rfl)
          · exact List.mem_append_left _ (gt.sub p z)
        · rw [tk] at hp
          refine (pm.map (·.2)).mem_iff.mpr ?_
          rcases List.mem_append.mp hp with z | z
          · exact List.mem_cons_of_mem _ (gt.all p z)
          · rw [List.mem_singleton.mp z]; exact List.mem_cons_self
    have k2 : ∀ b o, h0.get? b = some o → h2.get? b = some o := fun b o g => by
      rw [but.2 b fun z => by rw [z, n0] at g; cases g]
      exact k1 b o g
    apply wpAny_pure
    refine ⟨plainId_quiet PyProof.Rows.F.plain_set_update_loop _, ih (i + 1) _ (by omega) (W.frame _ s1 _ _ st1 (Nat.le_add_right _ _) ?_) k2 ⟨L2, es2, ep2, t2, N2, gt2⟩ ?_⟩
    · intro b mb o get
      rw [but.2 b fun z => off (z ▸ mb)]
      exact get
    · intro s2 L3 es3 ep3 t3 mv2 N3 gt3 k3
      refine go s2 L3 es3 ep3 t3 (Moved.trans W.gtrans ((mv.mono more).then_heap (Nat.le_add_right _ _) ?_) mv2) N3 gt3 k3
      intro b o nb get
      rw [but.2 b fun z => nb (z ▸ .head _)]
      exact get
end
section
variable {P : Program} {w : World} {α : Type} [DecidableEq α] {knd : HeapKind P w α} {A : Around} {E : Value → Shared → Prop} {s : Shared}
theorem nset_bare {h : Heap} {a : Addr} (get : h.get? a = some (bareO (!w.params.followText "set-order"))) : NSet knd h a [] #[] 0 (.fresh 0 0 (!w.params.followText "set-order")) := by
  have z := setTR_fresh (P := P) (w := w) get
  obtain ⟨ob, rows, tab, nd, tup, plain, led, room, few⟩ := z
  exact ⟨ob, rfl, tab, List.nodup_nil, fun _ z => (nomatch z), led, room, few⟩
/-- set(t), t a tuple of such tuples -/
theorem set_tuplesT (S : SetK knd) {l : Addr} {items : Array Value} (ks : List (Addr × α)) {Q : Value → Shared → Prop} (calm : A.handled = none) (at_l : s.heap.IsTuple l items) (its : items.toList = ks.map fun p => Value.ref p.1)
    (tup : ∀ p ∈ ks, knd.is s.heap p.2 p.1) (few : ks.length < 64) (rm : ∀ B : Around, B.units ≤ A.units + 6 → knd.room B)
    (q : ∀ (h' : Heap) (tk : Nat) (L : List (Addr × α)) (es : Array (Int × Value)) (ep : Nat) (t : SetTable), NSet knd h' s.heap.objs.size L es ep t → NGot ks ks.length L →
      (∀ b o, s.heap.get? b = some o → h'.get? b = some o) → Q (.ref s.heap.objs.size) { s with heap := h', toks := tk }) :
    wpAny (model P w) A (call (.type "set") [.ref l]) Q E s := by
  have len : items.size = ks.length := by rw [← Array.length_toList, its, List.length_map]
  obtain ⟨at_o, at_get, at_cls, at_n, at_data⟩ := id at_l
  have l_lt := Heap.lt_size at_get
  have t0 := PySem.F.called_set
  have t1 := t0.made; have t2 := t0.sub; have t3 := t0.notType; have t4 := t0.canCreate; have t5 := PySem.F.typeCall_set_1 (.ref l)
  obtain ⟨m0, m1, t6⟩ := t0.mro
  apply wpAny_call; apply codeAny_of_tree
  change wpAny _ _ (callAny (.type "set") _) _ _ _
  apply wpAny_pure; refine And.intro (Code.quiet_builtin _ (by decide +kernel)) (codeAny_builtin PySem.F.entry_type_call ?_)
  rw [Around.under_plain (weight_type_call_type "set" [.ref l] []) rfl]
  repeat any_goals first | assumption | wp_step
  -- the new set
  apply codeAny_mono (new_led (.ref l) (E := E) (Q := fun v s1 => v = .ref s.heap.objs.size ∧ s1 = { s with heap := s.heap.push (bareO (!w.params.followText "set-order")) }) ⟨rfl, rfl⟩)
  intro r s1 made
  rcases r with e | f
  · exact made
  cases f with
  | ret v =>
    obtain ⟨rfl, rfl⟩ := made
    have at_S : (s.heap.push (bareO (!w.params.followText "set-order"))).get? s.heap.objs.size = some (bareO (!w.params.followText "set-order")) := Heap.get?_push_size _ rfl
    have ty_S : Shared.TypeIs { s with heap := s.heap.push (bareO (!w.params.followText "set-order")) } (.ref s.heap.objs.size) "set" := ⟨_, at_S, rfl⟩
    have t7 := t0.init.lookup; have t8 := t0.init.bind (.ref s.heap.objs.size)
    repeat any_goals first | assumption | wp_step
    let D : Result → Shared → Prop := wants (fun v s2 => v = .none ∧ ∃ h' tk L es ep t, s2 = { s with heap := h', toks := tk } ∧ NSet knd h' s.heap.objs.size L es ep t ∧ NGot ks ks.length L ∧
      ∀ b o, s.heap.get? b = some o → h'.get? b = some o) E
    apply codeAny_mono (codeAny_call_builtin (R := D) t0.init.plain PySem.F.entry_set_init (check_set_init_1 ty_S ?fills))
    case fills =>
      rcases at_o with ⟨oc, od, dt, sl⟩
      cases at_cls; cases at_data
      have get2 : (s.heap.push (bareO (!w.params.followText "set-order"))).get? l = some { cls := .type "tuple", dict := od, data := .seq items at_n, slots := sl } := Heap.get?_push_of_some _ at_get
      have lst2 : (s.heap.push (bareO (!w.params.followText "set-order"))).IsTuple l items := ⟨_, get2, rfl, at_n, rfl⟩
      have n1 := PySem.F.sub_tuple_set; have n2 := PySem.F.sub_tuple_frozenset
      have n3 : (Value.type "tuple" == Value.type "dict") = false := by decide
      unfold Builtin.«set.__init__»
      unfold noKeywords Builtin.Frozenset.updateFrom
      generalize asks : pyIter = PI
      wp_walk
      subst asks
      apply wpAny_pyIter_tuple lst2
      apply wpAny_bind; apply wpAny_runValue
      have calm3 : A.in1.in1.in1.handled = none := by simp [calm]
      have grown : (s.heap.push (bareO (!w.params.followText "set-order"))).objs.size = s.heap.objs.size + 1 := Heap.size_push ..
      have ne_l : l ≠ (s.heap.push (bareO (!w.params.followText "set-order"))).objs.size := Nat.ne_of_lt (grown ▸ Nat.lt_succ_of_lt l_lt)
      have out : s.heap.objs.size ∉ [(s.heap.push (bareO (!w.params.followText "set-order"))).objs.size, l] := fun z => by
        rw [grown] at z
        rcases List.mem_cons.mp z with z | z
        · exact Nat.ne_of_lt (Nat.lt_succ_self _) z
        · exact Nat.ne_of_gt l_lt (List.mem_singleton.mp z)
      refine fillN S ((Walks.tuple calm3 _ l ne_l items).toS) out ks len few (fun i v z => ?val) s.heap tup (free_size _) (fun b hb => ?nw) (rm _ ?rm) items.size 0 _ (by omega) ⟨⟨_, Heap.get?_push_size _ rfl, rfl, rfl⟩, lst2.push _⟩ ?keep ?start ?stop
      case start =>
        exact ⟨[], #[], 0, _, nset_bare (Heap.get?_push_of_some _ at_S), ⟨fun _ z => (nomatch z), fun p z => by simp at z, Nat.le_refl _⟩⟩
      case stop =>
        rintro ⟨h', gens, drawn, toks, os⟩ L es ep t mv N gt k
        cases (show gens = s.gens from mv.gens)
        cases (show drawn = s.drawn from mv.drawn)
        cases (show os = s.os from mv.os)
        exact wpAny_pure (wpAny_pure ⟨rfl, h', toks, L, es, ep, t, rfl, N, len ▸ gt, k⟩)
      case val =>
        have z2 : items.toList[i]? = some v := by rw [Array.getElem?_toList]; exact z
        rw [its, List.getElem?_map] at z2
        cases e : ks[i]? with
        | none => rw [e] at z2; cases z2
        | some p => rw [e] at z2; cases z2; exact ⟨p, rfl, rfl⟩
      case nw =>
        have hb' := List.mem_singleton.mp hb
        rw [hb', grown]
        cases e : s.heap.get? (s.heap.objs.size + 1) with
        | none => rfl
        | some o => exact absurd (Heap.lt_size e) (Nat.not_lt.mpr (Nat.le_succ _))
      case rm =>
        show A.units + 1 + 1 + 1 ≤ A.units + 6
        omega
      case keep =>
        intro b o g
        exact Heap.get?_push_of_some _ (Heap.get?_push_of_some _ g)
    intro r2 s2 filled
    rcases r2 with e | f2
    · exact filled
    cases f2 with
    | ret v2 =>
      obtain ⟨rfl, h', tk, L, es, ep, t, rfl, N, gt, keep⟩ := filled
      repeat any_goals first | assumption | wp_step
      exact q _ _ L es ep t N gt keep
    | _ => exact filled.elim
  | _ => exact made.elim
end
end Ol

set_option Elab.async false
set_option linter.all false
set_option maxRecDepth 100000
set_option maxHeartbeats 8000000
namespace Ol
open PySem PySem.Spec PyProof.Rows L2
theorem texts_from_vals {prog : Program} {w : World} : ∀ {vs : List Value}, (∀ v ∈ vs, ∃ x u, v = Value.str x u) → StrsAre vs (vs.map fun v => txOf (0, v))
  | [], _ => .nil
  | v :: vs, h => by
    obtain ⟨x, u, rfl⟩ := h v (.head _)
    exact .cons x u (texts_from_vals (prog := prog) (w := w) fun v2 m => h v2 (.tail _ m))
section
variable {prog : Program} {w : World} {A : Around} {E : Value → Shared → Prop} {s : Shared} {a : Addr} {S : Str → Bool} {n : Nat}
/-- sorted(s) of a set of texts -/
theorem sorted_walked {Q : Value → Shared → Prop} (T : TSet prog w s.heap a S n) (calm : A.handled = none) (few : n < 64)
    (q : ∀ (s2 : Shared) (p : Addr) (out : List Value) (c : Nat) (ys : List Str), (∀ b o, s.heap.get? b = some o → s2.heap.get? b = some o) → s2.gens = s.gens → s2.os = s.os → s.heap.objs.size ≤ p →
      s2.heap.get? p = some (seqObj "list" out.toArray c) → StrsAre out ys → sortedS ys = true → ys.Nodup → (∀ x, x ∈ ys ↔ S x = true) → ys.length = n → Q (.ref p) s2) :
    wpAny (model prog w) A (call (.builtin "sorted") [.ref a]) Q E s := by
  obtain ⟨o, es, ep, t, get, ex, dat, M, TT⟩ := T
  apply Calls.call_function_entry kind_sorted plain_sorted entry_sorted (args_sorted1 _)
  unfold Builtin.«sorted»
  apply wpAny_bind (m := checkCount "sorted" 1 1 _)
  apply wpAny_pure
  apply wpAny_bind
  apply collect_set (A := A.in1) calm ⟨o, get, ex.1, dat⟩ TT.fits M.few TT.ris TT.led
  intro s1 vs keep grow gens os pm
  have lv : vs.length = n := by
    rw [pm.length_eq, List.length_map, Array.length_toList]
    exact M.cnt
  have txt : StrsAre vs (vs.map fun v => txOf (0, v)) := texts_from_vals (prog := prog) (w := w) fun v mv => by
    obtain ⟨e, me, rfl⟩ := List.mem_map.mp (pm.mem_iff.mp mv)
    obtain ⟨x, u, eq, _⟩ := M.tx e me
    exact ⟨x, u, eq⟩
  have pk : (vs.map fun v => txOf (0, v)).Perm (es.toList.map txOf) := by
    have z := pm.map fun v => txOf (0, v)
    rw [List.map_map] at z
    exact z
  apply wpAny_bind
  apply wpAny_newList ?_ (by rw [lv, sizeLine_eq]; omega)
  have at_L : (s1.heap.push (seqObj "list" vs.toArray 0)).get? s1.heap.objs.size = some (seqObj "list" vs.toArray 0) := Heap.get?_push_size _ rfl
  refine wpAny_bind (wpAny_holding (wpAny_call_entry slot_list_sort ⟨_, at_L, rfl⟩ entry_list_sort (list_sort_treeK strKind_oneLt at_L txt.keysOf (fun v1 v2 rest e => keyKind_strs (by rw [← e]; exact txt)) (by rw [lv]; exact few) fun st perm so => ?_) (args_list_sort _)))
  obtain ⟨ys, txt2, pm2, so2⟩ := sorted_out_str txt perm so
  obtain ⟨c, got⟩ := sortedHeap_at (vs := vs) (out := (arrOf st).map (·.2)) at_L
  have pn := pm2.trans pk
  refine ⟨.none, rfl, wpAny_pure ⟨_, rfl, q _ s1.heap.objs.size ((arrOf st).map (·.2)).toList c ys (fun b o2 get2 => ?_) gens os grow (by rw [Array.toArray_toList]; exact got) txt2 so2 (pn.nodup_iff.mpr M.once) (fun x => by rw [pn.mem_iff, ← M.mem x]) ?_⟩⟩
  · have z := keep b o2 get2
    have lt := Heap.lt_size z
    show (sortedHeap (s1.heap.push (seqObj "list" vs.toArray 0)) s1.heap.objs.size vs _).get? b = some o2
    rw [sortedHeap_old (Nat.ne_of_lt lt) (by rw [size_push']; exact Nat.lt_succ_of_lt lt)]
    exact Heap.get?_push_of_some _ z
  · rw [pn.length_eq, List.length_map, Array.length_toList]
    exact M.cnt
end
/-- sorted(set(xs)), xs a list of texts: the different ones, ascending -/
def tSortT (K : PySem.W.Frag) (ta : TE) : TE := fun σ H Q => ta σ H fun x H1 => ∃ (l : Addr) (xs : List Str), x = .ref l ∧ SqL K H1 l (xs.map V.str) ∧ xs.length < 64 ∧
  ∀ (p : Addr) (ys : List Str), H1 p = none → sortedS ys = true → ys.Nodup → (∀ z, z ∈ ys ↔ z ∈ xs) → Q (.ref p) (upd H1 p (.lst (ys.map V.str)))
theorem pe_sortT {X : Cx} {a : Expr} {ta : TE} {p p2 q pos : Pos} (calm : X.calm = true) (gl : Gl X "sorted") (ml : X.mg "sorted" = none) (gs : Gl X "set") (ms : X.mg "set" = none) (pa : PE X a ta)
    (st : starEach [a] X.env = (false, eval a X.env) :: starEach [] X.env := by rfl) : PE X (.Call (.Name "sorted" p) [.Call (.Name "set" p2) [a] [] q] [] pos) (tSortT X.K ta) := by
  constructor
  intro pins s σ H Q I h
  refine Call_ (ld_blt I gl ml boot_sorted (callWith_builtin1 (args_cons ?_ rfl) rfl rfl))
  refine Call_ (ld_blt I gs ms boot_set (callWith_type1 (args_cons (thn (pa.run pins s σ H _ I h) ?_) st) st rfl))
  rintro v s1 ⟨x, H1, I1, rx, l, xs, rfl, sq, few, fin⟩
  refine args_nil ?_
  cases rx
  obtain ⟨its, vals, place, _⟩ := I1.list sq
  refine set_walked (I1.ok.hd calm) place.isList (texts_from vals) (Nat.lt_trans (show xs.length + 1 < 65 by omega) (by decide)) fun h2 tk c le set keep => ?_
  refine args_nil ?_
  have I2 : Inv X pins σ H1 { s1 with heap := h2, toks := tk } := I1.kept fun b o e => keep b o (Heap.lt_size e) e
  have set2 : TSet X.prog X.w ({ s1 with heap := h2, toks := tk } : Shared).heap s1.heap.objs.size (fun y => decide (y ∈ xs)) c := set
  generalize ({ s1 with heap := h2, toks := tk } : Shared) = s2 at I2 set2 ⊢
  refine sorted_walked (s := s2) set2 (I2.ok.hd calm) (by omega) fun s3 p3 out c3 ys keep3 gens os new got txt so nd mem len => ?_
  have free : H1 p3 = none := I2.hok.fresh new
  have small : (ys.map V.str).length ≤ sizeLine := by rw [List.length_map, len, sizeLine_eq]; omega
  have J : Inv X pins σ (upd H1 p3 (.lst (ys.map V.str))) { s2 with heap := s3.heap, gens := s3.gens, drawn := s3.drawn, toks := s3.toks } :=
    I2.call (ch := []) (Un.laid keep3 new free) (I2.hok.laid keep3 new ⟨small, out, c3, vals_of_strs txt, got⟩) (by rw [gens]; exact I2.bare) (fun _ z => nomatch z)
  have same : s3 = { s2 with heap := s3.heap, gens := s3.gens, drawn := s3.drawn, toks := s3.toks } := by
    rcases s3 with ⟨h3, g3, d3, t3, o3⟩
    cases (show o3 = s2.os from os)
    rfl
  rw [same]
  exact ⟨.ref p3, _, J, rfl, fin p3 ys free so nd fun z => by rw [mem z]; simp⟩
end Ol

set_option Elab.async false
set_option linter.all false
set_option maxRecDepth 100000
set_option maxHeartbeats 8000000
namespace Ol
open PySem PySem.Spec PyProof.Rows L2
/-! ### data that a set can hold -/
mutual
def keyOf : PyData → NestedKey
  | .none => .none
  | .bool b => .num (if b = true then 1 else 0)
  | .int i => .num i
  | .str x => .text x
  | .tuple ds => .tup (keysOf ds)
  | _ => .none
def keysOf : List PyData → List NestedKey
  | [] => []
  | d :: ds => keyOf d :: keysOf ds
end
mutual
def keyable : PyData → Bool
  | .none => true
  | .bool _ => true
  | .int _ => true
  | .str _ => true
  | .tuple ds => keyables ds
  | .list _ => false
  | .dict _ => false
def keyables : List PyData → Bool
  | [] => true
  | d :: ds => keyable d && keyables ds
end
mutual
theorem nested_of {h : Heap} : ∀ (d : PyData) {v : Value} {as : List Addr}, Reads h v d as → keyable d = true → NestedIs h (keyOf d) v
  | .none, _, _, .none, _ => by rw [keyOf]; exact .none
  | .bool _, _, _, .bool _, _ => by rw [keyOf]; exact .bool rfl
  | .int _, _, _, .int _ _, _ => by rw [keyOf]; exact .int _ _
  | .str _, _, _, .str _ _, _ => by rw [keyOf]; exact .text _ _
  | .tuple ds, _, _, .tuple g c dt r, k => by
    rw [keyOf]
    rw [keyable] at k
    exact .tup g c dt (nested_all ds r k)
  | .list _, _, _, _, k => by rw [keyable] at k; cases k
  | .dict _, _, _, _, k => by rw [keyable] at k; cases k
theorem nested_all {h : Heap} : ∀ (ds : List PyData) {vs : List Value} {as : List Addr}, ReadsAll h vs ds as → keyables ds = true → NestedAll h (keysOf ds) vs
  | [], _, _, .nil, _ => by rw [keysOf]; exact .nil
  | d :: ds, _, _, .cons r rs, k => by
    rw [keyables, Bool.and_eq_true] at k
    rw [keysOf]
    exact .cons (nested_of d r k.1) (nested_all ds rs k.2)
end
mutual
theorem key_depth : ∀ (d : PyData), keyable d = true → (keyOf d).depth ≤ d.depth
  | .none, _ => by rw [keyOf, NestedKey.depth]; exact Nat.zero_le _
  | .bool _, _ => by rw [keyOf, NestedKey.depth]; exact Nat.zero_le _
  | .int _, _ => by rw [keyOf, NestedKey.depth]; exact Nat.zero_le _
  | .str _, _ => by rw [keyOf, NestedKey.depth]; exact Nat.zero_le _
  | .tuple ds, k => by
    rw [keyable] at k
    have := keys_depth ds k
    rw [keyOf, NestedKey.depth, PyData.depth]
    omega
  | .list _, k => by rw [keyable] at k; cases k
  | .dict _, k => by rw [keyable] at k; cases k
theorem keys_depth : ∀ (ds : List PyData), keyables ds = true → NestedKey.depthAll (keysOf ds) ≤ PyData.depthAll ds
  | [], _ => by rw [keysOf, NestedKey.depthAll]; exact Nat.zero_le _
  | d :: ds, k => by
    rw [keyables, Bool.and_eq_true] at k
    have h1 := key_depth d k.1
    have h2 := keys_depth ds k.2
    rw [keysOf, NestedKey.depthAll, PyData.depthAll]
    omega
end
mutual
theorem reads_nil {h : Heap} : ∀ (d : PyData) {v : Value} {as : List Addr}, Reads h v d as → keyable d = true → as = []
  | .none, _, _, .none, _ => rfl
  | .bool _, _, _, .bool _, _ => rfl
  | .int _, _, _, .int _ _, _ => rfl
  | .str _, _, _, .str _ _, _ => rfl
  | .tuple ds, _, _, .tuple _ _ _ r, k => by
    rw [keyable] at k
    exact reads_nils ds r k
  | .list _, _, _, _, k => by rw [keyable] at k; cases k
  | .dict _, _, _, _, k => by rw [keyable] at k; cases k
theorem reads_nils {h : Heap} : ∀ (ds : List PyData) {vs : List Value} {as : List Addr}, ReadsAll h vs ds as → keyables ds = true → as = []
  | [], _, _, .nil, _ => rfl
  | d :: ds, _, _, .cons r rs, k => by
    rw [keyables, Bool.and_eq_true] at k
    rw [reads_nil d r k.1, reads_nils ds rs k.2]
    rfl
end
theorem each_ref {α : Type} : ∀ (L : List (Addr × α)), W.EachIs (fun (v : Value) (b : Addr × α) => v = .ref b.1) (L.map fun p => Value.ref p.1) L
  | [] => .nil
  | _ :: L => .cons rfl (each_ref L)
theorem ref_each {α : Type} : ∀ {vs : List Value} {L : List (Addr × α)}, W.EachIs (fun (v : Value) (b : Addr × α) => v = .ref b.1) vs L → vs = L.map fun p => Value.ref p.1
  | _, _, .nil => rfl
  | _, _, .cons h r => by rw [h, ref_each r]; rfl
theorem each_map2 {α : Type} {R : Value → Addr × α → Prop} : ∀ {L : List (Addr × α)}, (∀ p ∈ L, R (.ref p.1) p) → W.EachIs R (L.map fun p => Value.ref p.1) L
  | [], _ => .nil
  | p :: L, h => .cons (h p (.head _)) (each_map2 fun q hq => h q (.tail _ hq))
theorem perm_map_inv {α β : Type} {f : α → β} : ∀ {vs us : List β}, vs.Perm us → ∀ {L : List α}, us = L.map f → ∃ L1 : List α, L1.Perm L ∧ vs = L1.map f := by
  intro vs us pm
  induction pm with
  | nil =>
    intro L e
    exact ⟨L, .refl _, e⟩
  | cons x p ih =>
    intro L e
    cases L with
    | nil => cases e
    | cons y L =>
      rw [List.map_cons] at e
      injection e with e1 e2
      obtain ⟨L1, p1, q1⟩ := ih e2
      exact ⟨y :: L1, p1.cons y, by rw [List.map_cons, e1, q1]⟩
  | swap x y l =>
    intro L e
    match L, e with
    | a :: b :: L, e =>
      rw [List.map_cons, List.map_cons] at e
      injection e with e1 e2
      injection e2 with e2 e3
      exact ⟨b :: a :: L, .swap _ _ _, by rw [List.map_cons, List.map_cons, e1, e2, e3]⟩
  | trans p1 p2 ih1 ih2 =>
    intro L e
    obtain ⟨L2, q2, r2⟩ := ih2 e
    obtain ⟨L1, q1, r1⟩ := ih1 r2
    exact ⟨L1, q1.trans q2, r1⟩
section
variable {P : Program} {w : World} {α : Type} [DecidableEq α] {knd : HeapKind P w α} {A : Around} {E : Value → Shared → Prop} {s : Shared} {a : Addr} {L : List (Addr × α)} {es : Array (Int × Value)} {ep : Nat} {t : SetTable}
/-- sorted(s) of such a set -/
theorem sorted_nset (T : NSet knd s.heap a L es ep t) (calm : A.handled = none) (enc : Addr × α → PyData) (rd : ∀ p ∈ L, Reads s.heap (.ref p.1) (enc p) []) (al : W.AllAlike (L.map enc)) (so : W.Sortable (L.map enc))
    (dep : ∀ p ∈ L, A.units + 2 + (enc p).depth < cLine) {Q : Value → Shared → Prop}
    (q : ∀ (s2 : Shared) (p : Addr) (c : Nat) (L' : List (Addr × α)), (∀ b o, s.heap.get? b = some o → s2.heap.get? b = some o) → s2.gens = s.gens → s2.os = s.os → s.heap.objs.size ≤ p →
      s2.heap.get? p = some (seqObj "list" (L'.map fun q => Value.ref q.1).toArray c) → L'.Perm L → L'.Pairwise (fun x y => W.dataLt (enc y) (enc x) = false) → Q (.ref p) s2) :
    wpAny (model P w) A (call (.builtin "sorted") [.ref a]) Q E s := by
  obtain ⟨o, get, ex, dat⟩ := T.ob
  apply Calls.call_function_entry kind_sorted plain_sorted entry_sorted (args_sorted1 _)
  unfold Builtin.«sorted»
  apply wpAny_bind (m := checkCount "sorted" 1 1 _)
  apply wpAny_pure
  apply wpAny_bind
  apply collect_set (A := A.in1) calm ⟨o, get, ex.1, dat⟩ T.fits (by rw [T.size]; have := T.few; exact Nat.lt_of_lt_of_le this (by decide)) T.tab.ris T.led
  intro s1 vs keep grow gens os pm
  rw [T.rows, List.map_map] at pm
  obtain ⟨L1, p1, rfl⟩ := perm_map_inv pm rfl
  have lv : (L1.map ((fun x => x.2) ∘ fun p : Addr × α => (knd.hash p.2, Value.ref p.1))).length = L1.length := List.length_map _
  have few : L1.length < 64 := by rw [p1.length_eq]; exact T.few
  apply wpAny_bind
  apply wpAny_newList ?_ (by rw [lv, sizeLine_eq]; omega)
  have fn : ((fun x : Int × Value => x.2) ∘ fun p : Addr × α => (knd.hash p.2, Value.ref p.1)) = fun p => Value.ref p.1 := rfl
  rw [fn] at *
  have at_L : (s1.heap.push (seqObj "list" (L1.map fun p => Value.ref p.1).toArray 0)).get? s1.heap.objs.size = some (seqObj "list" (L1.map fun p => Value.ref p.1).toArray 0) := Heap.get?_push_size _ rfl
  have rd1 : ∀ p ∈ L1, ∃ as, Reads (s1.heap.push (seqObj "list" (L1.map fun p => Value.ref p.1).toArray 0)) (.ref p.1) (enc p) as ∧ ¬ s1.heap.objs.size ∈ as := fun p hp => by
    have hp' := p1.mem_iff.mp hp
    refine ⟨[], W.Reads.keepBut (a := s1.heap.objs.size) (fun b o _ g => Heap.get?_push_of_some _ (keep b o g)) (fun o g => ?_) (enc p) _ _ (al _ (List.mem_map_of_mem hp') _ (List.mem_map_of_mem hp')) (rd p hp') (by simp), by simp⟩
    have z := keep _ _ g
    exact absurd (Heap.lt_size z) (Nat.lt_irrefl _)
  refine wpAny_bind (wpAny_holding (W.list_sort_data (bs := L1) (enc := enc) (R := fun v b => v = .ref b.1) at_L (each_ref L1) (each_map2 rd1) ?_ ?_ ?_ ?_ fun out lo each => ?_))
  · intro d hd d' hd'
    exact al d ((p1.map enc).mem_iff.mp hd) d' ((p1.map enc).mem_iff.mp hd')
  · rcases so with z | z
    · exact .inl fun d hd => z d ((p1.map enc).mem_iff.mp hd)
    · exact .inr fun d hd => z d ((p1.map enc).mem_iff.mp hd)
  · rw [sizeLine_eq]; omega
  · intro b hb
    show A.units + 1 + 1 + _ < cLine
    have := dep b (p1.mem_iff.mp hb)
    omega
  obtain rfl := ref_each each
  obtain ⟨c, got⟩ := sortedHeap_at (vs := L1.map fun p => Value.ref p.1) (out := ((L1.mergeSort (W.dataLe false enc)).map fun p => Value.ref p.1).toArray) at_L
  have tot : W.TotalLe (W.dataLe false enc) := W.sortLe_total _ _ _
  have pw := W.sort_pairwise tot L1
  have pm1 := (List.mergeSort_perm L1 (W.dataLe false enc)).trans p1
  apply wpAny_pure
  refine ⟨_, rfl, q _ s1.heap.objs.size c (L1.mergeSort (W.dataLe false enc)) (fun b o2 get2 => ?_) gens os grow got pm1 (pw.imp fun {x y} h => ?_)⟩
  · have z := keep b o2 get2
    have lt := Heap.lt_size z
    show (sortedHeap (s1.heap.push (seqObj "list" (L1.map fun p => Value.ref p.1).toArray 0)) s1.heap.objs.size (L1.map fun p => Value.ref p.1) _).get? b = some o2
    rw [sortedHeap_old (Nat.ne_of_lt lt) (by rw [size_push']; exact Nat.lt_succ_of_lt lt)]
    exact Heap.get?_push_of_some _ z
  · rw [W.dataLe_eq] at h
    simpa using h
end
end Ol

set_option Elab.async false
set_option linter.all false
set_option maxRecDepth 100000
set_option maxHeartbeats 8000000
namespace Ol
open PySem PySem.Spec PyProof.Rows L2
/-- a tuple that a set can hold -/
structure TupK (d : PyData) : Prop where
  tup : ∃ ds, d = .tuple ds
  key : keyable d = true
  dep : d.depth ≤ 8
theorem dqall_keys {H : Hp} : ∀ {xs : List V} {ds : List PyData}, DqAll H xs ds → (∀ d ∈ ds, TupK d) → ∃ ks : List (Addr × NestedKey), xs = ks.map (fun p => V.ref p.1) ∧ ds.map keyOf = ks.map (·.2) ∧ ∀ p ∈ ks, ∃ d, d ∈ ds ∧ Dq H (.ref p.1) d ∧ keyOf d = p.2
  | _, _, .nil, _ => ⟨[], rfl, rfl, fun _ z => nomatch z⟩
  | _, _, .cons (v := v) (d := d) h r, t => by
    obtain ⟨ks, e1, e2, e3⟩ := dqall_keys r fun d hd => t d (.tail _ hd)
    obtain ⟨ds0, e0⟩ := (t d (.head _)).tup
    obtain ⟨a, rfl⟩ : ∃ a, v = .ref a := by
      rw [e0] at h
      cases h with
      | tup _ _ => exact ⟨_, rfl⟩
    refine ⟨(a, keyOf d) :: ks, by rw [e1]; rfl, by rw [List.map_cons, e2]; rfl, fun p hp => ?_⟩
    rcases List.mem_cons.mp hp with rfl | z
    · exact ⟨d, .head _, h, rfl⟩
    · obtain ⟨d', h1, h2, h3⟩ := e3 p z
      exact ⟨d', .tail _ h1, h2, h3⟩
theorem vals_refs2 {α : Type} : ∀ {ks : List (Addr × α)} {us : List Value}, Vals (ks.map fun p => V.ref p.1) us → us = ks.map fun p => Value.ref p.1
  | [], _, .nil => rfl
  | p :: ks, _, .cons r t => by
    have e : _ = Value.ref p.1 := r
    rw [e, vals_refs2 t]
    rfl
theorem refs_vals2 {α : Type} : ∀ (ks : List (Addr × α)), Vals (ks.map fun p => V.ref p.1) (ks.map fun p => Value.ref p.1)
  | [] => .nil
  | p :: ks => .cons rfl (refs_vals2 ks)
theorem dqall_of {H : Hp} {α : Type} {f : α → V} {g : α → PyData} : ∀ {L : List α}, (∀ p ∈ L, Dq H (f p) (g p)) → DqAll H (L.map f) (L.map g)
  | [], _ => .nil
  | p :: L, h => .cons (h p (.head _)) (dqall_of fun q hq => h q (.tail _ hq))
/-- sorted(set(t)), t a tuple of such tuples -/
def tSortN (K : PySem.W.Frag) (ta : TE) : TE := fun σ H Q => ta σ H fun x H1 => ∃ (l : Addr) (xs : List V) (ds : List PyData), x = .ref l ∧ Sys H1 ∧ SqT K H1 l xs ∧ DqAll H1 xs ds ∧ (∀ d ∈ ds, TupK d) ∧ W.AllAlike ds ∧ W.Sortable ds ∧ ds.length < 64 ∧
  ∀ (p : Addr) (ys : List V) (es : List PyData), H1 p = none → DqAll H1 ys es → es.Pairwise (fun x y => W.dataLt y x = false) → (es.map keyOf).Nodup → (∀ e ∈ es, e ∈ ds) → (∀ d ∈ ds, keyOf d ∈ es.map keyOf) → Q (.ref p) (upd H1 p (.lst ys))
open Classical in
noncomputable def encC (H : Hp) (ds : List PyData) (p : Addr × NestedKey) : PyData := if h : ∃ d, d ∈ ds ∧ Dq H (.ref p.1) d ∧ keyOf d = p.2 then Classical.choose h else .none
theorem encC_spec {H : Hp} {ds : List PyData} {p : Addr × NestedKey} (h : ∃ d, d ∈ ds ∧ Dq H (.ref p.1) d ∧ keyOf d = p.2) : encC H ds p ∈ ds ∧ Dq H (.ref p.1) (encC H ds p) ∧ keyOf (encC H ds p) = p.2 := by
  unfold encC
  rw [dif_pos h]
  exact Classical.choose_spec h
theorem pe_sortN {X : Cx} {a : Expr} {ta : TE} {p p2 q pos : Pos} (calm : X.calm = true) (hu : X.A.units + 64 < cLine) (gl : Gl X "sorted") (ml : X.mg "sorted" = none) (gs : Gl X "set") (ms : X.mg "set" = none) (pa : PE X a ta)
    (st : starEach [a] X.env = (false, eval a X.env) :: starEach [] X.env := by rfl) : PE X (.Call (.Name "sorted" p) [.Call (.Name "set" p2) [a] [] q] [] pos) (tSortN X.K ta) := by
  constructor
  intro pins s σ H Q I h
  refine Call_ (ld_blt I gl ml boot_sorted (callWith_builtin1 (args_cons ?_ rfl) rfl rfl))
  refine Call_ (ld_blt I gs ms boot_set (callWith_type1 (args_cons (thn (pa.run pins s σ H _ I h) ?_) st) st rfl))
  rintro v s1 ⟨x, H1, I1, rx, l, xs, ds, rfl, S1, sq, hds, tk, al, so, few, fin⟩
  refine args_nil ?_
  cases rx
  obtain ⟨its, vals, place, _⟩ := I1.tuple sq
  obtain ⟨ks, rfl, ek, ed⟩ := dqall_keys hds tk
  have lk : ks.length = ds.length := by have := congrArg List.length ek; rw [List.length_map, List.length_map] at this; exact this.symm
  have is1 : ∀ p ∈ ks, (nestedKind X.prog X.w).is s1.heap p.2 p.1 := fun p hp => by
    obtain ⟨d, h1, h2, h3⟩ := ed p hp
    have t := tk d h1
    obtain ⟨as, rd, _⟩ := Dq.reads I1 S1 h2 (u := .ref p.1) rfl
    rw [← h3]
    exact ⟨nested_of d rd t.key, Nat.le_trans (key_depth d t.key) t.dep⟩
  refine set_tuplesT setK_nested ks (I1.ok.hd calm) place (vals_refs2 vals) is1 (by omega) (fun B hB => by show B.units + 8 < cLine; omega) fun h2 tk2 L es ep t set got keep => ?_
  refine args_nil ?_
  have I2 : Inv X pins σ H1 { s1 with heap := h2, toks := tk2 } := I1.kept keep
  have set2 : NSet (nestedKind X.prog X.w) ({ s1 with heap := h2, toks := tk2 } : Shared).heap s1.heap.objs.size L es ep t := set
  generalize ({ s1 with heap := h2, toks := tk2 } : Shared) = s2 at I2 set2 ⊢
  have inks : ∀ p ∈ L, p ∈ ks := fun p hp => List.mem_of_mem_take (got.sub p hp)
  have spec : ∀ p ∈ L, encC H1 ds p ∈ ds ∧ Dq H1 (.ref p.1) (encC H1 ds p) ∧ keyOf (encC H1 ds p) = p.2 := fun p hp => encC_spec (ed p (inks p hp))
  refine sorted_nset (s := s2) set2 (I2.ok.hd calm) (encC H1 ds) (fun p hp => ?_) (fun d hd d' hd' => ?_) ?_ (fun p hp => ?_) fun s3 p3 c3 L' keep3 gens os new got3 pm pw => ?_
  · obtain ⟨h1, h2, _⟩ := spec p hp
    obtain ⟨as, rd, _⟩ := Dq.reads I2 S1 h2 (u := .ref p.1) rfl
    rw [reads_nil _ rd (tk _ h1).key] at rd
    exact rd
  · obtain ⟨p, hp, rfl⟩ := List.mem_map.mp hd
    obtain ⟨p', hp', rfl⟩ := List.mem_map.mp hd'
    exact al _ (spec p hp).1 _ (spec p' hp').1
  · rcases so with z | z
    · exact .inl fun d hd => by obtain ⟨p, hp, rfl⟩ := List.mem_map.mp hd; exact z _ (spec p hp).1
    · exact .inr fun d hd => by obtain ⟨p, hp, rfl⟩ := List.mem_map.mp hd; exact z _ (spec p hp).1
  · have := (tk _ (spec p hp).1).dep
    omega
  have free : H1 p3 = none := I2.hok.fresh new
  have small : (L'.map fun p => V.ref p.1).length ≤ sizeLine := by rw [List.length_map, pm.length_eq, sizeLine_eq]; have := set2.few; omega
  have J : Inv X pins σ (upd H1 p3 (.lst (L'.map fun p => V.ref p.1))) { s2 with heap := s3.heap, gens := s3.gens, drawn := s3.drawn, toks := s3.toks } :=
    I2.call (ch := []) (Un.laid keep3 new free) (I2.hok.laid keep3 new ⟨small, L'.map fun p => Value.ref p.1, c3, refs_vals2 L', got3⟩) (by rw [gens]; exact I2.bare) (fun _ z => nomatch z)
  have same : s3 = { s2 with heap := s3.heap, gens := s3.gens, drawn := s3.drawn, toks := s3.toks } := by
    rcases s3 with ⟨h3, g3, d3, t3, o3⟩
    cases (show o3 = s2.os from os)
    rfl
  rw [same]
  have kk : (L'.map (encC H1 ds)).map keyOf = L'.map (·.2) := by
    rw [List.map_map]
    exact List.map_congr_left fun p hp => (spec p (pm.mem_iff.mp hp)).2.2
  refine ⟨.ref p3, _, J, rfl, fin p3 (L'.map fun p => V.ref p.1) (L'.map (encC H1 ds)) free (dqall_of fun p hp => (spec p (pm.mem_iff.mp hp)).2.1) (List.pairwise_map.mpr pw) ?_ (fun e he => ?_) (fun d hd => ?_)⟩
  · rw [kk]
    exact (pm.map (·.2)).nodup_iff.mpr set2.nd
  · obtain ⟨p, hp, rfl⟩ := List.mem_map.mp he
    exact (spec p (pm.mem_iff.mp hp)).1
  · rw [kk]
    have z : keyOf d ∈ ks.map (·.2) := by rw [← ek]; exact List.mem_map_of_mem hd
    obtain ⟨p, hp, e⟩ := List.mem_map.mp z
    have y := got.all p (by rw [List.take_length]; exact hp)
    rw [e] at y
    exact (pm.map (·.2)).mem_iff.mpr y
end Ol

set_option Elab.async false
set_option linter.all false
set_option maxRecDepth 100000
set_option maxHeartbeats 4000000
namespace K70
open PySem PySem.Spec PyProof.Rows L2 Ol RZ
open TL (tl)
theorem cps_inj {a b : Str} (e : a.cps.toList = b.cps.toList) : a = b := tl_inj e
/-! ### the order of the pairs -/
theorem dlt_str (x y : Str) : W.dataLt (.str x) (.str y) = ltCps x.cps.toList y.cps.toList := by
  have h := congrFun (congrFun (W.dataLe_str (fun b : Str => b)) y) x
  rw [W.dataLe_eq] at h
  simp only [cond_false] at h
  rw [ltCps_eq]
  have h2 : W.dataLt (.str x) (.str y) = !decide (y.cps.toList ≤ x.cps.toList) := by rw [← h, Bool.not_not]
  rw [h2]
  by_cases c : x.cps.toList < y.cps.toList
  · rw [decide_eq_true c, decide_eq_false (fun z => z c)]
    rfl
  · rw [decide_eq_false c, decide_eq_true (show y.cps.toList ≤ x.cps.toList from c)]
    rfl
theorem dlt_pair (p q : Str × Str) : W.dataLt (pairD p) (pairD q) = if p.1 = q.1 then (if p.2 = q.2 then false else ltCps p.2.cps.toList q.2.cps.toList) else ltCps p.1.cps.toList q.1.cps.toList := by
  unfold pairD
  rw [W.dataLt_pair (by simp [W.alike]) (by simp [W.alike]), dlt_str, dlt_str]
  have e1 : ∀ a b : Str, ((PyData.str a).eqv (.str b) = true) = (a = b) := fun a b => by simp [PyData.eqv]
  simp only [e1]
/-- one after the other -/
def Asc (ds : List PyData) : Prop := ds.Pairwise fun a b => W.dataLt a b = true
theorem dlt_asym {p q : Str × Str} (h : W.dataLt (pairD p) (pairD q) = true) : W.dataLt (pairD q) (pairD p) = false := by
  rw [dlt_pair] at h ⊢
  by_cases c : p.1 = q.1
  · rw [if_pos c] at h
    rw [if_pos c.symm]
    by_cases c2 : p.2 = q.2
    · rw [if_pos c2] at h; cases h
    · rw [if_neg c2] at h
      rw [if_neg (Ne.symm c2)]
      exact lt_asym _ _ h
  · rw [if_neg c] at h
    rw [if_neg (Ne.symm c)]
    exact lt_asym _ _ h
theorem dlt_anti {p q : Str × Str} (h1 : W.dataLt (pairD p) (pairD q) = false) (h2 : W.dataLt (pairD q) (pairD p) = false) : p = q := by
  rw [dlt_pair] at h1 h2
  by_cases c : p.1 = q.1
  · rw [if_pos c] at h1
    rw [if_pos c.symm] at h2
    by_cases c2 : p.2 = q.2
    · exact Prod.ext c c2
    · rw [if_neg c2] at h1
      rw [if_neg (Ne.symm c2)] at h2
      exact absurd (cps_inj (lt_anti _ _ h1 h2)) c2
  · rw [if_neg c] at h1
    rw [if_neg (Ne.symm c)] at h2
    exact absurd (cps_inj (lt_anti _ _ h1 h2)) c
theorem key_pair {p q : Str × Str} (h : Ol.keyOf (pairD p) = Ol.keyOf (pairD q)) : p = q := by
  simp [pairD, Ol.keyOf, Ol.keysOf] at h
  exact Prod.ext h.1 h.2
theorem one_of_sorted {es ds : List PyData} (hp : ∀ d ∈ ds, ∃ p, d = pairD p) (asc : Asc ds) (pw : es.Pairwise fun x y => W.dataLt y x = false) (nd : (es.map Ol.keyOf).Nodup) (h1 : ∀ e ∈ es, e ∈ ds) (h2 : ∀ d ∈ ds, Ol.keyOf d ∈ es.map Ol.keyOf) : es = ds := by
  have nd1 : es.Nodup := List.Pairwise.of_map Ol.keyOf (fun a b hab e => hab (congrArg Ol.keyOf e)) nd
  have pwd : ds.Pairwise fun x y => W.dataLt y x = false := List.Pairwise.imp_of_mem (fun {a b} ha hb h => by
    obtain ⟨p, rfl⟩ := hp a ha
    obtain ⟨q, rfl⟩ := hp b hb
    exact dlt_asym h) asc
  have nd2 : ds.Nodup := List.Pairwise.imp_of_mem (fun {a b} ha hb h e => by
    obtain ⟨p, rfl⟩ := hp a ha
    subst e
    have z := dlt_asym h
    rw [h] at z
    cases z) asc
  have pm : es.Perm ds := (List.perm_ext_iff_of_nodup nd1 nd2).mpr fun a => ⟨h1 a, fun ha => by
    obtain ⟨e, he, k⟩ := List.mem_map.mp (h2 a ha)
    obtain ⟨p, rfl⟩ := hp a ha
    obtain ⟨q, rfl⟩ := hp e (h1 e he)
    rw [← key_pair k]
    exact he⟩
  refine List.Perm.eq_of_pairwise (fun a b ha hb q1 q2 => ?_) pw pwd pm
  obtain ⟨p, rfl⟩ := hp a (h1 a ha)
  obtain ⟨q, rfl⟩ := hp b hb
  rw [dlt_anti q2 q1]


theorem ltc_trans {a b c : List Nat} (h1 : ltCps a b = true) (h2 : ltCps b c = true) : ltCps a c = true := by
  rw [ltCps_eq] at h1 h2 ⊢
  exact decide_eq_true (List.lt_trans (of_decide_eq_true h1) (of_decide_eq_true h2))
theorem dlt_trans {p q r : Str × Str} (h1 : W.dataLt (pairD p) (pairD q) = true) (h2 : W.dataLt (pairD q) (pairD r) = true) : W.dataLt (pairD p) (pairD r) = true := by
  have irr : ∀ x : List Nat, ¬ ltCps x x = true := fun x z => by
    have y := lt_asym _ _ z
    rw [z] at y
    cases y
  rw [dlt_pair] at h1 h2 ⊢
  by_cases c1 : p.1 = q.1
  · rw [if_pos c1] at h1
    by_cases c2 : q.1 = r.1
    · rw [if_pos c2] at h2
      rw [if_pos (c1.trans c2)]
      by_cases d1 : p.2 = q.2
      · rw [if_pos d1] at h1; cases h1
      · rw [if_neg d1] at h1
        by_cases d2 : q.2 = r.2
        · rw [if_pos d2] at h2; cases h2
        · rw [if_neg d2] at h2
          have z := ltc_trans h1 h2
          rw [if_neg (fun e => by rw [e] at z; exact irr _ z)]
          exact z
    · rw [if_neg c2] at h2
      rw [if_neg (fun e => c2 (c1.symm.trans e)), c1]
      exact h2
  · rw [if_neg c1] at h1
    by_cases c2 : q.1 = r.1
    · rw [if_neg (fun e => c1 (e.trans c2.symm)), ← c2]
      exact h1
    · rw [if_neg c2] at h2
      have z := ltc_trans h1 h2
      rw [if_neg (fun e => by rw [e] at z; exact irr _ z)]
      exact z
instance (ds : List PyData) : Decidable (Asc ds) := inferInstanceAs (Decidable (List.Pairwise _ _))
/-- one after the other, two by two -/
theorem asc_adj : ∀ {ds : List PyData}, (∀ d ∈ ds, ∃ p, d = pairD p) → (∀ k, 1 ≤ k → ∀ a b, ds[k - 1]? = some a → ds[k]? = some b → W.dataLt a b = true) → Asc ds
  | [], _, _ => List.Pairwise.nil
  | [a], _, _ => List.pairwise_singleton _ _
  | a :: b :: t, hp, h => by
    have ih : Asc (b :: t) := asc_adj (fun d hd => hp d (List.mem_cons_of_mem _ hd)) (fun k hk x y hx hy => h (k + 1) (by omega) x y (by rw [show k + 1 - 1 = (k - 1) + 1 by omega]; exact hx) hy)
    have ab := h 1 (Nat.le_refl _) a b rfl rfl
    obtain ⟨p, rfl⟩ := hp a List.mem_cons_self
    obtain ⟨q, rfl⟩ := hp b (List.mem_cons_of_mem _ List.mem_cons_self)
    refine List.pairwise_cons.mpr ⟨fun x hx => ?_, ih⟩
    rcases List.mem_cons.mp hx with rfl | hx
    · exact ab
    · have bx := List.rel_of_pairwise_cons ih hx
      obtain ⟨r, rfl⟩ := hp x (List.mem_cons_of_mem _ (List.mem_cons_of_mem _ hx))
      exact dlt_trans ab bx
theorem asc_get {ds : List PyData} (h : Asc ds) {k : Nat} (hk : 1 ≤ k) {a b : PyData} (ha : ds[k - 1]? = some a) (hb : ds[k]? = some b) : W.dataLt a b = true := by
  obtain ⟨h1, rfl⟩ := List.getElem?_eq_some_iff.mp ha
  obtain ⟨h2, rfl⟩ := List.getElem?_eq_some_iff.mp hb
  exact List.pairwise_iff_getElem.mp h (k - 1) k h1 h2 (by omega)
theorem asc_of_sorted {es : List PyData} (hp : ∀ d ∈ es, ∃ p, d = pairD p) (pw : es.Pairwise fun x y => W.dataLt y x = false) (nd : (es.map Ol.keyOf).Nodup) : Asc es := by
  have nd1 : es.Pairwise fun a b => a ≠ b := List.Pairwise.of_map Ol.keyOf (fun a b hab e => hab (congrArg Ol.keyOf e)) nd
  refine List.Pairwise.imp_of_mem (fun {a b} ha hb h => ?_) (List.Pairwise.and pw nd1)
  obtain ⟨p, rfl⟩ := hp a ha
  obtain ⟨q, rfl⟩ := hp b hb
  cases c : W.dataLt (pairD p) (pairD q) with
  | true => rfl
  | false => exact absurd (congrArg pairD (dlt_anti c h.1)) h.2
theorem eqv_pairs : ∀ {xs ys : List PyData}, (∀ d ∈ xs, ∃ p, d = pairD p) → (∀ d ∈ ys, ∃ p, d = pairD p) → PyData.eqvAll xs ys = true → xs = ys
  | [], [], _, _, _ => rfl
  | [], _ :: _, _, _, h => by simp [PyData.eqvAll] at h
  | _ :: _, [], _, _, h => by simp [PyData.eqvAll] at h
  | x :: xs, y :: ys, h1, h2, h => by
    simp only [PyData.eqvAll, Bool.and_eq_true] at h
    obtain ⟨p, rfl⟩ := h1 x List.mem_cons_self
    obtain ⟨q, rfl⟩ := h2 y List.mem_cons_self
    rw [eqv_pairs (fun d hd => h1 d (List.mem_cons_of_mem _ hd)) (fun d hd => h2 d (List.mem_cons_of_mem _ hd)) h.2]
    have z := h.1
    simp [pairD, PyData.eqv, PyData.eqvAll] at z
    rw [Prod.ext z.1 z.2]
end K70

set_option Elab.async false
set_option linter.all false
set_option maxRecDepth 100000
set_option maxHeartbeats 4000000
namespace Ol
open PySem PySem.Spec PyProof.Rows L2
/-! ### any data in a list or a tuple of texts -/
theorem str_declines_dict (b : Str) (u : Tok) (l : Addr) (es : Array DictEntry) (ep : Nat) (dd : Option Addr) (sl : Array (Option Value)) :
    Meets (Builtin.«str.__eq__» ⟨[.str b u, .ref l], []⟩) (fun _ R s => s.heap.get? l = some { cls := .type "dict", dict := dd, data := .dict es ep, slots := sl } ∧ R (.ok (.ret .notImplemented)) s) :=
  .of_wp fun prog w A R s h => by obtain ⟨hp, g, d, tk, os⟩ := s; obtain ⟨hl, h⟩ := h; wp_walk using wpAny_loadPart' hl, wpAny_load hl; exact ⟨_, rfl, h⟩
theorem dict_declines_str {prog : Program} {w : World} {A : Around} {s : Shared} {a : Addr} {b : Str} {u : Tok} {E : Value → Shared → Prop} (ty : s.TypeIs (.ref a) "dict") (Q : Value → Shared → Prop) (q : Q .notImplemented s) :
    wpAny (model prog w) A (call (.builtin "dict.__eq__") [.ref a, .str b u]) Q E s := by
  refine wpAny_call_entry PySem.F.slot_dict_eq_refl ty PySem.F.entry_dict_eq ?_ (PySem.F.args_dict_eq_2 _ _)
  show wpAny _ _ (Builtin.Dict.dictSlotArgs "__eq__" ⟨[.ref a, .str b u], []⟩ >>= _) _ _ s
  refine wpAny_bind ?_
  unfold Builtin.Dict.dictSlotArgs
  refine wpAny_bind (wpAny_notOrdered_dict ty ?_)
  show wpAny _ _ (pure (Value.ref a, Value.str b u)) _ _ s
  refine wpAny_pure ?_
  refine wpAny_bind (wpAny_isInstance (T := "str") (typeIs_str s b u) PySem.F.sub_str_dict ?_)
  simp only [Bool.not_false, if_true]
  refine wpAny_bind (wpAny_rule ?_)
  refine wpAny_pure ?_
  exact ⟨_, rfl, q⟩
theorem eqAt_str_dict {A : Around} {s : Shared} (b : Str) (u : Tok) {a : Addr} {es : Array DictEntry} {ep : Nat} {dd : Option Addr} {sl : Array (Option Value)} (ho : s.heap.get? a = some { cls := .type "dict", dict := dd, data := .dict es ep, slots := sl }) (hu : A.units < cLine) :
    SeqAt.EqAt A s (.str b u) (.ref a) false := fun prog w E Q h => by
  unfold eqBool
  refine wpAny_holding ?_
  refine wpAny_ite_split (fun hab => absurd (eq_of_beq hab) nofun) (fun _ => ?_)
  have ty : s.TypeIs (.ref a) "dict" := ⟨_, ho, rfl⟩
  refine wpAny_bind (SeqAt.rc_eq_decline_or (k := false) (typeIs_str s b u) ty (by decide) PySem.F.sub_dict_str PySem.F.slot_str_eq PySem.F.slot_dict_eq_refl
    (fun _ hq => call_meets PySem.F.slot_str_eq (typeIs_str s b u) PySem.F.entry_str_eq (PySem.F.args_str_eq_2 _ _) (str_declines_dict b u a es ep dd sl) ⟨ho, hq⟩)
    (fun _ hq => dict_declines_str ty _ hq)
    (fun _ hq => wpAny_of_eq (rfl : isSame (.str b u) (.ref a) = pure false) hq) (.inr hu) (wpAny_truthy_bool h))
/-- the text w is this data -/
def isStrD (w : Str) : PyData → Bool
  | .str x => w == x
  | _ => false
def strIn (ws : List Str) (d : PyData) : Bool := ws.any fun w => isStrD w d
theorem eqAt_strD {X : Cx} {pins : List (Addr × Obj)} {σ : L2.St} {H : Hp} {s : Shared} (I : Inv X pins σ H s) {v : V} {d : PyData} {u : Value} (hd : Dq H v d) (r : RelV v u) (w : Str) (t : Tok) {A : Around} (hu : A.units < cLine) :
    SeqAt.EqAt A s (.str w t) u (isStrD w d) := by
  cases hd with
  | non => cases r; exact SeqAt.EqAt.str_none w t
  | bl b => cases r; exact SeqAt.EqAt.str_bool w t b
  | int i => obtain ⟨t2, rfl⟩ := r; exact SeqAt.EqAt.str_int w t i t2
  | str x => obtain ⟨t2, rfl⟩ := r; exact SeqAt.EqAt.str_str w t x t2
  | lst h _ =>
    cases r
    obtain ⟨_, its, n, rv, e⟩ := I.hok _ _ h
    exact SeqAt.EqAt.str_list w t ⟨_, e, rfl, _, rfl⟩ hu
  | tup h _ =>
    cases r
    obtain ⟨_, its, rv, o, e, c, n, dd⟩ := I.hok _ _ h
    exact SeqAt.EqAt.str_tuple w t ⟨_, e, c, n, dd⟩ hu
  | dct h _ =>
    cases r
    obtain ⟨_, na, vs, rel, o, es, ep, e, ex, hd, _, pr, _⟩ := I.hok _ _ h
    obtain ⟨cls, dd, data, sl⟩ := o
    have hc := ex.1
    dsimp only at hc hd
    subst hc
    subst hd
    exact eqAt_str_dict w t e hu
def eStr (d : PyData) : Value → Bool
  | .str w _ => isStrD w d
  | _ => false
theorem any_strs {d : PyData} : ∀ {ws : List Str} {us : List Value}, Vals (ws.map V.str) us → us.any (eStr d) = strIn ws d
  | [], _, h => by cases h; rfl
  | w :: ws, _, h => by
    cases h with
    | cons a b =>
      obtain ⟨t, rfl⟩ := a
      show (isStrD w d || _) = (isStrD w d || _)
      rw [any_strs b]
      rfl
theorem all_strs {P : Value → Prop} (hp : ∀ w t, P (.str w t)) : ∀ {ws : List Str} {us : List Value}, Vals (ws.map V.str) us → ∀ y ∈ us, P y
  | [], _, h, y, hy => by cases h; cases hy
  | w :: ws, _, h, y, hy => by
    cases h with
    | cons a b =>
      obtain ⟨t, rfl⟩ := a
      rcases List.mem_cons.mp hy with rfl | hy
      · exact hp _ _
      · exact all_strs hp b y hy
/-- any data in a list of texts; not in a tuple of texts -/
def rInWL (K : PySem.W.Frag) : R2 := fun x y H Q => ∃ (d : PyData) (a : Addr) (ws : List Str), Dq H x d ∧ y = .ref a ∧ SqL K H a (ws.map V.str) ∧ Q (.bl (strIn ws d)) H
def rNotInWT (K : PySem.W.Frag) : R2 := fun x y H Q => ∃ (d : PyData) (a : Addr) (ws : List Str), Dq H x d ∧ y = .ref a ∧ SqT K H a (ws.map V.str) ∧ Q (.bl (!strIn ws d)) H
theorem op_inWL {X : Cx} (hu : X.A.units + 65 < cLine) : OpR X (compareOp .In) (rInWL X.K) := by
  intro pins s σ H x y v u Q I rx ry h
  obtain ⟨d, a, ws, hd, rfl, sq, q⟩ := h
  cases ry
  obtain ⟨its, r, at_a, _⟩ := I.list sq
  refine SeqAt.in_listAt (eStr d) at_a.isList (fun z hz => ?_) ?_
  · exact all_strs (P := fun z => SeqAt.EqAt X.A.in1 s z v (eStr d z)) (fun w t => eqAt_strD I hd rx w t (by show X.A.units + 1 < cLine; omega)) r z (by simpa using hz)
  · refine ⟨.bl _, H, I, ?_, q⟩
    show _ = _
    rw [← any_strs r]
    simp
theorem op_notInWT {X : Cx} (hu : X.A.units + 65 < cLine) : OpR X (compareOp .NotIn) (rNotInWT X.K) := by
  intro pins s σ H x y v u Q I rx ry h
  obtain ⟨d, a, ws, hd, rfl, sq, q⟩ := h
  cases ry
  obtain ⟨its, r, at_a, _⟩ := I.tuple sq
  refine SeqAt.notIn_tupleAt (eStr d) at_a (fun z hz => ?_) ?_
  · exact all_strs (P := fun z => SeqAt.EqAt X.A.in1 s z v (eStr d z)) (fun w t => eqAt_strD I hd rx w t (by show X.A.units + 1 < cLine; omega)) r z (by simpa using hz)
  · refine ⟨.bl _, H, I, ?_, q⟩
    show _ = _
    rw [← any_strs r]
    simp
/-- data >= data -/
def rGeQ : R2 := fun x y H Q => ∃ d e, Sys H ∧ Dq H x d ∧ Dq H y e ∧ W.alike d e = true ∧ d ≠ .none ∧ d.depth ≤ 60 ∧ Q (.bl (!W.dataLt d e)) H
theorem op_geQ {X : Cx} (hu : X.A.units + 65 < cLine) : OpR X (compareOp .GtE) rGeQ := by
  intro pins s σ H x y v u Q I rx ry h
  obtain ⟨d, e, S, hd, he, al, nn, dp, q⟩ := h
  obtain ⟨as, r1, _⟩ := Dq.reads I S hd rx
  obtain ⟨bs, r2, _⟩ := Dq.reads I S he ry
  refine W.ge_data r1 r2 al nn ?_ ⟨.bl _, H, I, rfl, q⟩
  have := Nat.min_le_left d.depth e.depth
  omega
end Ol

set_option Elab.async false
set_option linter.all false
set_option maxRecDepth 100000
set_option maxHeartbeats 4000000
namespace K70
open PySem PySem.Spec PyProof.Rows L2 Ol RZ
open TL (tl)
theorem strIn_str (ns : List Str) (x : Str) : strIn ns (.str x) = decide (x ∈ ns) := by
  unfold strIn isStrD
  induction ns with
  | nil => rfl
  | cons y ys ih =>
    rw [List.any_cons, ih]
    by_cases c : y = x
    · subst c; simp
    · have : ¬ x = y := fun z => c z.symm
      simp [c, this]
theorem strIn_no {ns : List Str} {d : PyData} (h : kS d = false) : strIn ns d = false := by
  unfold strIn
  rw [List.any_eq_false]
  intro w _
  cases d with
  | str x => cases h
  | _ => simp [isStrD]
theorem strIn_word (d : PyData) : strIn words4 d = isWordD d := by
  cases d with
  | str x =>
    rw [strIn_str]
    show decide (x ∈ words4) = isWordS x
    unfold isWordS words4
    simp
  | _ => rfl
/-- a deal of these lanes -/
def dealB (ns : List Str) : PyData → Bool
  | .tuple [a, b] => isWordD a && strIn ns b
  | _ => false
theorem dealB_len {ns : List Str} {ds : List PyData} (h : ds.length ≠ 2) : dealB ns (.tuple ds) = false := by
  match ds, h with
  | [], _ => rfl
  | [_], _ => rfl
  | [_, _], h => exact absurd rfl h
  | _ :: _ :: _ :: _, _ => rfl
theorem dealB_not {ns : List Str} {d : PyData} (h : kT d = false) : dealB ns d = false := by
  cases d with
  | tuple ds => cases h
  | _ => rfl
theorem dealB_ok {ns : List Str} (nm : ∀ x ∈ ns, isNameS x = true) {d : PyData} (h : dealB ns d = true) : ∃ p, DealOk ns p ∧ d = pairD p := by
  unfold dealB at h
  split at h
  · rename_i a b
    rw [Bool.and_eq_true] at h
    obtain ⟨h1, h2⟩ := h
    rw [← strIn_word] at h1
    cases ha : kS a with
    | false => rw [strIn_no ha] at h1; cases h1
    | true =>
      cases hb : kS b with
      | false => rw [strIn_no hb] at h2; cases h2
      | true =>
        cases a with
        | str x =>
          cases b with
          | str y =>
            rw [strIn_str] at h1 h2
            exact ⟨(x, y), ⟨of_decide_eq_true h1, of_decide_eq_true h2, nm _ (of_decide_eq_true h2)⟩, rfl⟩
          | _ => cases hb
        | _ => cases ha
  · cases h
def nonD : PyData → Bool
  | .none => true
  | _ => false
def itemB (ns : List Str) : PyData → Bool
  | .tuple [.tuple sh, arm] => sh.all (dealB ns) && (decide (Asc sh) && (nonD arm || dealB ns arm))
  | _ => false
def rowB (ns : List Str) : PyData → Bool
  | .list ds => ds.all (itemB ns)
  | _ => false
theorem itemB_len {ns : List Str} {ds : List PyData} (h : ds.length ≠ 2) : itemB ns (.tuple ds) = false := by
  match ds, h with
  | [], _ => rfl
  | [_], _ => unfold itemB; split <;> first | rfl | (rename_i e; cases e)
  | [_, _], h => exact absurd rfl h
  | _ :: _ :: _ :: _, _ => unfold itemB; split <;> first | rfl | (rename_i e; cases e)
theorem itemB_not {ns : List Str} {d : PyData} (h : kT d = false) : itemB ns d = false := by
  cases d with
  | tuple ds => cases h
  | _ => rfl
theorem itemB_fst {ns : List Str} {a b : PyData} (h : kT a = false) : itemB ns (.tuple [a, b]) = false := by
  cases a with
  | tuple ds => cases h
  | _ => rfl
theorem rowB_not {ns : List Str} {d : PyData} (h : kL d = false) : rowB ns d = false := by
  cases d with
  | list ds => cases h
  | _ => rfl
/-- no tuple of shut arms is long -/
def Sm (d : PyData) : Prop := ∀ sh arm, d = .tuple [.tuple sh, arm] → sh.length < 64
section
variable {P : Program} {w : World} {K : PySem.W.Frag} {mg : Str → Option Value} {base : Heap} {C CP S SP : Addr}
/-! ### thing in lanes -/
def spHasD (C : Addr) : Sp := fun vs H Q _ => ∃ (p : Addr) (ns : List Str) (bs : List Int) (v : V) (d : PyData), vs = [.ref p, v] ∧ LanesAt C H p ns bs ∧ Dq H v d ∧
  ∀ H', Ext H H' → Q (.bl (strIn ns d)) H'
theorem ok_hasD {f : Addr} {fd : FuncData} (F : Fun K "__contains__" "Lanes.__contains__" (cL 4) f fd) (T : BT mg) (L : LT K mg C) :
    FnOk P w K mg base CX0 2 f fd ["self", "thing"] (spHasD C) := by
  refine F.ok sc_has (fun vs H Q E h => ?_) (fun cdv A outer s H vs Q E hr h => ?_)
  · obtain ⟨p, ns, bs, v, d, rfl, _⟩ := h
    rfl
  · obtain ⟨p, ns, bs, v, d, rfl, hL, hd, q⟩ := h
    refine ⟨_, (pss_one (ps_ret (pe_and (pe_callB call_isi (by rfl) T.n_isinstance (by decide +kernel) (pa_cons (pv 1) (pa_cons (pe_bltn (v := .ty "str") (by rfl) T.n_str (by decide +kernel) rfl) pa_nil))) (pe_one (pe_cmp (pc_din (hu_of hr) (pv 1) (pe_fld (pv 0) rfl)) rfl))))), ?_⟩
    obtain ⟨dx, n, b, sp, h1, h2, h3, h4, _, hnd, _, hns, _⟩ := id hL
    refine ⟨_, rfl, _, _, _, _, _, rfl, .ty "str", ty_of hd, ki_str d, _, rfl, ?_⟩
    refine ite2 (fun g => ?_) (fun g => ?_)
    · obtain ⟨x, rfl, rfl⟩ := dq_str hd g
      refine ⟨_, rfl, _, rfl, p, C, dx, _, _, rfl, h1, L.cl, L.nS, lf_s _ _ _, sp, _, rfl, DGet.k (k := Sum.inr x) h4, ?_⟩
      have q' := q _ (Ext.refl H)
      rw [strIn_str] at q'
      rw [spots_mem hnd]
      exact q'
    · have q' := q _ (Ext.refl H)
      rw [strIn_no (Bool.eq_false_iff.mpr g)] at q'
      exact q'
/-! ### is_deal -/
def spDl (C : Addr) : Sp := fun vs H Q _ => ∃ (lx : Addr) (v : V) (ns : List Str) (bs : List Int) (d : PyData), vs = [.ref lx, v] ∧ LanesAt C H lx ns bs ∧ Dq H v d ∧ ∀ H', Ext H H' → Q (.bl (dealB ns d)) H'
abbrev s_is_deal : Stmt := (topS 27)
theorem sc_is_deal : FnScope ["lanes", "thing"] ["lanes", "thing"] (defScope s_is_deal) := ⟨rfl, rfl, rfl, by decide +kernel, rfl, by decide +kernel, by decide +kernel⟩
theorem ok_dl {f : Addr} {fd : FuncData} (F : Fun K "is_deal" "is_deal" s_is_deal f fd) (T : BT mg) (CW : Ca P w K mg base 1 "is_word" ["thing"] (spPred Any isWordD)) (MH : Cm P w K mg base C 2 "__contains__" ["self", "thing"] (spHasD C)) :
    FnOk P w K mg base CX0 3 f fd ["lanes", "thing"] (spDl C) := by
  obtain ⟨fH, fdH, FH, mH, bH⟩ := MH.has
  refine F.ok sc_is_deal (fun vs H Q E h => ?_) (fun cdv A outer s H vs Q E hr h => ?_)
  · obtain ⟨lx, v, ns, bs, d, rfl, _⟩ := h
    rfl
  · obtain ⟨lx, v, ns, bs, d, rfl, hL, hv, q⟩ := h
    refine ⟨_, (pss_one (ps_ret (pe_and (pe_callB call_isi (by rfl) T.n_isinstance (by decide +kernel) (pa_cons (pv 1) (pa_cons (pe_bltn (v := .ty "tuple") (by rfl) T.n_tuple (by decide +kernel) rfl) pa_nil))) (pe_and (pe_cmpR op_eq (pe_callB call_len_seq (by rfl) T.n_len (by decide +kernel) (pa_cons (pv 1) pa_nil)) pe_int (nomark _)) (pe_and (pe_ca CW (hr.mono (by decide)) (by rfl) (pa_cons (pe_ix ix_tup (pv 1) pe_int (fun _ _ => rfl)) pa_nil)) (pe_one (pe_cmpR (op_inO FH (hr.mono (by decide)) mH.at_ mH.fn bH) (pe_ix ix_tup (pv 1) pe_int (fun _ _ => rfl)) (pv 0) (by rfl)))))))), ?_⟩
    obtain ⟨dl, n_, b_, sp_, hl1, _⟩ := id hL
    refine ⟨_, rfl, _, _, _, _, _, rfl, .ty "tuple", ty_of hv, ki_tuple d, _, rfl, ?_⟩
    cases hT : kT d with
    | false =>
      refine iteF ?_
      have q' := q H (Ext.refl H)
      rw [dealB_not hT] at q'
      exact q'
    | true =>
      refine iteT ?_
      obtain ⟨a, xs, ds, rfl, rfl, ha, t⟩ := dq_tup hv hT
      refine ⟨_, rfl, a, _, rfl, .inr (SqT.of ha), rfl, _, rfl, ?_⟩
      by_cases hlen : xs.length = 2
      · rw [hlen]
        refine iteT ?_
        obtain ⟨v0, v1, d0, d1, rfl, rfl, t0, t1⟩ := two_of t hlen
        refine ⟨_, rfl, a, _, 0, _, rfl, rfl, SqT.of ha, rfl, _, _, rfl, t0, trivial, fun H1 e1 => ⟨_, rfl, ?_⟩⟩
        have ed : dealB ns (.tuple [d0, d1]) = (isWordD d0 && strIn ns d1) := rfl
        have q' := fun H' e => q H' e
        rw [ed] at q'
        cases hw : isWordD d0 with
        | false =>
          refine iteF ?_
          have q2 := q' H1 e1
          rw [hw, Bool.false_and] at q2
          exact q2
        | true =>
          refine iteT ?_
          refine ⟨_, rfl, a, _, 1, _, rfl, rfl, SqT.of (e1 _ _ ha), rfl, _, rfl, lx, dl, _, rfl, e1 _ _ hl1, lx, ns, bs, v1, d1, rfl, hL.up e1, t1.up e1, fun H2 e2 => ⟨_, rfl, ?_⟩⟩
          have q2 := q' H2 (e1.trans e2)
          rw [hw, Bool.true_and] at q2
          exact q2
      · have z : decide (V.int (xs.length : Int) = V.int 2) = false := decide_eq_false fun y => by injection y with y; omega
        refine ite2 (fun g => ?_) (fun _ => ?_)
        · exfalso
          have g' : decide (V.int (xs.length : Int) = V.int 2) = true := g
          rw [z] at g'
          cases g'
        · have q' := q H (Ext.refl H)
          rw [dealB_len (by rw [← t.len]; exact hlen)] at q'
          exact q'
/-! ### is_ascending -/
def spAs : Sp := fun vs H Q _ => ∃ (t : Addr) (xs : List V) (ns : List Str) (ds : List PyData), vs = [.ref t] ∧ Sys H ∧ H t = some (.tup xs) ∧ DqAll H xs ds ∧ (∀ d ∈ ds, ∃ p, DealOk ns p ∧ d = pairD p) ∧ ds.length < 64 ∧ ∀ H', Ext H H' → Q (.bl (decide (Asc ds))) H'
abbrev s_is_ascending : Stmt := (topS 28)
theorem sc_is_ascending : FnScope ["parts"] ["parts"] (defScope s_is_ascending) := ⟨rfl, rfl, rfl, by decide +kernel, rfl, by decide +kernel, by decide +kernel⟩
theorem pair_tup (p : Str × Str) : TupK (pairD p) := ⟨⟨_, rfl⟩, by simp [pairD, keyable, keyables], by simp [pairD, PyData.depth, PyData.depthAll]⟩
theorem pair_lay {ns : List Str} {p : Str × Str} (h : DealOk ns p) : (pairD p).canLay0 = true := by
  have h1 : PyData.strOk p.1 = true := by
    have z : ∀ x ∈ words4, PyData.strOk x = true := by decide +kernel
    exact z _ h.wd
  simp [pairD, PyData.canLay0, PyData.canLayAll0, h1, name_ok h.ok]
theorem dep_pairs : ∀ {ds : List PyData}, (∀ d ∈ ds, ∃ p, d = pairD p) → PyData.depthAll ds ≤ 1
  | [], _ => Nat.zero_le _
  | d :: ds, h => by
    have := dep_pairs (ds := ds) fun e he => h e (List.mem_cons_of_mem _ he)
    obtain ⟨p, rfl⟩ := h d List.mem_cons_self
    simp only [PyData.depthAll, pairD, PyData.depth]
    omega
theorem ok_as2 {f : Addr} {fd : FuncData} (F : Fun K "is_ascending" "is_ascending" s_is_ascending f fd) (T : BT mg) (nSet : mg "set" = none) :
    FnOk P w K mg base CX0 1 f fd ["parts"] spAs := by
  refine F.ok sc_is_ascending (fun vs H Q E h => ?_) (fun cdv A outer s0 H vs Q E hr h => ?_)
  · obtain ⟨t, xs, ns, ds, rfl, _⟩ := h
    rfl
  · obtain ⟨t, xs, ns, ds, rfl, hS, ht, hx, hp, l20, q⟩ := h
    have hu65 : (A.deeper (envOfC "is_ascending" (defScope s_is_ascending) s0.heap.objs.size f cdv)).units + 65 < cLine := by have := hr.un; omega
    refine ⟨_, (pss_one (ps_ret (pe_cmpR (op_eqQ hr) (pv 0) (pe_callTy call_tuple_of (by rfl) T.n_tuple (by decide +kernel) (pa_cons (pe_sortN rfl (Nat.lt_of_le_of_lt (Nat.le_succ _) hu65) (by rfl) T.n_sorted (by rfl) nSet (pv 0)) pa_nil)) (nomark _)))), ?_⟩
    refine ⟨_, rfl, _, rfl, t, xs, ds, rfl, hS, SqT.of ht, hx, fun d hd => ?_, fun d hd d' hd' => ?_, .inl fun d hd => ?_, l20, fun p ys es np hys pw nd m1 m2 => ?_⟩
    · obtain ⟨p, _, rfl⟩ := hp d hd
      exact pair_tup p
    · obtain ⟨p, _, rfl⟩ := hp d hd
      obtain ⟨p', _, rfl⟩ := hp d' hd'
      simp [pairD, PySem.W.alike, PySem.W.alikeAll]
    · obtain ⟨p, _, rfl⟩ := hp d hd
      exact ⟨_, _, rfl⟩
    have hp' : ∀ d ∈ ds, ∃ p, d = pairD p := fun d hd => (hp d hd).imp fun p h => h.2
    have he' : ∀ d ∈ es, ∃ p, d = pairD p := fun d hd => hp' d (m1 d hd)
    have lay : ∀ es' : List PyData, (∀ d ∈ es', d ∈ ds) → SeqAt.shaped (.tuple es') = true := fun es' hs => by
      refine lay_shaped ?_ ?_
      · rw [PyData.canLay0]
        refine lay_all fun d hd => ?_
        obtain ⟨p, ok, rfl⟩ := hp d (hs d hd)
        exact pair_lay ok
      · have := dep_pairs (ds := es') fun d hd => hp' d (hs d hd)
        simp only [PyData.depth]
        omega
    have e1 := Ext.new (o := .lst ys) np
    have h1 := upd_same (H := H) (a := p) (o := HO.lst ys)
    generalize upd H p (.lst ys) = H1 at e1 h1 ⊢
    refine ⟨p, _, rfl, .inl ⟨SqL.of h1, fun t2 ht2 => ?_⟩⟩
    have e2 := Ext.new (o := .tup ys) ht2
    have e12 := e1.trans e2
    have sh1 := lay ds fun _ h => h
    have sh2 := lay es m1
    refine ⟨.tuple ds, .tuple es, sysUp hS e12, .tup (e12 _ _ ht) (DqAll.up e12 hx), .tup upd_same (DqAll.up e12 hys), sh1, sh2, ?_⟩
    have ev : PyData.eqv (.tuple ds) (.tuple es) = decide (Asc ds) := by
      by_cases c : Asc ds
      · obtain rfl := one_of_sorted hp' c pw nd m1 m2
        rw [SeqAt.eqv_refl _ (SeqAt.canLay_of_shaped sh1), decide_eq_true c]
      · rw [decide_eq_false c]
        refine Bool.eq_false_iff.mpr fun g => c ?_
        have z := eqv_pairs hp' he' (by rw [PyData.eqv] at g; exact g)
        rw [z]
        exact asc_of_sorted he' pw nd
    rw [ev]
    exact q _ e12
end
end K70

set_option Elab.async false
set_option linter.all false
set_option maxRecDepth 100000
set_option maxHeartbeats 4000000
namespace K70
open PySem PySem.Spec PyProof.Rows L2 Ol RZ
open TL (tl)
theorem all_take {α : Type} (p : α → Bool) (l : List α) : (l.map p).all id = l.all p := by
  rw [List.all_map]; rfl
section
variable {P : Program} {w : World} {K : PySem.W.Frag} {mg : Str → Option Value} {base : Heap} {C CP S SP : Addr}
/-! ### is_item -/
def spIt (C : Addr) : Sp := fun vs H Q _ => ∃ (lx : Addr) (v : V) (ns : List Str) (bs : List Int) (d : PyData), vs = [.ref lx, v] ∧ Sys H ∧ LanesAt C H lx ns bs ∧ Dq H v d ∧ Sm d ∧ ∀ H', Ext H H' → Q (.bl (itemB ns d)) H'
abbrev s_is_item : Stmt := (topS 29)
theorem sc_is_item : FnScope ["lanes", "thing", "shut", "arm", "part"] ["lanes", "thing"] (defScope s_is_item) := ⟨rfl, rfl, rfl, by decide +kernel, rfl, by decide +kernel, by decide +kernel⟩
theorem ok_it {f : Addr} {fd : FuncData} (F : Fun K "is_item" "is_item" s_is_item f fd) (T : BT mg) (CD : Ca P w K mg base 3 "is_deal" ["lanes", "thing"] (spDl C)) (CAs : Ca P w K mg base 1 "is_ascending" ["parts"] spAs) :
    FnOk P w K mg base CX0 4 f fd ["lanes", "thing"] (spIt C) := by
  refine F.ok sc_is_item (fun vs H Q E h => ?_) (fun cdv A outer s H vs Q E hr h => ?_)
  · obtain ⟨lx, v, ns, bs, d, rfl, _⟩ := h
    rfl
  · obtain ⟨lx, v, ns, bs, d, rfl, hS, hL, hv, sm, q⟩ := h
    refine ⟨_, (pss_cons (ps_if (PW.pt (pw_or (pt_not (pt_val (pe_callB call_isi (by rfl) T.n_isinstance (by decide +kernel) (pa_cons (pv 1) (pa_cons (pe_bltn (v := .ty "tuple") (by rfl) T.n_tuple (by decide +kernel) rfl) pa_nil))))) (pw_or1 (pt_cmpR op_ne (pe_callB call_len_seq (by rfl) T.n_len (by decide +kernel) (pa_cons (pv 1) pa_nil)) pe_int (nomark _)))))
      (pss_one (ps_ret pe_bl))
      pss_nil)
    (pss_cons (ps_asg (pv 1) (pg_tup (by rfl) (pgs_cons (pg_name (i := 2) sc_is_item.nd rfl (.inl rfl)) (pgs_cons (pg_name (i := 3) sc_is_item.nd rfl (.inl rfl)) pgs_nil))))
    (pss_cons (ps_if (PW.pt (pw_or (pt_not (pt_val (pe_callB call_isi (by rfl) T.n_isinstance (by decide +kernel) (pa_cons (pv 2) (pa_cons (pe_bltn (v := .ty "tuple") (by rfl) T.n_tuple (by decide +kernel) rfl) pa_nil))))) (pw_or1 (pt_not (pt_val (pe_callB (cr_all rfl) (by rfl) T.n_all (by decide +kernel) (pa_cons (pe_lc (own := [("part", 4)]) (g := gName 4) (tt := tYes) rfl sc_is_item.nd (pi_tup (pv 2)) (blkOk_by (N := ["lanes", "thing", "shut", "arm", "part"]) (sc := defScope s_is_item) (by decide +kernel)) (fun _ _ _ _ _ => (pg_name (i := 4) sc_is_item.nd rfl (.inl rfl))) (fun _ _ _ _ _ => pts_nil) (fun _ _ _ _ _ => (pe_ca CD (hr.mono (by decide)) (by rfl) (pa_cons (pv 0) (pa_cons (pv 4) pa_nil))))) pa_nil)))))))
      (pss_one (ps_ret pe_bl))
      pss_nil)
    (pss_one (ps_ret (pe_and (pe_ca CAs (hr.mono (by decide)) (by rfl) (pa_cons (pv 2) pa_nil)) (pe_one (pe_or (pe_cmpR op_isN (pv 3) pe_non (nomark _)) (pe_one (pe_ca CD (hr.mono (by decide)) (by rfl) (pa_cons (pv 0) (pa_cons (pv 3) pa_nil)))))))))))), ?_⟩
    obtain ⟨_, _, _, _, _, _, _, _, _, _, _, hns, _⟩ := id hL
    refine ⟨_, rfl, _, _, _, _, _, rfl, .ty "tuple", ty_of hv, ki_tuple d, _, rfl, ?_⟩
    cases hT : kT d with
    | false =>
      refine iteT ?_
      have q' := q H (Ext.refl H)
      rw [itemB_not hT] at q'
      exact q'
    | true =>
      refine iteF ?_
      obtain ⟨a, xs, ds, rfl, rfl, ha, t⟩ := dq_tup hv hT
      refine ⟨_, rfl, a, _, rfl, .inr (SqT.of ha), rfl, _, rfl, ?_⟩
      by_cases hlen : xs.length = 2
      · rw [hlen]
        refine iteF ?_
        obtain ⟨v0, v1, d0, d1, rfl, rfl, t0, t1⟩ := two_of t hlen
        refine ⟨_, rfl, a, _, rfl, SqT.of ha, rfl, _, _, rfl, _, _, rfl, rfl, ?_⟩
        refine ⟨_, rfl, _, _, _, _, _, rfl, .ty "tuple", ty_of t0, ki_tuple d0, _, rfl, ?_⟩
        cases hT0 : kT d0 with
        | false =>
          refine iteT ?_
          have q' := q H (Ext.refl H)
          rw [itemB_fst hT0] at q'
          exact q'
        | true =>
          refine iteF ?_
          obtain ⟨b, ys, sh, rfl, rfl, hb, hys⟩ := dq_tup t0 hT0
          have lsh := sm sh d1 rfl
          have lys := hys.len
          refine ⟨_, rfl, b, rfl, ⟨_, SqT.of hb⟩, fun D hD => ?_⟩
          refine lc1_acc (walk_tup (xs := ys)) (fun i zs _ => zs = ((sh.take i).map (dealB ns)).map V.bl) (fun _ _ _ _ _ h => h) rfl hD (fun i zs _ h => by rw [h, List.length_map, List.length_map, List.length_take]; exact Nat.lt_of_le_of_lt (show _ ≤ 64 by omega) (by decide)) (fun H' e => SqT.of (e _ _ hb)) ?_ ?_
          · rintro i x Hi H' zs hi e hy ⟨rfl, hxi⟩ hp QY QN kY kN
            have hi2 : i < sh.length := by omega
            obtain ⟨x', hx', dx⟩ := DqAll_get hys i sh[i] (List.getElem?_eq_getElem hi2)
            rw [hxi] at hx'
            cases hx'
            refine ⟨rfl, ?_⟩
            refine tyes ?_
            refine ⟨_, rfl, _, rfl, lx, x, ns, bs, sh[i], rfl, hL.up e, dx.up e, fun H4 e4 => ?_⟩
            refine kY _ H4 e4 ?_
            rw [hp, List.take_add_one, List.getElem?_eq_getElem hi2, Option.toList_some, List.map_append, List.map_append]
            rfl
          · rintro H4 zs e4 hy hp
            rw [lys, List.take_length] at hp
            refine ⟨D, sh.map (dealB ns), rfl, SqL.of (by rw [hy, hp]), _, rfl, ?_⟩
            rw [all_take]
            have q' := fun H' e => q H' e
            have ei : itemB ns (.tuple [.tuple sh, d1]) = (sh.all (dealB ns) && (decide (Asc sh) && (nonD d1 || dealB ns d1))) := rfl
            rw [ei] at q'
            cases hall : sh.all (dealB ns) with
            | false =>
              refine iteT ?_
              have q2 := q' H4 e4
              rw [hall, Bool.false_and] at q2
              exact q2
            | true =>
              refine iteF ?_
              refine ⟨_, rfl, b, ys, ns, sh, rfl, sysUp hS e4, e4 _ _ hb, DqAll.up e4 hys, fun d hd => dealB_ok hns (List.all_eq_true.mp hall d hd), lsh, fun H5 e5 => ⟨_, rfl, ?_⟩⟩
              have e45 := e4.trans e5
              by_cases hA : Asc sh
              · rw [decide_eq_true hA]
                refine iteT ?_
                refine ⟨_, rfl, rfl, nonD d1, by cases t1 <;> rfl, ?_⟩
                cases hn : nonD d1 with
                | true =>
                  refine iteT ?_
                  have q2 := q' H5 e45
                  rw [hall, decide_eq_true hA, hn, Bool.true_and, Bool.true_and, Bool.true_or] at q2
                  exact q2
                | false =>
                  refine iteF ?_
                  refine ⟨_, rfl, _, rfl, lx, v1, ns, bs, d1, rfl, hL.up e45, t1.up e45, fun H6 e6 => ?_⟩
                  have q2 := q' H6 (e45.trans e6)
                  rw [hall, decide_eq_true hA, hn, Bool.true_and, Bool.true_and, Bool.false_or] at q2
                  exact q2
              · rw [decide_eq_false hA]
                refine iteF ?_
                have q2 := q' H5 e45
                rw [hall, decide_eq_false hA, Bool.true_and, Bool.false_and] at q2
                exact q2
      · have z : decide (V.int (xs.length : Int) = V.int 2) = false := decide_eq_false fun y => by injection y with y; omega
        refine ite2 (fun g => ?_) (fun g => ?_)
        · have q' := q H (Ext.refl H)
          rw [itemB_len (by rw [← t.len]; exact hlen)] at q'
          exact q'
        · exfalso
          have g' : ¬ (!decide (V.int (xs.length : Int) = V.int 2)) = true := g
          rw [z] at g'
          exact g' rfl
/-! ### is_row -/
def spIr (K : PySem.W.Frag) (C : Addr) : Sp := fun vs H Q _ => ∃ (lx : Addr) (v : V) (ns : List Str) (bs : List Int), vs = [.ref lx, v] ∧ Sys H ∧ LanesAt C H lx ns bs ∧
  ((∃ d, Dq H v d ∧ (∀ ds, d = .list ds → ds.length ≤ 20000 ∧ ∀ e ∈ ds, Sm e) ∧ ∀ H', Ext H H' → Q (.bl (rowB ns d)) H') ∨
   (∃ t, TyX K H v t ∧ PySem.W.kitOne K t (.type "list") = some false ∧ ∀ H', Ext H H' → Q (.bl false) H'))
abbrev s_is_row : Stmt := (topS 30)
theorem sc_is_row : FnScope ["lanes", "thing", "part"] ["lanes", "thing"] (defScope s_is_row) := ⟨rfl, rfl, rfl, by decide +kernel, rfl, by decide +kernel, by decide +kernel⟩
theorem ok_isrow {f : Addr} {fd : FuncData} (F : Fun K "is_row" "is_row" s_is_row f fd) (T : BT mg) (CI : Ca P w K mg base 4 "is_item" ["lanes", "thing"] (spIt C)) :
    FnOk P w K mg base CX0 5 f fd ["lanes", "thing"] (spIr K C) := by
  refine F.ok sc_is_row (fun vs H Q E h => ?_) (fun cdv A outer s H vs Q E hr h => ?_)
  · obtain ⟨lx, v, ns, bs, rfl, _⟩ := h
    rfl
  · obtain ⟨lx, v, ns, bs, rfl, hS, hL, hh⟩ := h
    refine ⟨_, (pss_one (ps_ret (pe_and (pe_callB call_isi (by rfl) T.n_isinstance (by decide +kernel) (pa_cons (pv 1) (pa_cons (pe_bltn (v := .ty "list") (by rfl) T.n_list (by decide +kernel) rfl) pa_nil))) (pe_one (pe_callB (cr_all rfl) (by rfl) T.n_all (by decide +kernel) (pa_cons (pe_lc (own := [("part", 2)]) (g := gName 2) (tt := tYes) rfl sc_is_row.nd (pi_list (pv 1)) (blkOk_by (N := ["lanes", "thing", "part"]) (sc := defScope s_is_row) (by decide +kernel)) (fun _ _ _ _ _ => (pg_name (i := 2) sc_is_row.nd rfl (.inl rfl))) (fun _ _ _ _ _ => pts_nil) (fun _ _ _ _ _ => (pe_ca CI (hr.mono (by decide)) (by rfl) (pa_cons (pv 0) (pa_cons (pv 2) pa_nil))))) pa_nil)))))), ?_⟩
    rcases hh with ⟨d, hv, ok, q⟩ | ⟨t, ht, hk, q⟩
    · refine ⟨_, rfl, _, _, _, _, _, rfl, .ty "list", ty_of hv, ki_list d, _, rfl, ?_⟩
      cases hT : kL d with
      | false =>
        refine iteF ?_
        have q' := q H (Ext.refl H)
        rw [rowB_not hT] at q'
        exact q'
      | true =>
        refine iteT ?_
        obtain ⟨ds, rfl⟩ : ∃ ds, d = .list ds := by
          cases d with
          | list ds => exact ⟨ds, rfl⟩
          | _ => cases hT
        obtain ⟨l, xs, rfl, hl, hx⟩ := lst_inv hv
        obtain ⟨l20, sm⟩ := ok ds rfl
        have lxs := hx.len
        refine ⟨_, rfl, l, rfl, ⟨_, SqL.of hl⟩, fun D hD => ?_⟩
        refine lc1_acc (walk_list (xs := xs)) (fun i zs _ => zs = ((ds.take i).map (itemB ns)).map V.bl) (fun _ _ _ _ _ h => h) rfl hD (fun i zs _ h => by rw [h, List.length_map, List.length_map, List.length_take]; exact Nat.lt_of_le_of_lt (show _ ≤ 20000 by omega) (by decide)) (fun H' e => SqL.of (e _ _ hl)) ?_ ?_
        · rintro i x Hi H' zs hi e hy ⟨rfl, hxi⟩ hp QY QN kY kN
          have hi2 : i < ds.length := by omega
          obtain ⟨x', hx', dx⟩ := DqAll_get hx i ds[i] (List.getElem?_eq_getElem hi2)
          rw [hxi] at hx'
          cases hx'
          refine ⟨rfl, ?_⟩
          refine tyes ?_
          refine ⟨_, rfl, _, rfl, lx, x, ns, bs, ds[i], rfl, sysUp hS e, hL.up e, dx.up e, sm _ (List.getElem_mem hi2), fun H4 e4 => ?_⟩
          refine kY _ H4 e4 ?_
          rw [hp, List.take_add_one, List.getElem?_eq_getElem hi2, Option.toList_some, List.map_append, List.map_append]
          rfl
        · rintro H4 zs e4 hy hp
          rw [lxs, List.take_length] at hp
          refine ⟨D, ds.map (itemB ns), rfl, SqL.of (by rw [hy, hp]), ?_⟩
          rw [all_take]
          exact q _ e4
    · refine ⟨_, rfl, _, _, _, _, _, rfl, .ty "list", ht, hk, _, rfl, ?_⟩
      refine iteF ?_
      exact q H (Ext.refl H)
end
end K70

set_option Elab.async false
set_option linter.all false
set_option maxRecDepth 100000
set_option maxHeartbeats 4000000
namespace K70
open PySem PySem.Spec PyProof.Rows L2 Ol RZ
open TL (tl)
theorem two_le {xs : List V} (h : xs.length ≠ 2) : decide (V.int (xs.length : Int) = V.int 2) = false := decide_eq_false fun y => by injection y with y; omega
theorem strIn_keys {ps : List (Str × Int)} {ns : List Str} (hp : ns.Perm (ps.map (·.1))) (d : PyData) : strIn (ps.map (·.1)) d = strIn ns d := by
  cases d with
  | str x =>
    rw [strIn_str, strIn_str]
    by_cases c : x ∈ ns
    · rw [decide_eq_true c, decide_eq_true (hp.mem_iff.mp c)]
    · rw [decide_eq_false c, decide_eq_false fun z => c (hp.mem_iff.mpr z)]
  | _ => rw [strIn_no rfl, strIn_no rfl]
theorem kv_keys (ps : List (Str × Int)) : ((kvI ps).map fun kv => kV kv.1) = (ps.map (·.1)).map V.str := by
  unfold kvI
  rw [List.map_map, List.map_map]
  rfl
section
variable {P : Program} {w : World} {K : PySem.W.Frag} {mg : Str → Option Value} {base : Heap} {C CP S SP : Addr}
/-! ### _law_pair_right -/
def spPR : Sp := fun vs H Q _ => ∃ (db : Addr) (v : V) (ps : List (Str × Int)) (ns : List Str) (d : PyData), vs = [.ref db, v] ∧ H db = some (.dK (kvI ps)) ∧ ns.Perm (ps.map (·.1)) ∧ Dq H v d ∧ ∀ H', Ext H H' → Q (.bl (dealB ns d)) H'
abbrev s__law_pair_right : Stmt := (topS 51)
theorem sc__law_pair_right : FnScope ["_law_bounds_here", "_law_thing"] ["_law_bounds_here", "_law_thing"] (defScope s__law_pair_right) := ⟨rfl, rfl, rfl, by decide +kernel, rfl, by decide +kernel, by decide +kernel⟩
theorem ok_pr {f : Addr} {fd : FuncData} (F : Fun K "_law_pair_right" "_law_pair_right" s__law_pair_right f fd) (T : BT mg) :
    FnOk P w K mg base CX0 1 f fd ["_law_bounds_here", "_law_thing"] spPR := by
  refine F.ok sc__law_pair_right (fun vs H Q E h => ?_) (fun cdv A outer s H vs Q E hr h => ?_)
  · obtain ⟨db, v, ps, ns, d, rfl, _⟩ := h
    rfl
  · obtain ⟨db, v, ps, ns, d, rfl, hdb, hp, hv, q⟩ := h
    have hu65 : (A.deeper (envOfC "_law_pair_right" (defScope s__law_pair_right) s.heap.objs.size f cdv)).units + 65 < cLine := by have := hr.un; omega
    refine ⟨_, (pss_cons (ps_if (pt_not (pt_val (pe_callB call_isi (by rfl) T.n_isinstance (by decide +kernel) (pa_cons (pv 1) (pa_cons (pe_bltn (v := .ty "tuple") (by rfl) T.n_tuple (by decide +kernel) rfl) pa_nil)))))
      (pss_one (ps_ret pe_bl))
      pss_nil)
    (pss_cons (ps_if (pt_cmpR op_ne (pe_callB call_len_seq (by rfl) T.n_len (by decide +kernel) (pa_cons (pv 1) pa_nil)) pe_int (nomark _))
      (pss_one (ps_ret pe_bl))
      pss_nil)
    (pss_cons (ps_if (pt_cmpR (op_notInWT hu65) (pe_ix ix_tup (pv 1) pe_int (fun _ _ => rfl)) (pe_tup (pa_cons pe_str (pa_cons pe_str (pa_cons pe_str (pa_cons pe_str pa_nil))))) (by rfl))
      (pss_one (ps_ret pe_bl))
      pss_nil)
    (pss_one (ps_ret (pe_cmpR (op_inWL hu65) (pe_ix ix_tup (pv 1) pe_int (fun _ _ => rfl)) (pe_callTy (call_list_dK rfl) (by rfl) T.n_list (by decide +kernel) (pa_cons (pv 0) pa_nil)) (by rfl))))))), ?_⟩
    refine ⟨_, rfl, _, _, _, _, _, rfl, .ty "tuple", ty_of hv, ki_tuple d, _, rfl, ?_⟩
    cases hT : kT d with
    | false =>
      refine iteT ?_
      have q' := q H (Ext.refl H)
      rw [dealB_not hT] at q'
      exact q'
    | true =>
      refine iteF ?_
      obtain ⟨a, xs, ds, rfl, rfl, ha, t⟩ := dq_tup hv hT
      refine ⟨_, rfl, a, _, rfl, .inr (SqT.of ha), rfl, _, rfl, ?_⟩
      by_cases hlen : xs.length = 2
      · rw [hlen]
        refine iteF ?_
        obtain ⟨v0, v1, d0, d1, rfl, rfl, t0, t1⟩ := two_of t hlen
        refine ⟨_, rfl, a, _, 0, _, rfl, rfl, SqT.of ha, rfl, by show 4 ≤ sizeLine; decide, fun tw htw => ?_⟩
        have e1 := Ext.new (o := .tup [.str "close", .str "ended", .str "send", .str "take"]) htw
        have h1 : upd H tw (.tup [.str "close", .str "ended", .str "send", .str "take"]) tw = some (.tup (words4.map V.str)) := upd_same
        refine ⟨d0, tw, words4, t0.up e1, rfl, SqT.of h1, _, rfl, ?_⟩
        rw [strIn_word]
        have ed : dealB ns (.tuple [d0, d1]) = (isWordD d0 && strIn ns d1) := rfl
        have q' := fun H' e => q H' e
        rw [ed] at q'
        cases hw : isWordD d0 with
        | false =>
          refine iteT ?_
          have q2 := q' _ e1
          rw [hw, Bool.false_and] at q2
          exact q2
        | true =>
          refine iteF ?_
          refine ⟨_, rfl, a, _, 1, _, rfl, rfl, SqT.of (e1 _ _ ha), rfl, _, rfl, db, kvI ps, rfl, e1 _ _ hdb, fun l hl => ?_⟩
          rw [kv_keys]
          have e2 := Ext.new (o := .lst ((ps.map (·.1)).map V.str)) hl
          refine ⟨d1, l, ps.map (·.1), t1.up (e1.trans e2), rfl, SqL.of upd_same, ?_⟩
          rw [strIn_keys hp]
          have q2 := q' _ (e1.trans e2)
          rw [hw, Bool.true_and] at q2
          exact q2
      · refine ite2 (fun g => ?_) (fun g => ?_)
        · have q' := q H (Ext.refl H)
          rw [dealB_len (by rw [← t.len]; exact hlen)] at q'
          exact q'
        · exfalso
          have g' : ¬ (!decide (V.int (xs.length : Int) = V.int 2)) = true := g
          rw [two_le hlen] at g'
          exact g' rfl
/-! ### _law_due -/
def spDue : Sp := fun vs H Q _ => ∃ (db : Addr) (v : V) (ps : List (Str × Int)) (ns : List Str) (d : PyData), vs = [.ref db, v] ∧ Sys H ∧ H db = some (.dK (kvI ps)) ∧ ns.Perm (ps.map (·.1)) ∧ (∀ x ∈ ns, isNameS x = true) ∧ Dq H v d ∧ (∀ ds, d = .list ds → ∀ e ∈ ds, Sm e) ∧ ∀ H', Ext H H' → Q (.bl (rowB ns d)) H'
abbrev s__law_due : Stmt := (topS 52)
theorem sc__law_due : FnScope ["_law_bounds_here", "_law_thing", "_law_item", "_law_one", "_law_k"] ["_law_bounds_here", "_law_thing"] (defScope s__law_due) := ⟨rfl, rfl, rfl, by decide +kernel, rfl, by decide +kernel, by decide +kernel⟩
theorem ok_du {f : Addr} {fd : FuncData} (F : Fun K "_law_due" "_law_due" s__law_due f fd) (T : BT mg) (CPR : Ca P w K mg base 1 "_law_pair_right" ["_law_bounds_here", "_law_thing"] spPR) :
    FnOk P w K mg base CX0 2 f fd ["_law_bounds_here", "_law_thing"] spDue := by
  refine F.ok sc__law_due (fun vs H Q E h => ?_) (fun cdv A outer s H vs Q E hr h => ?_)
  · obtain ⟨db, v, ps, ns, d, rfl, _⟩ := h
    rfl
  · obtain ⟨db, v, ps, ns, d, rfl, hS, hdb, hp, hns, hv, ok, q⟩ := h
    have hu65 : (A.deeper (envOfC "_law_due" (defScope s__law_due) s.heap.objs.size f cdv)).units + 65 < cLine := by have := hr.un; omega
    refine ⟨_, (pss_cons (ps_if (pt_not (pt_val (pe_callB call_isi (by rfl) T.n_isinstance (by decide +kernel) (pa_cons (pv 1) (pa_cons (pe_bltn (v := .ty "list") (by rfl) T.n_list (by decide +kernel) rfl) pa_nil)))))
      (pss_one (ps_ret pe_bl))
      pss_nil)
    (pss_cons (ps_for PassesOwn.never rfl (pi_list (pv 1)) (pg_name (i := 2) sc__law_due.nd rfl (.inr rfl))
      (pss_cons (ps_if (PW.pt (pw_or (pt_not (pt_val (pe_callB call_isi (by rfl) T.n_isinstance (by decide +kernel) (pa_cons (pv 2) (pa_cons (pe_bltn (v := .ty "tuple") (by rfl) T.n_tuple (by decide +kernel) rfl) pa_nil))))) (pw_or (pt_cmpR op_ne (pe_callB call_len_seq (by rfl) T.n_len (by decide +kernel) (pa_cons (pv 2) pa_nil)) pe_int (nomark _)) (pw_or1 (pt_not (pt_val (pe_callB call_isi (by rfl) T.n_isinstance (by decide +kernel) (pa_cons (pe_ix ix_tup (pv 2) pe_int (fun _ _ => rfl)) (pa_cons (pe_bltn (v := .ty "tuple") (by rfl) T.n_tuple (by decide +kernel) rfl) pa_nil)))))))))
        (pss_one (ps_ret pe_bl))
        pss_nil)
      (pss_cons (ps_if (pt_cmpR (op_neE hr) (pe_lc (own := [("_law_one", 3)]) (g := gName 3) (tt := _) rfl sc__law_due.nd (pi_tup (pe_ix ix_tup (pv 2) pe_int (fun _ _ => rfl))) (blkOk_by (N := ["_law_bounds_here", "_law_thing", "_law_item", "_law_one", "_law_k"]) (sc := defScope s__law_due) (by decide +kernel)) (fun _ _ _ _ _ => (pg_name (i := 3) sc__law_due.nd rfl (.inl rfl))) (fun _ _ _ _ _ => (pts_one (pt_not (pt_val (pe_ca CPR (hr.mono (by decide)) (by rfl) (pa_cons (pv 0) (pa_cons (pv 3) pa_nil))))))) (fun _ _ _ _ _ => (pv 3))) (pe_lst pa_nil) (nomark _))
        (pss_one (ps_ret pe_bl))
        pss_nil)
      (pss_cons (ps_if (pt_cmpR (op_neE hr) (pe_lc (own := [("_law_k", 4)]) (g := gName 4) (tt := tTest (tOp rGeQ (tOp (rIxT K) (tOp (rIxT K) (tVar 2) (tC (.int 0))) (tOp (rI0 fun i j => .int (i - j)) (tVar 4) (tC (.int 1)))) (tOp (rIxT K) (tOp (rIxT K) (tVar 2) (tC (.int 0))) (tVar 4)))) rfl sc__law_due.nd (pi_range2 (by rfl) T.n_range (pa_cons pe_int (pa_cons (pe_callB call_len_seq (by rfl) T.n_len (by decide +kernel) (pa_cons (pe_ix ix_tup (pv 2) pe_int (fun _ _ => rfl)) pa_nil)) pa_nil))) (blkOk_by (N := ["_law_bounds_here", "_law_thing", "_law_item", "_law_one", "_law_k"]) (sc := defScope s__law_due) (by decide +kernel)) (fun _ _ _ _ _ => (pg_name (i := 4) sc__law_due.nd rfl (.inl rfl))) (fun _ _ _ _ _ => (pts_one (pt_cmpR (op_geQ hu65) (pe_ix ix_tup (pe_ix ix_tup (pv 2) pe_int (fun _ _ => rfl)) (pe_op op_sub (pv 4) pe_int) (fun _ _ => rfl)) (pe_ix ix_tup (pe_ix ix_tup (pv 2) pe_int (fun _ _ => rfl)) (pv 4) (fun _ _ => rfl)) (nomark _)))) (fun _ _ _ _ _ => (pv 4))) (pe_lst pa_nil) (nomark _))
        (pss_one (ps_ret pe_bl))
        pss_nil)
      (pss_one (ps_if (PW.pt (pw_and (pt_cmpR op_notN (pe_ix ix_tup (pv 2) pe_int (fun _ _ => rfl)) pe_non (nomark _)) (pw_and1 (pt_not (pt_val (pe_ca CPR (hr.mono (by decide)) (by rfl) (pa_cons (pv 0) (pa_cons (pe_ix ix_tup (pv 2) pe_int (fun _ _ => rfl)) pa_nil))))))))
        (pss_one (ps_ret pe_bl))
        pss_nil))))))
    (pss_one (ps_ret pe_bl)))), ?_⟩
    refine ⟨_, rfl, _, _, _, _, _, rfl, .ty "list", ty_of hv, ki_list d, _, rfl, ?_⟩
    cases hT : kL d with
    | false =>
      refine iteT ?_
      have q' := q H (Ext.refl H)
      rw [rowB_not hT] at q'
      exact q'
    | true =>
      refine iteF ?_
      obtain ⟨ds, rfl⟩ : ∃ ds, d = .list ds := by
        cases d with
        | list ds => exact ⟨ds, rfl⟩
        | _ => cases hT
      obtain ⟨l, xs, rfl, hl, hx⟩ := lst_inv hv
      have sm := ok ds rfl
      have lxs := hx.len
      have eR : rowB ns (.list ds) = ds.all (itemB ns) := rfl
      rw [eR] at q
      have bad : ∀ {i : Nat} (hi : i < ds.length) {H' : Hp}, Ext H H' → itemB ns ds[i] = false → Q (.bl false) H' := fun {i} hi {H'} e hf => by
        have q' := q H' e
        rw [show ds.all (itemB ns) = false from List.all_eq_false.mpr ⟨_, List.getElem_mem hi, by rw [hf]; exact Bool.false_ne_true⟩] at q'
        exact q'
      refine ⟨_, rfl, l, rfl, ⟨_, SqL.of hl⟩, ?_⟩
      refine for_it (walk_list (xs := xs)) (fun i σ H' => ∃ s2 s3 s4, σ = [some (.ref db), some (.ref l), s2, s3, s4] ∧ Ext H H' ∧ ∀ j (hj : j < ds.length), j < i → itemB ns ds[j] = true)
        ⟨none, none, none, rfl, Ext.refl _, fun j _ h => absurd h (Nat.not_lt_zero j)⟩ (fun i σ H' _ ⟨_, _, _, _, e, _⟩ => SqL.of (e _ _ hl)) ?_ ?_
      · rintro i x σ Hq H1 hi ⟨s2, s3, s4, rfl, e1, hall⟩ ⟨rfl, hxi⟩
        have hi2 : i < ds.length := by omega
        obtain ⟨x', hx', dx⟩ := DqAll_get hx i ds[i] (List.getElem?_eq_getElem hi2)
        rw [hxi] at hx'
        cases hx'
        have smi := sm _ (List.getElem_mem hi2)
        have badi : ∀ {H' : Hp}, Ext H H' → itemB ns ds[i] = false → Q (.bl false) H' := fun {H'} e hf => bad hi2 e hf
        have goodi : itemB ns ds[i] = true → ∀ j (hj : j < ds.length), j < i + 1 → itemB ns ds[j] = true := fun g j hj hji => by
          rcases Nat.lt_succ_iff_lt_or_eq.mp hji with h | rfl
          · exact hall j hj h
          · exact g
        generalize ds[i] = di at dx smi badi goodi
        have dx1 := dx.up e1
        refine ⟨_, rfl, _, _, _, _, _, rfl, .ty "tuple", ty_of dx1, ki_tuple di, _, rfl, ?_⟩
        cases hTi : kT di with
        | false =>
          refine iteT ?_
          exact badi e1 (itemB_not hTi)
        | true =>
          refine iteF ?_
          obtain ⟨a, ys, es, rfl, rfl, ha, t⟩ := dq_tup dx1 hTi
          refine ⟨_, rfl, a, _, rfl, .inr (SqT.of ha), rfl, _, rfl, ?_⟩
          by_cases hlen : ys.length = 2
          · rw [hlen]
            refine iteF ?_
            obtain ⟨v0, v1, d0, d1, rfl, rfl, t0, t1⟩ := two_of t hlen
            refine ⟨_, rfl, a, _, 0, _, rfl, rfl, SqT.of ha, rfl, _, _, _, _, _, rfl, .ty "tuple", ty_of t0, ki_tuple d0, _, rfl, ?_⟩
            cases hT0 : kT d0 with
            | false =>
              refine iteT ?_
              exact badi e1 (itemB_fst hT0)
            | true =>
              refine iteF ?_
              obtain ⟨b, zs, sh, rfl, rfl, hb, hzs⟩ := dq_tup t0 hT0
              have lsh := smi sh d1 rfl
              have lzs := hzs.len
              have ei : itemB ns (.tuple [.tuple sh, d1]) = (sh.all (dealB ns) && (decide (Asc sh) && (nonD d1 || dealB ns d1))) := rfl
              rw [ei] at badi goodi
              refine ⟨_, rfl, a, _, 0, _, rfl, rfl, SqT.of ha, rfl, b, rfl, ⟨_, SqT.of hb⟩, fun D hD => ?_⟩
              refine lc1_acc (walk_tup (xs := zs)) (fun i ws _ => ws.length = ((sh.take i).filter fun d => !dealB ns d).length) (fun _ _ _ _ _ h => h) rfl hD (fun i ws _ h => by
                rw [h]
                have := List.length_filter_le (fun d => !dealB ns d) (sh.take i)
                rw [List.length_take] at this
                exact Nat.lt_of_le_of_lt (show _ ≤ 64 by omega) (by decide)) (fun H' e => SqT.of (e _ _ hb)) ?_ ?_
              · rintro i' x Hi H' ws hi' e hy ⟨rfl, hxi'⟩ hp' QY QN kY kN
                have hi3 : i' < sh.length := by omega
                obtain ⟨x', hx', dx'⟩ := DqAll_get hzs i' sh[i'] (List.getElem?_eq_getElem hi3)
                rw [hxi'] at hx'
                cases hx'
                have stp : ((sh.take (i' + 1)).filter fun d => !dealB ns d).length = ((sh.take i').filter fun d => !dealB ns d).length + (if dealB ns sh[i'] then 0 else 1) := by
                  rw [List.take_add_one, List.getElem?_eq_getElem hi3, Option.toList_some, List.filter_append, List.length_append]
                  congr 1
                  rw [List.filter_cons]
                  cases dealB ns sh[i'] <;> rfl
                refine ⟨rfl, ?_⟩
                refine ⟨_, rfl, _, rfl, db, x, ps, ns, sh[i'], rfl, (e1.trans e) _ _ hdb, hp, dx'.up e, fun H5 e5 => ⟨_, rfl, ?_⟩⟩
                cases hd' : dealB ns sh[i'] with
                | true =>
                  refine iteF ?_
                  rw [hd'] at stp
                  exact kN _ e5 (by rw [stp]; exact hp')
                | false =>
                  refine iteT ?_
                  rw [hd'] at stp
                  exact ⟨_, rfl, kY _ _ e5 (by rw [stp, List.length_append, hp']; rfl)⟩
              · rintro H4 ws e4 hy hp'
                rw [lzs, List.take_length] at hp'
                have e14 := e1.trans e4
                refine ⟨by show 0 ≤ sizeLine; decide, fun c hc => ?_⟩
                have e5 := Ext.new (o := .lst []) hc
                refine ⟨D, c, ws, rfl, rfl, SqL.of (e5 _ _ hy), SqL.of upd_same, _, rfl, ?_⟩
                have e15 := e14.trans e5
                have hb5 := (e4.trans e5) _ _ hb
                have ha5 := (e4.trans e5) _ _ ha
                have t15 := t1.up (e4.trans e5)
                have hzs5 := DqAll.up (e4.trans e5) hzs
                generalize upd H4 c (.lst []) = H5 at e5 e15 hb5 ha5 t15 hzs5 ⊢
                cases hall : sh.all (dealB ns) with
                | false =>
                  have hw : ws.isEmpty = false := by
                    obtain ⟨d, hd, hf⟩ := List.all_eq_false.mp hall
                    have : 0 < (sh.filter fun d => !dealB ns d).length := List.length_pos_of_mem (List.mem_filter.mpr ⟨hd, by simpa using hf⟩)
                    rw [← hp'] at this
                    cases ws with
                    | nil => cases this
                    | cons _ _ => rfl
                  rw [hw]
                  refine iteT ?_
                  exact badi e15 (by rw [hall]; rfl)
                | true =>
                  have hw : ws.isEmpty = true := by
                    have : (sh.filter fun d => !dealB ns d) = [] := List.filter_eq_nil_iff.mpr fun d hd => by
                      rw [List.all_eq_true.mp hall d hd]
                      simp
                    rw [this] at hp'
                    cases ws with
                    | nil => rfl
                    | cons _ _ => cases hp'
                  rw [hw]
                  refine iteF ?_
                  rw [hall] at badi goodi
                  have pr : ∀ d ∈ sh, ∃ p, DealOk ns p ∧ d = pairD p := fun d hd => dealB_ok hns (List.all_eq_true.mp hall d hd)
                  have pr' : ∀ d ∈ sh, ∃ p, d = pairD p := fun d hd => (pr d hd).imp fun p h => h.2
                  refine ⟨_, rfl, a, _, 0, _, rfl, rfl, SqT.of ha5, rfl, b, _, rfl, .inr (SqT.of hb5), 1, (zs.length : Int), rfl, ⟨by decide, by decide, by omega, by omega⟩, fun D2 hD2 => ?_⟩
                  refine lc1_acc (walk_range (lo := 1) (n := ((zs.length : Int) - 1).toNat)) (fun j us _ => (us = [] ↔ ∀ k, 1 ≤ k → k < j + 1 → ∀ p q, sh[k - 1]? = some p → sh[k]? = some q → W.dataLt p q = true) ∧ us.length ≤ j ∧ j ≤ 64) (fun _ _ _ _ _ h => h) ⟨⟨fun _ k h1 h2 => absurd h1 (by omega), fun _ => rfl⟩, Nat.le_refl _, by decide⟩ hD2
                    (fun j us _ h => Nat.lt_of_le_of_lt (show us.length ≤ 64 by have := h.2; omega) (by decide)) (fun _ _ => trivial) ?_ ?_
                  · rintro j y Ha Hb us hj ea hya ⟨rfl, rfl⟩ ⟨hiff, hu1, hu2⟩ QY QN kY kN
                    have hj1 : j + 1 < sh.length := by omega
                    have hj0 : j < sh.length := by omega
                    obtain ⟨x0, hx0, dx0⟩ := DqAll_get hzs5 j sh[j] (List.getElem?_eq_getElem hj0)
                    obtain ⟨x1, hx1, dx1'⟩ := DqAll_get hzs5 (j + 1) sh[j + 1] (List.getElem?_eq_getElem hj1)
                    obtain ⟨p0, _, ep0⟩ := pr sh[j] (List.getElem_mem hj0)
                    obtain ⟨p1, _, ep1⟩ := pr sh[j + 1] (List.getElem_mem hj1)
                    refine ⟨rfl, ?_⟩
                    refine ⟨_, rfl, a, _, 0, _, rfl, rfl, SqT.of (ea _ _ ha5), rfl, _, rfl, 1 + (j : Int), 1, rfl, rfl, b, zs, _, x0, rfl, rfl, SqT.of (ea _ _ hb5), by rw [show (1 : Int) + (j : Int) - 1 = (j : Int) by omega]; exact atI_nat hx0, _, rfl, a, _, 0, _, rfl, rfl, SqT.of (ea _ _ ha5), rfl, _, rfl, b, zs, _, x1, rfl, rfl, SqT.of (ea _ _ hb5), by rw [show (1 : Int) + (j : Int) = ((j + 1 : Nat) : Int) by omega]; exact atI_nat hx1, ?_⟩
                    refine ⟨sh[j], sh[j + 1], sysUp hS (e15.trans ea), dx0.up ea, dx1'.up ea, by rw [ep0, ep1]; simp [pairD, PySem.W.alike, PySem.W.alikeAll], by rw [ep0]; simp [pairD], by rw [ep0]; simp [pairD, PyData.depth, PyData.depthAll], _, rfl, ?_⟩
                    have ext : (∀ k, 1 ≤ k → k < j + 1 + 1 → ∀ p q, sh[k - 1]? = some p → sh[k]? = some q → W.dataLt p q = true) ↔ (∀ k, 1 ≤ k → k < j + 1 → ∀ p q, sh[k - 1]? = some p → sh[k]? = some q → W.dataLt p q = true) ∧ W.dataLt sh[j] sh[j + 1] = true := by
                      constructor
                      · intro h
                        exact ⟨fun k h1 h2 => h k h1 (by omega), h (j + 1) (by omega) (by omega) _ _ (List.getElem?_eq_getElem hj0) (List.getElem?_eq_getElem hj1)⟩
                      · rintro ⟨h1, h2⟩ k k1 k2 p q hp1 hq1
                        by_cases c : k = j + 1
                        · subst c
                          rw [show j + 1 - 1 = j by omega, List.getElem?_eq_getElem hj0] at hp1
                          rw [List.getElem?_eq_getElem hj1] at hq1
                          cases hp1
                          cases hq1
                          exact h2
                        · exact h1 k k1 (by omega) p q hp1 hq1
                    cases hlt : W.dataLt sh[j] sh[j + 1] with
                    | true =>
                      refine iteF ?_
                      refine kN _ (Ext.refl _) ⟨?_, by omega, by omega⟩
                      rw [ext, hiff]
                      exact ⟨fun h => ⟨h, hlt⟩, fun h => h.1⟩
                    | false =>
                      refine iteT ?_
                      refine ⟨_, rfl, kY _ _ (Ext.refl _) ⟨⟨fun z => ?_, fun z => ?_⟩, by rw [List.length_append]; simp; omega, by omega⟩⟩
                      · simp at z
                      · have := (ext.mp z).2
                        rw [hlt] at this
                        cases this
                  · rintro H6 us e6 hyu ⟨hiff, _, _⟩
                    have e16 := e15.trans e6
                    refine ⟨by show 0 ≤ sizeLine; decide, fun c2 hc2 => ?_⟩
                    have e7 := Ext.new (o := .lst []) hc2
                    refine ⟨D2, c2, us, rfl, rfl, SqL.of (e7 _ _ hyu), SqL.of upd_same, _, rfl, ?_⟩
                    have e17 := e16.trans e7
                    have ha7 := (e6.trans e7) _ _ ha5
                    have t17 := t15.up (e6.trans e7)
                    generalize upd H6 c2 (.lst []) = H7 at e7 e17 ha7 t17 ⊢
                    by_cases hA : Asc sh
                    · have hu : us = [] := hiff.mpr fun k k1 k2 p q hp1 hq1 => asc_get hA k1 hp1 hq1
                      subst hu
                      refine iteF ?_
                      rw [decide_eq_true hA] at badi goodi
                      refine ⟨_, rfl, a, _, 1, _, rfl, rfl, SqT.of ha7, rfl, rfl, !nonD d1, by cases t17 <;> rfl, ?_⟩
                      cases hn : nonD d1 with
                      | true =>
                        refine iteF ?_
                        refine ⟨_, _, _, rfl, e17, goodi (by rw [hn]; rfl)⟩
                      | false =>
                        refine iteT ?_
                        refine ⟨_, rfl, _, rfl, a, _, 1, _, rfl, rfl, SqT.of ha7, rfl, db, v1, ps, ns, d1, rfl, e17 _ _ hdb, hp, t17, fun H8 e8 => ⟨_, rfl, ?_⟩⟩
                        cases hd1 : dealB ns d1 with
                        | true =>
                          refine iteF ?_
                          exact ⟨_, _, _, rfl, e17.trans e8, goodi (by rw [hd1, hn]; rfl)⟩
                        | false =>
                          refine iteT ?_
                          exact badi (e17.trans e8) (by rw [hd1, hn]; rfl)
                    · have hu : us ≠ [] := fun z => hA (asc_adj pr' fun k k1 p q hp1 hq1 => by
                        have := (List.getElem?_eq_some_iff.mp hq1).1
                        exact hiff.mp z k k1 (by omega) p q hp1 hq1)
                      have hw2 : us.isEmpty = false := by
                        cases us with
                        | nil => exact absurd rfl hu
                        | cons _ _ => rfl
                      rw [hw2]
                      refine iteT ?_
                      exact badi e17 (by rw [decide_eq_false hA]; rfl)
          · refine ite2 (fun g => ?_) (fun g => ?_)
            · exact badi e1 (itemB_len (by rw [← t.len]; exact hlen))
            · exfalso
              have g' : ¬ (!decide (V.int (ys.length : Int) = V.int 2)) = true := g
              rw [two_le hlen] at g'
              exact g' rfl
      · rintro σ H1 ⟨s2, s3, s4, rfl, e1, hall⟩
        have q' := q H1 e1
        rw [show ds.all (itemB ns) = true from List.all_eq_true.mpr fun e he => by
          obtain ⟨j, hj, rfl⟩ := List.getElem_of_mem he
          exact hall j hj (by omega)] at q'
        exact q'
end
end K70

set_option Elab.async false
set_option linter.all false
set_option maxRecDepth 100000
set_option maxHeartbeats 4000000
namespace Ol
open PySem PySem.Spec PyProof.Rows L2
theorem back_at (n : Nat) : Builtin.Slice.sliceAdjust none none (-1) (n : Int) = ((n : Int) - 1, -1) := by
  unfold Builtin.Slice.sliceAdjust
  simp
theorem back_many (n : Nat) : Builtin.Slice.slicePlaces ((n : Int) - 1) (-1) (-1) = n := by
  unfold Builtin.Slice.slicePlaces
  by_cases c : n = 0
  · subst c
    decide
  · have h1 : ¬ ((-1 : Int) > 0) := by decide
    simp only [h1, if_false]
    split
    · simp only [Int.neg_neg, Int.ediv_one]
      omega
    · omega
theorem back_pick (xs : Array Value) : ((List.range xs.size).filterMap fun (m : Nat) => xs[(((xs.size : Int) - 1) + (m : Int) * (-1)).toNat]?).toArray = xs.toList.reverse.toArray := by
  have e : (List.range xs.size).filterMap (fun (m : Nat) => xs[(((xs.size : Int) - 1) + (m : Int) * (-1)).toNat]?) = ((List.range xs.size).map fun k => xs.size - 1 - k).filterMap (xs[·]?) := by
    have same : (List.range xs.size).map (fun (m : Nat) => (((xs.size : Int) - 1) + (m : Int) * (-1)).toNat) = (List.range xs.size).map fun k => xs.size - 1 - k :=
      List.map_congr_left fun m hm => by
        have hl := List.mem_range.mp hm
        show (((xs.size : Int) - 1) + (m : Int) * (-1)).toNat = xs.size - 1 - m
        omega
    rw [← same, List.filterMap_map]
    rfl
  rw [e, PySem.W.krv_range, List.filterMap_reverse, PySem.W.krv_all]
section
variable {prog : Program} {w : World} {A : Around} {E : Value → Shared → Prop} {s : Shared}
theorem applied_back {sl : Addr} {vl vu vs : Value} {n : Nat} {Q : Int × Int × Nat → Shared → Prop} (sat : s.heap.IsSliceOf sl vl vu vs) (pl : IsPart vl none) (pu : IsPart vu none) (ps : IsPart vs (some (-1)))
    (q : Q ((n : Int) - 1, -1, n) s) : wpAny (model prog w) A (Builtin.Slice.sliceApplied (.ref sl) (pure (n : Int))) Q E s := by
  obtain ⟨so, get, _, dat⟩ := id sat
  unfold Builtin.Slice.sliceApplied Builtin.Slice.sliceFields
  refine wpAny_bind (wpAny_bind (wpAny_field get dat (x := vl) rfl (wpAny_bind (wpAny_field get dat (x := vu) rfl (wpAny_bind (wpAny_field get dat (x := vs) rfl (wpAny_pure ?_)))))))
  refine wpAny_bind (HT.slicePart_ ps ?_)
  show wpAny _ _ (if ((-1 : Int) == 0) = true then _ else _) _ _ s
  rw [if_neg (by decide)]
  refine wpAny_bind (HT.slicePart_ pl (wpAny_bind (HT.slicePart_ pu (wpAny_bind (wpAny_pure ?_)))))
  show wpAny _ _ (match Builtin.Slice.sliceAdjust none none (-1) (n : Int) with | (lo, hi) => pure (lo, (-1 : Int), Builtin.Slice.slicePlaces lo hi (-1))) _ _ s
  rw [back_at]
  show wpAny _ _ (pure (((n : Int) - 1), (-1 : Int), Builtin.Slice.slicePlaces ((n : Int) - 1) (-1) (-1))) _ _ s
  rw [back_many]
  exact wpAny_pure q
/-- t[::-1] -/
theorem item_back {t sl : Addr} {items : Array Value} {vl vu vs : Value} {Q : Value → Shared → Prop} (at_t : IsTup s.heap t items) (sat : s.heap.IsSliceOf sl vl vu vs) (pl : IsPart vl none) (pu : IsPart vu none) (ps : IsPart vs (some (-1)))
    (q : Q (.ref s.heap.objs.size) { s with heap := s.heap.push { cls := .type "tuple", data := .seq items.toList.reverse.toArray } }) (small : items.size ≤ sizeLine) :
    wpAny (model prog w) A (getItem (.ref t) (.ref sl)) Q E s := by
  have fits : sizeOk (.seq items.toList.reverse.toArray) := by
    show items.toList.reverse.toArray.size ≤ sizeLine
    rw [List.size_toArray, List.length_reverse, Array.length_toList]
    exact small
  obtain ⟨so, get, cls, _⟩ := id sat
  have ty : s.TypeIs (.ref sl) "slice" := ⟨so, get, cls⟩
  unfold getItem
  try with_reducible refine wpAny_holding ?_
  first | refine wpAny_bind (wpAny_pure ?_) | skip
  refine wpAny_bind (wpAny_sequenceKey at_t.typeIs (by decide) ?_)
  refine wpAny_bind (wpAny_callSpecial?_slot (name := Str.ofString "__getitem__") at_t.typeIs PyProof.Rows.slot_tuple_getitem
    (wpAny_call_entry PyProof.Rows.slot_tuple_getitem at_t.typeIs entry_tuple_getitem ?_ (args_tuple_getitem _ _)))
  show wpAny _ _ (Builtin.Tuple.tupleItemsOf (.ref t) >>= _) _ _ s
  refine wpAny_bind (tupleItemsOf_ at_t ?_)
  refine wpAny_bind (wpAny_typeOf ty ?_)
  rw [if_pos (by decide)]
  refine wpAny_bind (applied_back sat pl pu ps ?_)
  have other : ¬ ((((items.size : Int) - 1) == 0 && (-1 : Int) == 1 && items.size == items.size) = true) := by
    simp
  show wpAny _ _ (if (((items.size : Int) - 1) == 0 && (-1 : Int) == 1 && items.size == items.size) = true then _ else _) _ _ s
  rw [if_neg other, back_pick]
  first
    | exact wpAny_bind (m := Builtin.Tuple.tupleExact _) (wpAny_newObj_type (wpAny_pure ⟨_, rfl, wpAny_pure q⟩) fits)
    | exact wpAny_bind (m := Builtin.Tuple.tupleExact _) (wpAny_newObj_type (wpAny_bind (wpAny_pure (wpAny_pure ⟨_, rfl, wpAny_pure q⟩))) fits)
    | exact wpAny_bind (wpAny_bind (m := Builtin.Tuple.tupleExact _) (wpAny_newObj_type (wpAny_pure (wpAny_pure ⟨_, rfl, wpAny_pure q⟩)) fits))
    | exact wpAny_bind (wpAny_bind (m := Builtin.Tuple.tupleExact _) (wpAny_newObj_type (wpAny_pure ⟨_, rfl, wpAny_pure q⟩) fits))
end
/-- xs[::-1], xs a tuple: a new one -/
def tRevT (K : PySem.W.Frag) (te : TE) : TE := fun σ H Q => te σ H fun x H1 => ∃ a xs, x = .ref a ∧ SqT K H1 a xs ∧ ∀ p, H1 p = none → Q (.ref p) (upd H1 p (.tup xs.reverse))
theorem pe_revT {X : Cx} {e : Expr} {te : TE} {k : Nat} {p1 p2 p3 pos : Pos} (pe : PE X e te) : PE X (.Subscript e (.Slice none none (some (.UnaryOp .USub (.Constant (.int 1) k p1) p2)) p3) pos) (tRevT X.K te) := by
  constructor
  intro pins s σ H Q I h
  refine Subscript_ (thn (pe.run pins s σ H _ I h) ?_)
  rintro v s1 ⟨x, H1, I1, rx, a, xs, rfl, sq, go⟩
  cases rx
  have step : PO X (some (.UnaryOp .USub (.Constant (.int 1) k p1) p2)) (tPart (tUn (rU fun i => .int (-i)) (tC (.int 1)))) := po_some (pe_un un_neg pe_int)
  refine wpAny_Slice (thn (po_none.run pins s1 σ H1 (fun o H2 => o = none ∧ H2 = H1) I1 ⟨rfl, rfl⟩) ?_)
  rintro vl s2 ⟨_, _, I2, pl, rfl, rfl⟩
  refine thn (po_none.run pins s2 σ _ (fun o H3 => o = none ∧ H3 = _) I2 ⟨rfl, rfl⟩) ?_
  rintro vu s3 ⟨_, _, I3, pu, rfl, rfl⟩
  refine thn (step.run pins s3 σ _ (fun o H4 => o = some (-1) ∧ H4 = _) I3 ⟨1, rfl, -1, rfl, rfl, rfl⟩) ?_
  rintro vs s4 ⟨_, _, I4, ps, rfl, rfl⟩
  have I5 := I4.kept (h' := s4.heap.push { cls := .type "slice", data := .fields #[vl, vu, vs] }) (t' := s4.toks) fun b o z => Heap.get?_push_of_some _ z
  obtain ⟨its, r, at_t, small⟩ := I5.tuple sq
  have len := r.length
  show wpAny (model X.prog X.w) X.A (subscriptTail e (.Slice none none (some (.UnaryOp .USub (.Constant (.int 1) k p1) p2)) p3) (.ref a) (.ref s4.heap.objs.size)) (EP X pins σ Q) X.xe { s4 with heap := s4.heap.push { cls := .type "slice", data := .fields #[vl, vu, vs] } }
  refine tail_any (ops := [.ref a, .ref s4.heap.objs.size]) at_t.typeIs (PyProof.Rows.slot_tuple_getitem.lookup) ?_ (by with_unfolding_all rfl)
  refine item_back at_t (Heap.IsSliceOf.new _ vl vu vs) pl pu ps ?_ (by rw [List.size_toArray]; omega)
  refine ⟨.ref _, _, I5.laid (t' := s4.toks) (o := .tup xs.reverse) (fun b o z => Heap.get?_push_of_some _ z) (Nat.le_refl _) ?_, rfl, go _ (I5.hok.fresh (Nat.le_refl _))⟩
  exact ⟨by rw [List.length_reverse]; exact small, _, r.reverse, IsTup.new _ _⟩
end Ol

set_option Elab.async false
set_option linter.all false
set_option maxRecDepth 100000
set_option maxHeartbeats 4000000
namespace Ol
open PySem PySem.Spec PyProof.Rows L2
/-! ### data of which depth, width and what is shown are bounded -/
mutual
def wtD : PyData → Nat
  | .list ds => wtA ds + 2
  | .tuple ds => wtA ds + 3
  | .none => 4
  | .bool _ => 5
  | .int i => (PyData.int i).shown.length
  | .str x => (PyData.str x).shown.length
  | .dict kvs => (PyData.dict kvs).shown.length
def wtA : List PyData → Nat
  | [] => 0
  | d :: ds => wtD d + 2 + wtA ds
end
mutual
def widD : PyData → Nat
  | .list ds => max ds.length (widA ds)
  | .tuple ds => max ds.length (widA ds)
  | .none => 0
  | .bool _ => 0
  | .int _ => 0
  | .str _ => 0
  | .dict _ => 0
def widA : List PyData → Nat
  | [] => 0
  | d :: ds => max (widD d) (widA ds)
end
mutual
theorem shown_le : ∀ d : PyData, d.shown.length ≤ wtD d
  | .none => by decide +kernel
  | .bool b => by cases b <;> decide +kernel
  | .int i => Nat.le_refl _
  | .str x => Nat.le_refl _
  | .dict kvs => Nat.le_refl _
  | .list ds => by
    have := shownAll_le ds
    have := listText_le (PyData.shownAll ds)
    simp only [PyData.shown, wtD]
    omega
  | .tuple ds => by
    have := shownAll_le ds
    have := tupleText_le (PyData.shownAll ds)
    simp only [PyData.shown, wtD]
    omega
theorem shownAll_le : ∀ ds : List PyData, piled (PyData.shownAll ds) ≤ wtA ds
  | [] => Nat.le_refl _
  | d :: ds => by
    have := shown_le d
    have := shownAll_le ds
    simp only [PyData.shownAll, wtA, piled_cons]
    omega
end
structure Gv (n k m : Nat) (d : PyData) : Prop where
  sh : d.showable = true
  dep : d.depth ≤ k
  wt : wtD d ≤ m
  wid : widD d ≤ n
structure GvA (n k m : Nat) (ds : List PyData) : Prop where
  sh : PyData.showableAll ds = true
  dep : PyData.depthAll ds ≤ k
  wt : wtA ds ≤ m
  wid : widA ds ≤ n
  len : ds.length ≤ n
theorem Gv.up {n k m n' k' m' : Nat} {d : PyData} (h : Gv n k m d) (hn : n ≤ n') (hk : k ≤ k') (hm : m ≤ m') : Gv n' k' m' d := ⟨h.sh, Nat.le_trans h.dep hk, Nat.le_trans h.wt hm, Nat.le_trans h.wid hn⟩
theorem GvA.up {n k m n' k' m' : Nat} {d : List PyData} (h : GvA n k m d) (hn : n ≤ n') (hk : k ≤ k') (hm : m ≤ m') : GvA n' k' m' d := ⟨h.sh, Nat.le_trans h.dep hk, Nat.le_trans h.wt hm, Nat.le_trans h.wid hn, Nat.le_trans h.len hn⟩
theorem Gv.fits {n k m : Nat} {d : PyData} (h : Gv n k m d) (hk : k ≤ 40) (hm : m ≤ sizeLine) : Fits d := ⟨h.sh, Nat.le_trans h.dep hk, Nat.le_trans (shown_le d) (Nat.le_trans h.wt hm)⟩
theorem GvA.nil {n k m : Nat} : GvA n k m [] := ⟨by simp [PyData.showableAll], by simp [PyData.depthAll], Nat.zero_le _, Nat.zero_le _, Nat.zero_le _⟩
theorem wtA_app (a b : List PyData) : wtA (a ++ b) = wtA a + wtA b := by
  induction a with
  | nil => simp [wtA]
  | cons d ds ih => simp only [List.cons_append, wtA, ih]; omega
theorem widA_app (a b : List PyData) : widA (a ++ b) = max (widA a) (widA b) := by
  induction a with
  | nil => simp [widA]
  | cons d ds ih => simp only [List.cons_append, widA, ih]; omega
theorem depA_app (a b : List PyData) : PyData.depthAll (a ++ b) = max (PyData.depthAll a) (PyData.depthAll b) := by
  induction a with
  | nil => simp [PyData.depthAll]
  | cons d ds ih => simp only [List.cons_append, PyData.depthAll, ih]; omega
theorem shA_app (a b : List PyData) : PyData.showableAll (a ++ b) = (PyData.showableAll a && PyData.showableAll b) := by
  induction a with
  | nil => simp [PyData.showableAll]
  | cons d ds ih => simp only [List.cons_append, PyData.showableAll, ih, Bool.and_assoc]
theorem GvA.app {n k m1 m2 : Nat} {a b : List PyData} (h1 : GvA n k m1 a) (h2 : GvA n k m2 b) {N : Nat} (hn : n ≤ N) (hl : a.length + b.length ≤ N) : GvA N k (m1 + m2) (a ++ b) := by
  refine ⟨by rw [shA_app, h1.sh, h2.sh]; rfl, ?_, ?_, ?_, by rw [List.length_append]; exact hl⟩
  · rw [depA_app]; exact Nat.max_le.mpr ⟨h1.dep, h2.dep⟩
  · rw [wtA_app]; exact Nat.add_le_add h1.wt h2.wt
  · rw [widA_app]; exact Nat.le_trans (Nat.max_le.mpr ⟨h1.wid, h2.wid⟩) hn
theorem GvA.split {n k m : Nat} {a b : List PyData} (h : GvA n k m (a ++ b)) : GvA n k m a ∧ GvA n k m b := by
  have h1 := h.sh
  have h2 := h.dep
  have h3 := h.wt
  have h4 := h.wid
  have h5 := h.len
  rw [shA_app, Bool.and_eq_true] at h1
  rw [depA_app] at h2
  rw [wtA_app] at h3
  rw [widA_app] at h4
  rw [List.length_append] at h5
  exact ⟨⟨h1.1, by omega, by omega, by omega, by omega⟩, ⟨h1.2, by omega, by omega, by omega, by omega⟩⟩
theorem GvA.take {n k m : Nat} {a : List PyData} (h : GvA n k m a) (i : Nat) : GvA n k m (a.take i) := (GvA.split (a := a.take i) (b := a.drop i) (by rw [List.take_append_drop]; exact h)).1
theorem GvA.drop {n k m : Nat} {a : List PyData} (h : GvA n k m a) (i : Nat) : GvA n k m (a.drop i) := (GvA.split (a := a.take i) (b := a.drop i) (by rw [List.take_append_drop]; exact h)).2
theorem GvA.cutS {n k m : Nat} {a b : List PyData} (h : GvA n k m (a ++ b)) : wtA a + wtA b ≤ m := by rw [← wtA_app]; exact h.wt
theorem Gv.one {n k m : Nat} {d : PyData} (h : Gv n k m d) (hn : 1 ≤ n) : GvA n k (m + 2) [d] := ⟨by simp [PyData.showableAll, h.sh], by simp only [PyData.depthAll]; have := h.dep; omega, by simp only [wtA]; have := h.wt; omega, by simp only [widA]; have := h.wid; omega, hn⟩
theorem GvA.mem {n k m : Nat} : ∀ {a : List PyData} {d : PyData}, GvA n k m a → d ∈ a → Gv n k m d
  | [], d, _, hd => by cases hd
  | e :: es, d, h, hd => by
    have z := GvA.split (a := [e]) (b := es) h
    rcases List.mem_cons.mp hd with rfl | hd
    · have s := z.1.sh
      have dp := z.1.dep
      have w := z.1.wt
      have wi := z.1.wid
      simp only [PyData.showableAll, Bool.and_true] at s
      simp only [PyData.depthAll] at dp
      simp only [wtA] at w
      simp only [widA] at wi
      exact ⟨s, by omega, by omega, by omega⟩
    · exact GvA.mem z.2 hd
theorem GvA.of {n k m : Nat} : ∀ {a : List PyData}, (∀ d ∈ a, Gv n k m d) → a.length ≤ n → GvA n k (a.length * (m + 2)) a
  | [], _, _ => GvA.nil
  | e :: es, h, l => by
    have h1 := (h e List.mem_cons_self)
    have h2 := GvA.of (fun d hd => h d (List.mem_cons_of_mem _ hd)) (show es.length ≤ n by rw [List.length_cons] at l; omega)
    have z := GvA.app (N := n) (h1.one (by rw [List.length_cons] at l; omega)) h2 (Nat.le_refl _) (by rw [List.length_cons] at l; simp; omega)
    have e1 : (e :: es).length * (m + 2) = (m + 2) + es.length * (m + 2) := by rw [List.length_cons, Nat.succ_mul]; omega
    rw [e1]
    exact z
theorem GvA.rev {n k m : Nat} : ∀ {a : List PyData}, GvA n k m a → GvA n k m a.reverse := by
  intro a h
  have e1 : ∀ l : List PyData, PyData.showableAll l.reverse = PyData.showableAll l ∧ PyData.depthAll l.reverse = PyData.depthAll l ∧ wtA l.reverse = wtA l ∧ widA l.reverse = widA l := by
    intro l
    induction l with
    | nil => exact ⟨rfl, rfl, rfl, rfl⟩
    | cons d ds ih =>
      obtain ⟨i1, i2, i3, i4⟩ := ih
      rw [List.reverse_cons]
      refine ⟨?_, ?_, ?_, ?_⟩
      · rw [shA_app, i1]; simp [PyData.showableAll, Bool.and_comm]
      · rw [depA_app, i2]; simp only [PyData.depthAll]; omega
      · rw [wtA_app, i3]; simp only [wtA]; omega
      · rw [widA_app, i4]; simp only [widA]; omega
  obtain ⟨i1, i2, i3, i4⟩ := e1 a
  exact ⟨by rw [i1]; exact h.sh, by rw [i2]; exact h.dep, by rw [i3]; exact h.wt, by rw [i4]; exact h.wid, by rw [List.length_reverse]; exact h.len⟩
theorem GvA.tup {n k m : Nat} {a : List PyData} (h : GvA n k m a) : Gv n (k + 1) (m + 3) (.tuple a) :=
  ⟨by simp only [PyData.showable]; exact h.sh, by simp only [PyData.depth]; have := h.dep; omega, by simp only [wtD]; have := h.wt; omega, by simp only [widD]; exact Nat.max_le.mpr ⟨h.len, h.wid⟩⟩
theorem GvA.lst {n k m : Nat} {a : List PyData} (h : GvA n k m a) : Gv n (k + 1) (m + 3) (.list a) :=
  ⟨by simp only [PyData.showable]; exact h.sh, by simp only [PyData.depth]; have := h.dep; omega, by simp only [wtD]; have := h.wt; omega, by simp only [widD]; exact Nat.max_le.mpr ⟨h.len, h.wid⟩⟩
theorem Gv.tup_inv {n k m : Nat} {a : List PyData} (h : Gv n k m (.tuple a)) : GvA n (k - 1) (m - 3) a := by
  have h1 := h.sh
  have h2 := h.dep
  have h3 := h.wt
  have h4 := h.wid
  simp only [PyData.showable] at h1
  simp only [PyData.depth] at h2
  simp only [wtD] at h3
  simp only [widD] at h4
  exact ⟨h1, by omega, by omega, by omega, by omega⟩
theorem Gv.lst_inv {n k m : Nat} {a : List PyData} (h : Gv n k m (.list a)) : GvA n (k - 1) (m - 2) a := by
  have h1 := h.sh
  have h2 := h.dep
  have h3 := h.wt
  have h4 := h.wid
  simp only [PyData.showable] at h1
  simp only [PyData.depth] at h2
  simp only [wtD] at h3
  simp only [widD] at h4
  exact ⟨h1, by omega, by omega, by omega, by omega⟩
theorem gv_non {n : Nat} : Gv n 0 4 .none := ⟨by simp [PyData.showable], by simp [PyData.depth], Nat.le_refl _, Nat.zero_le _⟩
theorem gv_bl {n : Nat} (b : Bool) : Gv n 0 5 (.bool b) := ⟨by simp [PyData.showable], by simp [PyData.depth], Nat.le_refl _, Nat.zero_le _⟩
theorem gv_str {n : Nat} {x : Str} (h1 : x.length ≤ 19) (h2 : ∀ c ∈ TL.tl x, c < 128) : Gv n 0 200 (.str x) := by
  have g := gd_str x h1 h2
  exact ⟨g.sh, by simp [PyData.depth], by simp only [wtD]; exact g.len, Nat.zero_le _⟩
theorem gv_dnil {n : Nat} : Gv n 1 10 (.dict []) := ⟨by simp [PyData.showable, PyData.showableKv], by simp [PyData.depth, PyData.depthKv], by decide +kernel, Nat.zero_le _⟩
theorem gv_int {n : Nat} (i : Int) (h1 : i.natAbs.log2 < 1920) (h2 : ((toString i : String) : Str).length ≤ 200) : Gv n 0 200 (.int i) := by
  have g := gd_int i h1 h2
  exact ⟨g.sh, by simp [PyData.depth], by simp only [wtD]; exact g.len, Nat.zero_le _⟩

/-! ### an expression that makes data -/
def YlG (te : TE) (σ : L2.St) (H : Hp) (G : PyData → Prop) : Prop := ∀ H1, Ext H H1 → ∀ Q : VK, (∀ (v : V) (d : PyData) (H' : Hp), Ext H1 H' → Dq H' v d → G d → Q v H') → te σ H1 Q
def YlA (t : TA) (σ : L2.St) (H : Hp) (G : PyData → Prop) (N : Nat) : Prop := ∀ H1, Ext H H1 → ∀ Q : List V → Hp → Prop, (∀ (xs : List V) (ds : List PyData) (H' : Hp), Ext H1 H' → DqAll H' xs ds → (∀ d ∈ ds, G d) → ds.length = N → Q xs H') → t σ H1 Q
section
variable {σ : L2.St} {H : Hp} {G G' : PyData → Prop} {te te2 : TE} {t : TA} {N : Nat} {K : PySem.W.Frag}
theorem YlG.up (h : YlG te σ H G) (hG : ∀ d, G d → G' d) : YlG te σ H G' := fun H1 e Q q => h H1 e Q fun v d H' e' hd g => q v d H' e' hd (hG d g)
theorem yl_c {v : V} {d : PyData} (hd : ∀ H, Dq H v d) (g : G d) : YlG (tC v) σ H G := fun H1 _ Q q => q v d H1 (Ext.refl _) (hd H1) g
theorem yl_var {i : Nat} {v : V} {d : PyData} (hi : σ[i]? = some (some v)) (hd : Dq H v d) (g : G d) : YlG (tVar i) σ H G := fun H1 e Q q => ⟨v, hi, q v d H1 (Ext.refl _) (hd.up e) g⟩
theorem yla_nil : YlA tNil σ H G 0 := fun H1 _ Q q => q [] [] H1 (Ext.refl _) .nil (fun _ h => nomatch h) rfl
theorem yla_cons (h1 : YlG te σ H G) (h2 : YlA t σ H G N) : YlA (tCons te t) σ H G (N + 1) := fun H1 e Q q =>
  h1 H1 e _ fun v d H2 e2 hd g => h2 H2 (e.trans e2) _ fun xs ds H3 e3 hds gs hl => q (v :: xs) (d :: ds) H3 (e2.trans e3) (.cons (hd.up e3) hds) (fun z hz => by
    rcases List.mem_cons.mp hz with rfl | hz
    · exact g
    · exact gs z hz) (by rw [List.length_cons, hl])
theorem yl_tup {n k m : Nat} (h : YlA t σ H (Gv n k m) N) (hN : N ≤ n) (hs : N ≤ 1000) {n' k' m' : Nat} (h1 : n ≤ n') (h2 : k + 1 ≤ k') (h3 : N * (m + 2) + 3 ≤ m') : YlG (tTup t) σ H (Gv n' k' m') := fun H1 e Q q =>
  h H1 e _ fun xs ds H2 e2 hds gs hl => ⟨by rw [hds.len, hl]; exact Nat.le_trans hs (by decide), fun p hp => q _ (.tuple ds) _ (e2.trans (Ext.new hp)) (.tup upd_same (DqAll.up (Ext.new hp) hds)) (by
    have z := (GvA.of gs (by omega)).tup
    rw [hl] at z
    exact z.up h1 h2 h3)⟩
theorem yl_lst {n k m : Nat} (h : YlA t σ H (Gv n k m) N) (hN : N ≤ n) (hs : N ≤ 1000) {n' k' m' : Nat} (h1 : n ≤ n') (h2 : k + 1 ≤ k') (h3 : N * (m + 2) + 3 ≤ m') : YlG (tLst t) σ H (Gv n' k' m') := fun H1 e Q q =>
  h H1 e _ fun xs ds H2 e2 hds gs hl => ⟨by rw [hds.len, hl]; exact Nat.le_trans hs (by decide), fun p hp => q _ (.list ds) _ (e2.trans (Ext.new hp)) (.lst upd_same (DqAll.up (Ext.new hp) hds)) (by
    have z := (GvA.of gs (by omega)).lst
    rw [hl] at z
    exact z.up h1 h2 h3)⟩
theorem yl_dnew (g : G (.dict [])) : YlG tDNewK σ H G := fun H1 _ Q q => fun p hp => q _ (.dict []) _ (Ext.new hp) (Dq.dct (kvs := []) (ds := []) upd_same .nil) g
/-- a tuple of such data -/
def TupG (n k m : Nat) (d : PyData) : Prop := ∃ ds, d = .tuple ds ∧ GvA n k m ds
theorem TupG.gv {n k m : Nat} {d : PyData} (h : TupG n k m d) : Gv n (k + 1) (m + 3) d := by
  obtain ⟨ds, rfl, g⟩ := h
  exact g.tup
theorem yl_tupG {n k m : Nat} (h : YlA t σ H (Gv n k m) N) (hN : N ≤ n) (hs : N ≤ 1000) : YlG (tTup t) σ H (TupG n k (N * (m + 2))) := fun H1 e Q q =>
  h H1 e _ fun xs ds H2 e2 hds gs hl => ⟨by rw [hds.len, hl]; exact Nat.le_trans hs (by decide), fun p hp => q _ (.tuple ds) _ (e2.trans (Ext.new hp)) (.tup upd_same (DqAll.up (Ext.new hp) hds)) ⟨ds, rfl, by
    have z := GvA.of gs (by omega)
    rw [hl] at z
    exact z⟩⟩
theorem dq_appT {H : Hp} : ∀ {xs ys : List V} {ds es : List PyData}, DqAll H xs ds → DqAll H ys es → DqAll H (xs ++ ys) (ds ++ es)
  | _, _, _, _, .nil, h => h
  | _, _, _, _, .cons a t, h => .cons a (dq_appT t h)
theorem yl_cat {n1 n2 k m1 m2 : Nat} (h1 : YlG te σ H (TupG n1 k m1)) (h2 : YlG te2 σ H (TupG n2 k m2)) (hs : n1 + n2 ≤ 10000) : YlG (tOp (rCatA K) te te2) σ H (TupG (n1 + n2) k (m1 + m2)) := fun H1 e Q q =>
  h1 H1 e _ fun v1 d1 H2 e2 hd1 ⟨ds, ed, g1⟩ => h2 H2 (e.trans e2) _ fun v2 d2 H3 e3 hd2 ⟨es, ee, g2⟩ => by
    subst ed
    subst ee
    obtain ⟨a, xs, ds', rfl, z, ha, hx⟩ := dq_tup (hd1.up e3) rfl
    cases z
    obtain ⟨b, ys, es', rfl, z, hb, hy⟩ := dq_tup hd2 rfl
    cases z
    have g : TupG (n1 + n2) k (m1 + m2) (.tuple (ds ++ es)) := ⟨_, rfl, GvA.app (g1.up (Nat.le_add_right n1 n2) (Nat.le_refl _) (Nat.le_refl _)) (g2.up (Nat.le_add_left n2 n1) (Nat.le_refl _) (Nat.le_refl _)) (Nat.le_refl _) (by have := g1.len; have := g2.len; omega)⟩
    refine ⟨a, b, xs, ys, rfl, rfl, SqT.of ha, SqT.of hb, ?_, fun hn => ?_, fun _ hn => ?_, fun _ _ p hp => ?_⟩
    · rw [hx.len, hy.len]
      have := g1.len
      have := g2.len
      exact Nat.le_trans (show _ ≤ 10000 by omega) (by decide)
    · subst hn
      cases hx
      exact q _ (.tuple es) _ (e2.trans e3) hd2 (by simpa using g)
    · subst hn
      cases hy
      exact q _ (.tuple ds) _ (e2.trans e3) (hd1.up e3) (by simpa using g)
    · have e4 := Ext.new (o := .tup (xs ++ ys)) hp
      exact q _ (.tuple (ds ++ es)) _ ((e2.trans e3).trans e4) (.tup upd_same (dq_appT (DqAll.up e4 hx) (DqAll.up e4 hy))) g
theorem dq_rev {H : Hp} : ∀ {xs : List V} {ds : List PyData}, DqAll H xs ds → DqAll H xs.reverse ds.reverse
  | _, _, .nil => .nil
  | _, _, .cons a t => by
    rw [List.reverse_cons, List.reverse_cons]
    exact dq_appT (dq_rev t) (.cons a .nil)
theorem yl_rev {n k m : Nat} (h : YlG te σ H (TupG n k m)) : YlG (tRevT K te) σ H (TupG n k m) := fun H1 e Q q =>
  h H1 e _ fun v d H2 e2 hd ⟨ds, ed, g⟩ => by
    subst ed
    obtain ⟨a, xs, ds', rfl, z, ha, hx⟩ := dq_tup hd rfl
    cases z
    refine ⟨a, xs, rfl, SqT.of ha, fun p hp => ?_⟩
    have e4 := Ext.new (o := .tup xs.reverse) hp
    exact q _ (.tuple ds.reverse) _ (e2.trans e4) (.tup upd_same (dq_rev (DqAll.up e4 hx))) ⟨_, rfl, g.rev⟩
end
end Ol

set_option Elab.async false
set_option linter.all false
set_option maxRecDepth 100000
set_option maxHeartbeats 4000000
namespace K70
open PySem PySem.Spec PyProof.Rows L2 Ol RZ
open TL (tl)
theorem nodup_len {α : Type} [DecidableEq α] : ∀ {l l' : List α}, l.Nodup → (∀ x ∈ l, x ∈ l') → l.length ≤ l'.length
  | [], _, _, _ => Nat.zero_le _
  | x :: l, l', nd, h => by
    have hx := h x List.mem_cons_self
    have z := nodup_len (l := l) (l' := l'.erase x) (List.nodup_cons.mp nd).2 fun y hy => by
      refine (List.mem_erase_of_ne fun e => ?_).mpr (h y (List.mem_cons_of_mem _ hy))
      subst e
      exact (List.nodup_cons.mp nd).1 hy
    rw [List.length_erase_of_mem hx] at z
    have := List.length_pos_of_mem hx
    rw [List.length_cons]
    omega
def four : List Str := ["a", "zz", "q", "lane"]
/-- what the parts of a bent item are -/
structure Ev (σ : L2.St) (H : Hp) (n k m : Nat) : Prop where
  n12 : 12 ≤ n
  n100 : n ≤ 100
  k3 : 3 ≤ k
  m2 : 2000 ≤ m
  sh : YlG (tVar 3) σ H (TupG n k m)
  ar : YlG (tVar 4) σ H (Gv n k m)
  la : YlG (tVar 5) σ H (Gv n 0 200)
  on : YlG (tVar 8) σ H (Gv n k m)
abbrev FA (n k m : Nat) : PyData → Prop := Gv (n + n) (k + 1) (2 * m + 10)
abbrev FF (n k m : Nat) : PyData → Prop := Gv (n + n) (k + 2) (6 * m + 50)
section
variable {σ : L2.St} {H : Hp} {n k m N : Nat} {te te2 : TE} {t : TA} {K : PySem.W.Frag}
theorem Ev.shA (E : Ev σ H n k m) : YlG (tVar 3) σ H (FA n k m) := E.sh.up fun d h => h.gv.up (by omega) (by omega) (by omega)
theorem Ev.arA (E : Ev σ H n k m) : YlG (tVar 4) σ H (FA n k m) := E.ar.up fun d h => h.up (by omega) (by omega) (by omega)
theorem Ev.onA (E : Ev σ H n k m) : YlG (tVar 8) σ H (FA n k m) := E.on.up fun d h => h.up (by omega) (by omega) (by omega)
theorem Ev.noA (E : Ev σ H n k m) : YlG (tC .non) σ H (FA n k m) := yl_c (fun _ => .non) (gv_non.up (Nat.le_refl _) (by omega) (by have := E.m2; omega))
theorem Ev.diA (E : Ev σ H n k m) : YlG tDNewK σ H (FA n k m) := yl_dnew (gv_dnil.up (Nat.le_refl _) (by omega) (by have := E.m2; omega))
theorem Ev.emA (E : Ev σ H n k m) : YlG (tTup tNil) σ H (FA n k m) := yl_tup (n := n) (k := 0) (m := 0) yla_nil (by omega) (by omega) (by omega) (by omega) (by have := E.m2; omega)
theorem Ev.strA (E : Ev σ H n k m) {x : Str} (h1 : x.length ≤ 19) (h2 : ∀ c ∈ tl x, c < 128) : YlG (tC (.str x)) σ H (FA n k m) := yl_c (fun _ => .str _) ((gv_str h1 h2).up (Nat.le_refl _) (by omega) (by have := E.m2; omega))
theorem Ev.one (E : Ev σ H n k m) (h : YlG te σ H (Gv n k m)) : YlG (tTup (tCons te tNil)) σ H (TupG n k (1 * (m + 2))) := yl_tupG (yla_cons h yla_nil) (by have := E.n12; omega) (by omega)
theorem Ev.cat1 (E : Ev σ H n k m) (h : YlG te σ H (Gv n k m)) : YlG (tOp (rCatA K) (tVar 3) (tTup (tCons te tNil))) σ H (FA n k m) := (yl_cat E.sh (E.one h) (by have := E.n100; omega)).up fun d h => h.gv.up (by omega) (by omega) (by omega)
theorem Ev.cat2 (E : Ev σ H n k m) (h : YlG te σ H (Gv n k m)) : YlG (tOp (rCatA K) (tTup (tCons te tNil)) (tVar 3)) σ H (FA n k m) := (yl_cat (E.one h) E.sh (by have := E.n100; omega)).up fun d h => h.gv.up (by omega) (by omega) (by omega)
theorem Ev.dbl (E : Ev σ H n k m) : YlG (tOp (rCatA K) (tVar 3) (tVar 3)) σ H (FA n k m) := (yl_cat E.sh E.sh (by have := E.n100; omega)).up fun d h => h.gv.up (by omega) (by omega) (by omega)
theorem Ev.rev (E : Ev σ H n k m) : YlG (tRevT K (tVar 3)) σ H (FA n k m) := (yl_rev E.sh).up fun d h => h.gv.up (by omega) (by omega) (by omega)
theorem Ev.pr (E : Ev σ H n k m) {x : Str} (h1 : x.length ≤ 19) (h2 : ∀ c ∈ tl x, c < 128) : YlG (tTup (tCons (tC (.str x)) (tCons (tVar 5) tNil))) σ H (Gv n k m) := yl_tup (n := n) (k := 0) (m := 200) (yla_cons (yl_c (fun _ => .str _) (gv_str h1 h2)) (yla_cons E.la yla_nil)) (by have := E.n12; omega) (by omega) (Nat.le_refl _) (by have := E.k3; omega) (by have := E.m2; omega)
theorem Ev.tup (E : Ev σ H n k m) (h : YlA t σ H (FA n k m) N) (hN : N ≤ 3) : YlG (tTup t) σ H (FF n k m) := yl_tup h (by have := E.n12; omega) (by omega) (Nat.le_refl _) (by omega) (by
  have : N * (2 * m + 10 + 2) ≤ 3 * (2 * m + 10 + 2) := Nat.mul_le_mul_right _ hN
  omega)
theorem Ev.lst (E : Ev σ H n k m) (h : YlA t σ H (FA n k m) N) (hN : N ≤ 3) : YlG (tLst t) σ H (FF n k m) := yl_lst h (by have := E.n12; omega) (by omega) (Nat.le_refl _) (by omega) (by
  have : N * (2 * m + 10 + 2) ≤ 3 * (2 * m + 10 + 2) := Nat.mul_le_mul_right _ hN
  omega)
theorem Ev.fin (E : Ev σ H n k m) (h : YlG te σ H (FA n k m)) : YlG te σ H (FF n k m) := h.up fun d h => h.up (Nat.le_refl _) (by omega) (by omega)
theorem Ev.lof (E : Ev σ H n k m) : YlG (tCB (fun xs H Q => ∃ p ys, xs = [V.ref p] ∧ (SqL K H p ys ∨ SqT K H p ys) ∧ ∀ l, H l = none → Q (.ref l) (upd H l (.lst ys))) (tCons (tVar 3) tNil)) σ H (FA n k m) := fun H1 e Q q =>
  E.sh H1 e _ fun v d H2 e2 hd ⟨ds, ed, g⟩ => by
    subst ed
    obtain ⟨a, xs, ds', rfl, z, ha, hx⟩ := dq_tup hd rfl
    cases z
    refine ⟨a, xs, rfl, .inr (SqT.of ha), fun p hp => ?_⟩
    have e4 := Ext.new (o := .lst xs) hp
    exact q _ (.list ds) _ (e2.trans e4) (.lst upd_same (DqAll.up e4 hx)) (g.lst.up (by omega) (by omega) (by omega))
theorem go_ev {te : TE} {Q : VK} (E : Ev σ H n k m) (h : Ev σ H n k m → te σ H Q) : te σ H Q := h E
theorem yla_go {G : PyData → Prop} {Q : List V → Hp → Prop} (h : YlA t σ H G N) (k : ∀ (xs : List V) (ds : List PyData) (H' : Hp), Ext H H' → DqAll H' xs ds → (∀ d ∈ ds, G d) → ds.length = N → Q xs H') : t σ H Q := h H (Ext.refl _) Q k
end
/-! ### the odd values -/
abbrev O0 : PyData → Prop := Gv 12 0 200
abbrev O1 : PyData → Prop := Gv 12 1 609
abbrev O2 : PyData → Prop := Gv 12 2 1836
section
variable {σ : L2.St} {H : Hp} {N : Nat} {te : TE} {t : TA}
theorem o_str {x : Str} (h1 : x.length ≤ 19) (h2 : ∀ c ∈ tl x, c < 128) : YlG (tC (.str x)) σ H O0 := yl_c (fun _ => .str _) (gv_str h1 h2)
theorem o_non : YlG (tC .non) σ H O0 := yl_c (fun _ => .non) (gv_non.up (Nat.le_refl _) (by omega) (by omega))
theorem o_bl (b : Bool) : YlG (tC (.bl b)) σ H O0 := yl_c (fun _ => .bl _) ((gv_bl b).up (Nat.le_refl _) (by omega) (by omega))
theorem o_int (i : Int) (h1 : i.natAbs.log2 < 1920) (h2 : ((toString i : String) : Str).length ≤ 200) : YlG (tC (.int i)) σ H O0 := yl_c (fun _ => .int _) (gv_int i h1 h2)
theorem o01 (h : YlG te σ H O0) : YlG te σ H O1 := h.up fun d g => g.up (by omega) (by omega) (by omega)
theorem o12 (h : YlG te σ H O1) : YlG te σ H O2 := h.up fun d g => g.up (by omega) (by omega) (by omega)
theorem o02 (h : YlG te σ H O0) : YlG te σ H O2 := o12 (o01 h)
theorem o_t1 (h : YlA t σ H O0 N) (hN : N ≤ 3) : YlG (tTup t) σ H O1 := yl_tup h (by omega) (by omega) (by omega) (by omega) (by omega)
theorem o_l1 (h : YlA t σ H O0 N) (hN : N ≤ 3) : YlG (tLst t) σ H O1 := yl_lst h (by omega) (by omega) (by omega) (by omega) (by omega)
theorem o_t2 (h : YlA t σ H O1 N) (hN : N ≤ 3) : YlG (tTup t) σ H O2 := yl_tup h (by omega) (by omega) (by omega) (by omega) (by omega)
theorem o_d1 : YlG tDNewK σ H O1 := yl_dnew (gv_dnil.up (Nat.le_refl _) (by omega) (by omega))
end
theorem st_set {i : Nat} {te : TE} {rest : TS} {D : Ends} {σ : L2.St} {H : Hp} (h : te σ H fun x H1 => rest D (σ.set i (some x)) H1) : tSeq (tAsg te (gName i)) rest D σ H := h
theorem op_of {r : R2} {tb : TE} {σ : L2.St} {H : Hp} {Q : VK} {i : Nat} {x : V} (hi : σ[i]? = some (some x)) (h : tb σ H fun y H2 => r x y H2 Q) : tOp r (tVar i) tb σ H Q := ⟨x, hi, h⟩
/-- a list of odd values -/
def OL (H : Hp) (G : PyData → Prop) (r : Addr) (N : Nat) : Prop := ∃ (xs : List V) (ds : List PyData), H r = some (.lst xs) ∧ DqAll H xs ds ∧ (∀ d ∈ ds, G d) ∧ ds.length = N
theorem OL.up {H H' : Hp} {G : PyData → Prop} {r : Addr} {N : Nat} (h : OL H G r N) (e : Ext H H') : OL H' G r N := by
  obtain ⟨xs, ds, h1, h2, h3⟩ := h
  exact ⟨xs, ds, e _ _ h1, DqAll.up e h2, h3⟩
theorem ol_lst {H : Hp} {G : PyData → Prop} {N : Nat} {t : TA} {σ : L2.St} {Q : VK} (h : YlA t σ H G N) (hN : N ≤ 1000) (k : ∀ (r : Addr) (H' : Hp), Ext H H' → H r = none → OL H' G r N → Q (.ref r) H') : tLst t σ H Q :=
  yla_go h fun xs ds H' e hds gs hl => ⟨by rw [hds.len, hl]; exact Nat.le_trans hN (by decide), fun p hp => k p _ (e.trans (Ext.new hp)) (e.free hp) ⟨xs, ds, upd_same, DqAll.up (Ext.new hp) hds, gs, hl⟩⟩
theorem ol_cat {H : Hp} {G : PyData → Prop} {N1 N2 : Nat} {r1 r2 : Addr} {Q : VK} (h1 : OL H G r1 N1) (h2 : OL H G r2 N2) (hN : N1 + N2 ≤ 1000) (k : ∀ (r : Addr) (H' : Hp), Ext H H' → OL H' G r (N1 + N2) → Q (.ref r) H') : rCat (.ref r1) (.ref r2) H Q := by
  obtain ⟨xs, ds, a1, a2, a3, a4⟩ := h1
  obtain ⟨ys, es, b1, b2, b3, b4⟩ := h2
  refine ⟨r1, r2, xs, ys, rfl, rfl, a1, b1, by rw [a2.len, b2.len, a4, b4]; exact Nat.le_trans hN (by decide), fun p hp => k p _ (Ext.new hp) ⟨xs ++ ys, ds ++ es, upd_same, DqAll.up (Ext.new hp) (dq_appT a2 b2), fun d hd => ?_, by rw [List.length_append, a4, b4]⟩⟩
  rcases List.mem_append.mp hd with z | z
  · exact a3 d z
  · exact b3 d z
section
variable {P : Program} {w : World} {K : PySem.W.Frag} {mg : Str → Option Value} {base : Heap} {C CP S SP : Addr}
/-! ### _law_bent_item -/
def spBi : Sp := fun vs H Q _ => ∃ (a db : Addr) (v : V) (ps : List (Str × Int)) (ns : List Str) (sh : List PyData) (arm : PyData) (n k m : Nat), vs = [.ref a, .ref db, v] ∧ Bag H a ∧ H db = some (.dK (kvI ps)) ∧ Lo ps ns ∧ Dq H v (.tuple [.tuple sh, arm]) ∧ 12 ≤ n ∧ n ≤ 100 ∧ 3 ≤ k ∧ 2000 ≤ m ∧ GvA n k m sh ∧ Gv n k m arm ∧
  ∀ (v' : V) (d' : PyData) (H' : Hp), Ext H H' → Dq H' v' d' → FF n k m d' → Q v' H'
abbrev s__law_bent_item : Stmt := (topS 53)
theorem sc__law_bent_item : FnScope ["_law_bag_here", "_law_bounds_here", "_law_item", "_law_shut", "_law_arm_here", "_law_lane", "_law_other", "_law_odd", "_law_one", "_law_some", "_law_name"] ["_law_bag_here", "_law_bounds_here", "_law_item"] (defScope s__law_bent_item) := ⟨rfl, rfl, rfl, by decide +kernel, rfl, by decide +kernel, by decide +kernel⟩
theorem ok_bi {f : Addr} {fd : FuncData} (F : Fun K "_law_bent_item" "_law_bent_item" s__law_bent_item f fd) (T : BT mg) (CT : Ca P w K mg base 1 "_law_take" ["_law_bag_here", "_law_many"] spTake) :
    FnOk P w K mg base CX0 2 f fd ["_law_bag_here", "_law_bounds_here", "_law_item"] spBi := by
  refine F.ok sc__law_bent_item (fun vs H Q E h => ?_) (fun cdv A outer s H vs Q E hr h => ?_)
  · obtain ⟨a, db, v, ps, ns, sh, arm, n, k, m, rfl, _⟩ := h
    rfl
  · obtain ⟨a, db, v, ps, ns, sh, arm, n, k, m, rfl, hb, hdb, L, hv, n12, n100, k3, m2, gsh, garm, q⟩ := h
    refine ⟨_, (pss_cons (ps_asg (pv 2) (pg_tup (by rfl) (pgs_cons (pg_name (i := 3) sc__law_bent_item.nd rfl (.inl rfl)) (pgs_cons (pg_name (i := 4) sc__law_bent_item.nd rfl (.inl rfl)) pgs_nil))))
    (pss_cons (ps_par (i := 5) (j := 6) rfl sc__law_bent_item.nd rfl rfl (by decide) rfl rfl (pa_cons (pe_ix ix_list (pe_callB (call_sortedD rfl) (by rfl) T.n_sorted (by decide +kernel) (pa_cons (pv 1) pa_nil)) pe_int (fun _ _ => rfl)) (pa_cons (pe_ix ix_list (pe_lc (own := [("_law_name", 10)]) (g := gName 10) (tt := tTest (tDNotIn (tVar 10) (tVar 1))) rfl sc__law_bent_item.nd (pi_list (pe_lst (pa_cons pe_str (pa_cons pe_str (pa_cons pe_str (pa_cons pe_str pa_nil)))))) (blkOk_by (N := ["_law_bag_here", "_law_bounds_here", "_law_item", "_law_shut", "_law_arm_here", "_law_lane", "_law_other", "_law_odd", "_law_one", "_law_some", "_law_name"]) (sc := defScope s__law_bent_item) (by decide +kernel)) (fun _ _ _ _ _ => (pg_name (i := 10) sc__law_bent_item.nd rfl (.inl rfl))) (fun _ _ _ _ _ => (pts_one (pt_cmp (pc_dnotin (hu_of hr) (pv 10) (pv 1))))) (fun _ _ _ _ _ => (pv 10))) pe_int (fun _ _ => rfl)) pa_nil)) (by rfl))
    (pss_cons (ps_set (i := 7) sc__law_bent_item.nd rfl (.inl rfl) (pe_lst (pa_cons (pe_tup (pa_cons pe_str (pa_cons (pv 5) pa_nil))) (pa_cons (pe_tup (pa_cons pe_str (pa_cons (pv 6) pa_nil))) (pa_cons (pe_lst (pa_cons pe_str (pa_cons (pv 5) pa_nil))) (pa_cons (pe_tup (pa_cons pe_str (pa_cons (pv 5) (pa_cons pe_int pa_nil)))) (pa_cons (pe_tup (pa_cons pe_str pa_nil)) (pa_cons pe_non (pa_cons pe_str pa_nil)))))))))
    (pss_cons (ps_set (i := 7) sc__law_bent_item.nd rfl (.inl rfl) (pe_op op_cat (pv 7) (pe_lst (pa_cons (pe_tup (pa_cons (pv 5) (pa_cons pe_str pa_nil))) (pa_cons (pe_tup (pa_cons pe_str (pa_cons (pv 5) pa_nil))) (pa_cons (pe_tup (pa_cons pe_non (pa_cons (pv 5) pa_nil))) (pa_cons (pe_tup (pa_cons pe_str (pa_cons pe_non pa_nil))) (pa_cons (pe_tup (pa_cons pe_str (pa_cons (pv 5) pa_nil))) (pa_cons (pe_tup pa_nil) (pa_cons pe_bl (pa_cons pe_int pa_nil)))))))))))
    (pss_cons (ps_set (i := 7) sc__law_bent_item.nd rfl (.inl rfl) (pe_op op_cat (pv 7) (pe_lst (pa_cons (pe_tup (pa_cons pe_str (pa_cons (pe_tup (pa_cons (pv 5) pa_nil)) pa_nil))) (pa_cons (pe_tup (pa_cons pe_str (pa_cons (pe_lst pa_nil) pa_nil))) (pa_cons (pe_tup (pa_cons (pe_lst (pa_cons pe_str pa_nil)) (pa_cons (pv 5) pa_nil))) (pa_cons (pe_tup (pa_cons pe_dnewK (pa_cons (pv 5) pa_nil))) pa_nil)))))))
    (pss_cons (ps_set (i := 8) sc__law_bent_item.nd rfl (.inl rfl) (pe_ix ix_list (pv 7) (pe_ca CT (hr.mono (by decide)) (by rfl) (pa_cons (pv 0) (pa_cons (pe_callB call_len_seq (by rfl) T.n_len (by decide +kernel) (pa_cons (pv 7) pa_nil)) pa_nil))) (fun _ _ => rfl)))
    (pss_cons (ps_set (i := 9) sc__law_bent_item.nd rfl (.inl rfl) (pe_lst (pa_cons (pe_tup (pa_cons (pe_op op_catA (pv 3) (pe_tup (pa_cons (pv 8) pa_nil))) (pa_cons (pv 4) pa_nil))) (pa_cons (pe_tup (pa_cons (pe_op op_catA (pe_tup (pa_cons (pv 8) pa_nil)) (pv 3)) (pa_cons (pv 4) pa_nil))) (pa_cons (pe_tup (pa_cons (pv 3) (pa_cons (pv 8) pa_nil))) (pa_cons (pe_tup (pa_cons (pe_revT (pv 3)) (pa_cons (pv 4) pa_nil))) pa_nil))))))
    (pss_cons (ps_set (i := 9) sc__law_bent_item.nd rfl (.inl rfl) (pe_op op_cat (pv 9) (pe_lst (pa_cons (pe_tup (pa_cons (pe_op op_catA (pv 3) (pv 3)) (pa_cons (pv 4) pa_nil))) (pa_cons (pe_tup (pa_cons (pv 3) (pa_cons (pe_tup pa_nil) pa_nil))) (pa_cons (pe_tup (pa_cons (pe_callTy call_list_of (by rfl) T.n_list (by decide +kernel) (pa_cons (pv 3) pa_nil)) (pa_cons (pv 4) pa_nil))) (pa_cons (pe_lst (pa_cons (pv 3) (pa_cons (pv 4) pa_nil))) (pa_cons (pe_tup (pa_cons (pv 3) pa_nil)) pa_nil))))))))
    (pss_cons (ps_set (i := 9) sc__law_bent_item.nd rfl (.inl rfl) (pe_op op_cat (pv 9) (pe_lst (pa_cons (pe_tup (pa_cons (pv 3) (pa_cons (pv 4) (pa_cons pe_non pa_nil)))) (pa_cons pe_non (pa_cons (pe_tup (pa_cons (pv 4) (pa_cons (pv 3) pa_nil))) (pa_cons (pe_tup (pa_cons pe_non (pa_cons (pv 4) pa_nil))) (pa_cons (pv 3) pa_nil))))))))
    (pss_cons (ps_set (i := 9) sc__law_bent_item.nd rfl (.inl rfl) (pe_op op_cat (pv 9) (pe_lst (pa_cons (pe_tup (pa_cons (pe_op op_catA (pv 3) (pe_tup (pa_cons (pe_tup (pa_cons pe_str (pa_cons (pv 5) pa_nil))) pa_nil))) (pa_cons (pv 4) pa_nil))) (pa_cons (pe_tup (pa_cons (pe_op op_catA (pe_tup (pa_cons (pe_tup (pa_cons pe_str (pa_cons (pv 5) pa_nil))) pa_nil)) (pv 3)) (pa_cons (pv 4) pa_nil))) pa_nil)))))
    (pss_cons (ps_set (i := 9) sc__law_bent_item.nd rfl (.inl rfl) (pe_op op_cat (pv 9) (pe_lst (pa_cons pe_dnewK (pa_cons (pe_tup (pa_cons pe_str (pa_cons (pv 4) pa_nil))) (pa_cons (pe_tup (pa_cons pe_dnewK (pa_cons (pv 4) pa_nil))) pa_nil))))))
    (pss_one (ps_ret (pe_ix ix_list (pv 9) (pe_ca CT (hr.mono (by decide)) (by rfl) (pa_cons (pv 0) (pa_cons (pe_callB call_len_seq (by rfl) T.n_len (by decide +kernel) (pa_cons (pv 9) pa_nil)) pa_nil))) (fun _ _ => rfl))))))))))))))), ?_⟩
    obtain ⟨t, xs0, ds0, rfl, ed, ht, hx0⟩ := dq_tup hv rfl
    cases ed
    obtain ⟨vs, va, rfl, hvs, hva⟩ : ∃ vs va, xs0 = [vs, va] ∧ Dq H vs (.tuple sh) ∧ Dq H va arm := by
      cases hx0 with
      | cons a1 t1 => cases t1 with
        | cons a2 t2 =>
          cases t2
          exact ⟨_, _, rfl, a1, a2⟩
    have ln : ns.length = ps.length := L.len
    have p1 := L.p1
    have p3 := L.p3
    refine ⟨_, rfl, t, _, rfl, SqT.of ht, rfl, _, _, rfl, _, _, rfl, rfl, ?_⟩
    refine ⟨_, rfl, db, _, _, rfl, Rd.of hdb, kvI_keys ps, (by rw [List.length_map]; omega), fun ys l hperm2 hso2 hl => ?_⟩
    obtain rfl : ys = ns := sorted_one hso2 L.so (hperm2.trans L.perm.symm)
    have e1 := Ext.new (o := .lst (ys.map V.str)) hl
    have h0 : 0 < ys.length := by omega
    refine ⟨l, _, 0, _, rfl, rfl, SqL.of upd_same, atI_nat (j := 0) (by rw [List.getElem?_map, List.getElem?_eq_getElem h0]; rfl), ?_⟩
    have gl0 := L.nm _ (List.getElem_mem h0)
    generalize ys[0] = lane at gl0 ⊢
    generalize upd H l (.lst (ys.map V.str)) = H1 at e1 ⊢
    have e1d := e1
    refine ⟨by show 4 ≤ sizeLine; decide, fun c hc => ?_⟩
    have e2 := Ext.new (o := .lst (four.map V.str)) hc
    have h2c : upd H1 c (.lst (four.map V.str)) c = some (.lst (four.map V.str)) := upd_same
    refine ⟨c, rfl, ⟨_, SqL.of h2c⟩, fun D hD => ?_⟩
    have e02 := e1.trans e2
    have hdb2 := e02 _ _ hdb
    change Ext H (upd H1 c (.lst (four.map V.str))) at e02
    refine lc1_acc (walk_list (xs := four.map V.str)) (fun i zs _ => ∃ ws : List Str, zs = ws.map V.str ∧ (∀ x ∈ ws, x ∈ four) ∧ (∀ j (hj : j < four.length), j < i → four[j] ∉ ps.map (·.1) → ws ≠ []) ∧ ws.length ≤ i ∧ i ≤ 4) (fun _ _ _ _ _ h => h) ⟨[], rfl, fun _ z => (nomatch z), fun j _ h => absurd h (Nat.not_lt_zero j), by decide, by decide⟩ hD
      (fun i zs _ ⟨ws, h1, _, _, h2, h3⟩ => by rw [h1, List.length_map]; exact Nat.lt_of_le_of_lt (show ws.length ≤ 4 by omega) (by decide)) (fun H' e => SqL.of (e _ _ h2c)) ?_ ?_
    · rintro i x Hi H' zs hi e hy ⟨rfl, hxi⟩ ⟨ws, rfl, hw1, hw2, hw3, hw4⟩ QY QN kY kN
      have hi4 : i < 4 := by simpa [four] using hi
      have hi5 : i < four.length := hi4
      rw [List.getElem?_map, List.getElem?_eq_getElem hi5] at hxi
      cases hxi
      refine ⟨rfl, ?_⟩
      refine ⟨_, rfl, _, rfl, db, _, rfl, DGet.k (k := Sum.inr four[i]) (e _ _ hdb2), _, rfl, ?_⟩
      by_cases c1 : four[i] ∈ ps.map (·.1)
      · rw [kvI_val c1]
        refine iteF ?_
        refine kN _ (Ext.refl _) ⟨ws, rfl, hw1, fun j hj hji hn => ?_, by omega, by omega⟩
        rcases Nat.lt_succ_iff_lt_or_eq.mp hji with h | rfl
        · exact hw2 j hj h hn
        · exact absurd c1 hn
      · rw [kvI_none c1]
        refine iteT ?_
        refine ⟨_, rfl, kY _ _ (Ext.refl _) ⟨ws ++ [four[i]], by rw [List.map_append]; rfl, fun y hy => ?_, fun _ _ _ _ => by simp, by rw [List.length_append]; simp; omega, by omega⟩⟩
        rcases List.mem_append.mp hy with z | z
        · exact hw1 y z
        · rw [List.mem_singleton.mp z]; exact List.getElem_mem hi5
    · rintro H3 zs e3 hz ⟨ws, rfl, hw1, hw2, _, _⟩
      have wne : ws ≠ [] := by
        apply Classical.byContradiction
        intro hn
        have hn' : ws = [] := Classical.byContradiction hn
        have all : ∀ x ∈ four, x ∈ ps.map (·.1) := fun x hx => by
          obtain ⟨j, hj, rfl⟩ := List.getElem_of_mem hx
          exact Classical.byContradiction fun z => hw2 j hj hj z hn'
        have := nodup_len (l := four) (l' := ps.map (·.1)) (by decide +kernel) all
        rw [List.length_map] at this
        have : (4 : Nat) ≤ ps.length := this
        omega
      obtain ⟨other, ws', rfl⟩ := List.exists_cons_of_ne_nil wne
      have go : other ∈ four := hw1 _ List.mem_cons_self
      have e03 := e02.trans e3
      refine ⟨D, _, 0, _, rfl, rfl, SqL.of hz, atI_nat (j := 0) rfl, ?_⟩
      have gO : ∀ x ∈ four, x.length ≤ 19 ∧ ∀ c ∈ tl x, c < 128 := by decide +kernel
      obtain ⟨o1, o2⟩ := gO _ go
      obtain ⟨q1, q2, q3⟩ := name_tl gl0
      have l1 : lane.length ≤ 19 := by rw [tlen]; omega
      have l2 : ∀ c ∈ tl lane, c < 128 := fun c hc => abc_low c (q3 c hc)
      refine ⟨_, _, rfl, ?_⟩
      clear hD hz hw1 hw2 wne h2c e2 hc
      have la : ∀ {σ : L2.St} {H : Hp}, σ[5]? = some (some (.str lane)) → YlG (tVar 5) σ H O0 := fun h => yl_var h (.str _) (gv_str l1 l2)
      have ot : ∀ {σ : L2.St} {H : Hp}, σ[6]? = some (some (.str other)) → YlG (tVar 6) σ H O0 := fun h => yl_var h (.str _) (gv_str o1 o2)
      dsimp only
      refine st_set ?_
      refine ol_lst (G := O2) (N := 7) (yla_cons (o12 (o_t1 (yla_cons (o_str (by decide +kernel) (by decide +kernel)) (yla_cons (la rfl) yla_nil)) (by decide))) (yla_cons (o12 (o_t1 (yla_cons (o_str (by decide +kernel) (by decide +kernel)) (yla_cons (ot rfl) yla_nil)) (by decide))) (yla_cons (o12 (o_l1 (yla_cons (o_str (by decide +kernel) (by decide +kernel)) (yla_cons (la rfl) yla_nil)) (by decide))) (yla_cons (o12 (o_t1 (yla_cons (o_str (by decide +kernel) (by decide +kernel)) (yla_cons (la rfl) (yla_cons (o_int 0 (by decide +kernel) (by decide +kernel)) yla_nil))) (by decide))) (yla_cons (o12 (o_t1 (yla_cons (o_str (by decide +kernel) (by decide +kernel)) yla_nil) (by decide))) (yla_cons (o02 o_non) (yla_cons (o02 (o_str (by decide +kernel) (by decide +kernel))) yla_nil))))))) (by decide) fun r7 H4 e4 _ ol4 => ?_
      have e04 := e03.trans e4
      clear e4
      refine st_set ?_
      refine op_of rfl ?_
      refine ol_lst (G := O2) (N := 8) (yla_cons (o12 (o_t1 (yla_cons (la rfl) (yla_cons (o_str (by decide +kernel) (by decide +kernel)) yla_nil)) (by decide))) (yla_cons (o12 (o_t1 (yla_cons (o_str (by decide +kernel) (by decide +kernel)) (yla_cons (la rfl) yla_nil)) (by decide))) (yla_cons (o12 (o_t1 (yla_cons o_non (yla_cons (la rfl) yla_nil)) (by decide))) (yla_cons (o12 (o_t1 (yla_cons (o_str (by decide +kernel) (by decide +kernel)) (yla_cons o_non yla_nil)) (by decide))) (yla_cons (o12 (o_t1 (yla_cons (o_str (by decide +kernel) (by decide +kernel)) (yla_cons (la rfl) yla_nil)) (by decide))) (yla_cons (o12 (o_t1 yla_nil (by decide))) (yla_cons (o02 (o_bl true)) (yla_cons (o02 (o_int 5 (by decide +kernel) (by decide +kernel))) yla_nil)))))))) (by decide) fun r8 H5 e5 _ ol5 => ?_
      refine ol_cat (ol4.up e5) ol5 (by decide) fun r9 H6 e6 ol6 => ?_
      have e06 := e04.trans (e5.trans e6)
      clear e5 e6 ol4 ol5 e04
      refine st_set ?_
      refine op_of rfl ?_
      refine ol_lst (G := O2) (N := 4) (yla_cons (o_t2 (yla_cons (o01 (o_str (by decide +kernel) (by decide +kernel))) (yla_cons (o_t1 (yla_cons (la rfl) yla_nil) (by decide)) yla_nil)) (by decide)) (yla_cons (o_t2 (yla_cons (o01 (o_str (by decide +kernel) (by decide +kernel))) (yla_cons (o_l1 yla_nil (by decide)) yla_nil)) (by decide)) (yla_cons (o_t2 (yla_cons (o_l1 (yla_cons (o_str (by decide +kernel) (by decide +kernel)) yla_nil) (by decide)) (yla_cons (o01 (la rfl)) yla_nil)) (by decide)) (yla_cons (o_t2 (yla_cons o_d1 (yla_cons (o01 (la rfl)) yla_nil)) (by decide)) yla_nil)))) (by decide) fun rA H7 e7 _ ol7 => ?_
      refine ol_cat (ol6.up e7) ol7 (by decide) fun rB H8 e8 ol8 => ?_
      have e08 := e06.trans (e7.trans e8)
      clear e7 e8 ol6 ol7 e06
      obtain ⟨xo, dso, hro, hxo, god, lo⟩ := ol8
      have lxo : xo.length = 19 := by rw [hxo.len, lo]
      refine st_set ?_
      refine ⟨_, rfl, _, rfl, _, rfl, rB, _, rfl, .inl (SqL.of hro), a, (xo.length : Int), rfl, hb.up e08, by omega, by omega, fun i i0 i1 => ?_⟩
      obtain ⟨i, rfl⟩ := Int.eq_ofNat_of_zero_le i0
      have hi : i < dso.length := by omega
      obtain ⟨vo, hvo, dvo⟩ := DqAll_get hxo i dso[i] (List.getElem?_eq_getElem hi)
      have gone := god _ (List.getElem_mem hi)
      generalize dso[i] = don at dvo gone
      refine ⟨rB, _, _, vo, rfl, rfl, SqL.of hro, atI_nat hvo, ?_⟩
      have gone' : Gv n k m don := gone.up (by omega) (by omega) (by omega)
      have gsh' : TupG n k m (.tuple sh) := ⟨sh, rfl, gsh⟩
      have ev : ∀ {σ : L2.St} {H' : Hp}, Ext H8 H' → σ[3]? = some (some vs) → σ[4]? = some (some va) → σ[5]? = some (some (.str lane)) → σ[8]? = some (some vo) → Ev σ H' n k m := fun {σ H'} e h3 h4 h5 h8 =>
        ⟨n12, n100, k3, m2, yl_var h3 (hvs.up (e08.trans e)) gsh', yl_var h4 (hva.up (e08.trans e)) garm, yl_var h5 (.str _) (gv_str l1 l2), yl_var h8 (dvo.up e) gone'⟩
      dsimp only
      refine st_set ?_
      refine go_ev (ev (Ext.refl _) rfl rfl rfl rfl) fun E => ol_lst (G := FF n k m) (N := 4) (yla_cons (E.tup (yla_cons (E.cat1 E.on) (yla_cons E.arA yla_nil)) (by decide)) (yla_cons (E.tup (yla_cons (E.cat2 E.on) (yla_cons E.arA yla_nil)) (by decide)) (yla_cons (E.tup (yla_cons E.shA (yla_cons E.onA yla_nil)) (by decide)) (yla_cons (E.tup (yla_cons E.rev (yla_cons E.arA yla_nil)) (by decide)) yla_nil)))) (by decide) fun s0 HS0 es0 _ os0 => ?_
      have ec0 := es0
      have oc0 := os0
      refine st_set ?_
      refine op_of rfl ?_
      refine go_ev (ev ec0 rfl rfl rfl rfl) fun E => ol_lst (G := FF n k m) (N := 5) (yla_cons (E.tup (yla_cons E.dbl (yla_cons E.arA yla_nil)) (by decide)) (yla_cons (E.tup (yla_cons E.shA (yla_cons E.emA yla_nil)) (by decide)) (yla_cons (E.tup (yla_cons E.lof (yla_cons E.arA yla_nil)) (by decide)) (yla_cons (E.lst (yla_cons E.shA (yla_cons E.arA yla_nil)) (by decide)) (yla_cons (E.tup (yla_cons E.shA yla_nil) (by decide)) yla_nil))))) (by decide) fun s1 HS1 es1 _ os1 => ?_
      refine ol_cat (oc0.up es1) os1 (by decide) fun c1 HC1 ef1 oc1 => ?_
      have ec1 := ec0.trans (es1.trans ef1)
      refine st_set ?_
      refine op_of rfl ?_
      refine go_ev (ev ec1 rfl rfl rfl rfl) fun E => ol_lst (G := FF n k m) (N := 5) (yla_cons (E.tup (yla_cons E.shA (yla_cons E.arA (yla_cons E.noA yla_nil))) (by decide)) (yla_cons (E.fin E.noA) (yla_cons (E.tup (yla_cons E.arA (yla_cons E.shA yla_nil)) (by decide)) (yla_cons (E.tup (yla_cons E.noA (yla_cons E.arA yla_nil)) (by decide)) (yla_cons (E.fin E.shA) yla_nil))))) (by decide) fun s2 HS2 es2 _ os2 => ?_
      refine ol_cat (oc1.up es2) os2 (by decide) fun c2 HC2 ef2 oc2 => ?_
      have ec2 := ec1.trans (es2.trans ef2)
      refine st_set ?_
      refine op_of rfl ?_
      refine go_ev (ev ec2 rfl rfl rfl rfl) fun E => ol_lst (G := FF n k m) (N := 2) (yla_cons (E.tup (yla_cons (E.cat1 (E.pr (by decide +kernel) (by decide +kernel))) (yla_cons E.arA yla_nil)) (by decide)) (yla_cons (E.tup (yla_cons (E.cat2 (E.pr (by decide +kernel) (by decide +kernel))) (yla_cons E.arA yla_nil)) (by decide)) yla_nil)) (by decide) fun s3 HS3 es3 _ os3 => ?_
      refine ol_cat (oc2.up es3) os3 (by decide) fun c3 HC3 ef3 oc3 => ?_
      have ec3 := ec2.trans (es3.trans ef3)
      refine st_set ?_
      refine op_of rfl ?_
      refine go_ev (ev ec3 rfl rfl rfl rfl) fun E => ol_lst (G := FF n k m) (N := 3) (yla_cons (E.fin E.diA) (yla_cons (E.tup (yla_cons (E.strA (by decide +kernel) (by decide +kernel)) (yla_cons E.arA yla_nil)) (by decide)) (yla_cons (E.tup (yla_cons E.diA (yla_cons E.arA yla_nil)) (by decide)) yla_nil))) (by decide) fun s4 HS4 es4 _ os4 => ?_
      refine ol_cat (oc3.up es4) os4 (by decide) fun c4 HC4 ef4 oc4 => ?_
      have ec4 := ec3.trans (es4.trans ef4)
      obtain ⟨xq, dsq, hrq, hxq, gdq, lq⟩ := oc4
      have lxq : xq.length = 19 := by rw [hxq.len, lq]
      have e0C := e08.trans ec4
      refine ⟨_, rfl, _, rfl, _, rfl, c4, _, rfl, .inl (SqL.of hrq), a, (xq.length : Int), rfl, hb.up e0C, by omega, by omega, fun i i0 i1 => ?_⟩
      obtain ⟨i, rfl⟩ := Int.eq_ofNat_of_zero_le i0
      have hi : i < dsq.length := by omega
      obtain ⟨vq, hvq, dvq⟩ := DqAll_get hxq i dsq[i] (List.getElem?_eq_getElem hi)
      refine ⟨c4, _, _, vq, rfl, rfl, SqL.of hrq, atI_nat hvq, ?_⟩
      exact q _ _ _ e0C dvq (gdq _ (List.getElem_mem hi))
end
end K70

set_option Elab.async false
set_option linter.all false
set_option maxRecDepth 100000
set_option maxHeartbeats 4000000
namespace K70
open PySem PySem.Spec PyProof.Rows L2 Ol RZ
open TL (tl)
/-- what a bent thing is -/
abbrev BG (n k m : Nat) : PyData → Prop := Gv (n + n) (k + 3) (8 * m + 100)
/-- a list of such data -/
def LG (H : Hp) (r : Addr) (n k m : Nat) : Prop := ∃ (xs : List V) (ds : List PyData), H r = some (.lst xs) ∧ DqAll H xs ds ∧ GvA n k m ds
theorem LG.up {H H' : Hp} {r : Addr} {n k m : Nat} (h : LG H r n k m) (e : Ext H H') : LG H' r n k m := by
  obtain ⟨xs, ds, h1, h2, h3⟩ := h
  exact ⟨xs, ds, e _ _ h1, DqAll.up e h2, h3⟩
theorem LG.gv {H : Hp} {r : Addr} {n k m : Nat} (h : LG H r n k m) : ∃ d, Dq H (.ref r) d ∧ Gv n (k + 1) (m + 3) d := by
  obtain ⟨xs, ds, h1, h2, h3⟩ := h
  exact ⟨_, .lst h1 h2, h3.lst⟩
theorem lg_cat {H : Hp} {r1 r2 : Addr} {n1 n2 k m1 m2 N : Nat} {Q : VK} (h1 : LG H r1 n1 k m1) (h2 : LG H r2 n2 k m2) (hn1 : n1 ≤ N) (hn2 : n2 ≤ N) (hN : ∀ xs ys ds es, H r1 = some (.lst xs) → H r2 = some (.lst ys) → DqAll H xs ds → DqAll H ys es → ds.length + es.length ≤ N) (l : N ≤ 1000) (k' : ∀ (r : Addr) (H' : Hp), Ext H H' → LG H' r N k (m1 + m2) → Q (.ref r) H') : rCat (.ref r1) (.ref r2) H Q := by
  obtain ⟨xs, ds, a1, a2, a3⟩ := h1
  obtain ⟨ys, es, b1, b2, b3⟩ := h2
  have z := hN xs ys ds es a1 b1 a2 b2
  refine ⟨r1, r2, xs, ys, rfl, rfl, a1, b1, by rw [a2.len, b2.len]; exact Nat.le_trans z (Nat.le_trans l (by decide)), fun p hp => k' p _ (Ext.new hp) ⟨xs ++ ys, ds ++ es, upd_same, DqAll.up (Ext.new hp) (dq_appT a2 b2), ?_⟩⟩
  exact GvA.app (a3.up hn1 (Nat.le_refl _) (Nat.le_refl _)) (b3.up hn2 (Nat.le_refl _) (Nat.le_refl _)) (Nat.le_refl _) z
theorem sl_row {K' : PySem.W.Frag} {H : Hp} {l : Addr} {xs : List V} {lo hi : Option Int} {Q : V → Hp → Prop} (hl : H l = some (.lst xs))
    (k : ∀ p H', H p = none → Ext H H' → H' p = some (.lst (cutV xs lo hi)) → Q (.ref p) H') : rSlL K' (.ref l) lo hi H Q :=
  ⟨l, xs, rfl, SqL.of hl, fun p hp => k p _ hp (Ext.new hp) upd_same⟩
theorem dq_take {H : Hp} : ∀ {xs : List V} {ds : List PyData}, DqAll H xs ds → ∀ i, DqAll H (xs.take i) (ds.take i)
  | _, _, _, 0 => .nil
  | _, _, .nil, _ + 1 => .nil
  | _, _, .cons a t, i + 1 => .cons a (dq_take t i)
theorem dq_drop {H : Hp} : ∀ {xs : List V} {ds : List PyData}, DqAll H xs ds → ∀ i, DqAll H (xs.drop i) (ds.drop i)
  | _, _, h, 0 => h
  | _, _, .nil, _ + 1 => .nil
  | _, _, .cons a t, i + 1 => dq_drop t i
section
variable {P : Program} {w : World} {K : PySem.W.Frag} {mg : Str → Option Value} {base : Heap} {C CP S SP : Addr}
/-! ### _law_bent -/
def spBe : Sp := fun vs H Q _ => ∃ (a db l : Addr) (ps : List (Str × Int)) (ns : List Str) (xs : List V) (ds : List PyData) (n k m : Nat), vs = [.ref a, .ref db, .ref l] ∧ Bag H a ∧ H db = some (.dK (kvI ps)) ∧ Lo ps ns ∧ H l = some (.lst xs) ∧ DqAll H xs ds ∧ 12 ≤ n ∧ n ≤ 100 ∧ 3 ≤ k ∧ 2000 ≤ m ∧ GvA n k m ds ∧
  ∀ (v' : V) (d' : PyData) (H' : Hp), Ext H H' → Dq H' v' d' → BG n k m d' → Q v' H'
abbrev s__law_bent : Stmt := (topS 54)
theorem sc__law_bent : FnScope ["_law_bag_here", "_law_bounds_here", "_law_thing", "_law_at"] ["_law_bag_here", "_law_bounds_here", "_law_thing"] (defScope s__law_bent) := ⟨rfl, rfl, rfl, by decide +kernel, rfl, by decide +kernel, by decide +kernel⟩
theorem ok_be {f : Addr} {fd : FuncData} (F : Fun K "_law_bent" "_law_bent" s__law_bent f fd) (T : BT mg) (nMax : mg "max" = none) (CT : Ca P w K mg base 1 "_law_take" ["_law_bag_here", "_law_many"] spTake)
    (CBi : Ca P w K mg base 2 "_law_bent_item" ["_law_bag_here", "_law_bounds_here", "_law_item"] spBi) :
    FnOk P w K mg base CX0 3 f fd ["_law_bag_here", "_law_bounds_here", "_law_thing"] spBe := by
  refine F.ok sc__law_bent (fun vs H Q E h => ?_) (fun cdv A outer s H vs Q E hr h => ?_)
  · obtain ⟨a, db, l, ps, ns, xs, ds, n, k, m, rfl, _⟩ := h
    rfl
  · obtain ⟨a, db, l, ps, ns, xs, ds, n, k, m, rfl, hb, hdb, L, hl, hx, n12, n100, k3, m2, gds, q⟩ := h
    refine ⟨_, (pss_cons (ps_set (i := 3) sc__law_bent.nd rfl (.inl rfl) (pe_ca CT (hr.mono (by decide)) (by rfl) (pa_cons (pv 0) (pa_cons (pe_callB (call_max2 rfl) (by rfl) nMax (by decide +kernel) (pa_cons pe_int (pa_cons (pe_callB call_len_seq (by rfl) T.n_len (by decide +kernel) (pa_cons (pv 2) pa_nil)) pa_nil))) pa_nil))))
    (pss_cons (ps_if (PW.pt (pw_or (pt_cmpR op_eq (pe_ca CT (hr.mono (by decide)) (by rfl) (pa_cons (pv 0) (pa_cons pe_int pa_nil))) pe_int (nomark _)) (pw_or1 (pt_cmpR (op_eqE hr) (pv 2) (pe_lst pa_nil) (nomark _)))))
      (pss_one (ps_ret (pe_ix ix_list (pe_lst (pa_cons pe_non (pa_cons (pe_tup pa_nil) (pa_cons pe_dnewK (pa_cons pe_str (pa_cons (pe_callTy call_tuple_of (by rfl) T.n_tuple (by decide +kernel) (pa_cons (pv 2) pa_nil)) (pa_cons (pe_lst (pa_cons (pv 2) pa_nil)) (pa_cons (pe_lst (pa_cons pe_non pa_nil)) (pa_cons (pe_lst (pa_cons (pe_tup pa_nil) pa_nil)) (pa_cons (pe_lst (pa_cons (pe_tup (pa_cons (pe_tup pa_nil) (pa_cons pe_non (pa_cons (pe_tup pa_nil) pa_nil)))) pa_nil)) pa_nil)))))))))) (pe_ca CT (hr.mono (by decide)) (by rfl) (pa_cons (pv 0) (pa_cons pe_int pa_nil))) (fun _ _ => rfl))))
      pss_nil)
    (pss_cons (ps_if (PW.pt (pw_or (pt_not (pt_val (pe_callB call_isi (by rfl) T.n_isinstance (by decide +kernel) (pa_cons (pe_ix ix_list (pv 2) (pv 3) (fun _ _ => rfl)) (pa_cons (pe_bltn (v := .ty "tuple") (by rfl) T.n_tuple (by decide +kernel) rfl) pa_nil))))) (pw_or (pt_cmpR op_ne (pe_callB call_len_seq (by rfl) T.n_len (by decide +kernel) (pa_cons (pe_ix ix_list (pv 2) (pv 3) (fun _ _ => rfl)) pa_nil)) pe_int (nomark _)) (pw_or1 (pt_not (pt_val (pe_callB call_isi (by rfl) T.n_isinstance (by decide +kernel) (pa_cons (pe_ix ix_tup (pe_ix ix_list (pv 2) (pv 3) (fun _ _ => rfl)) pe_int (fun _ _ => rfl)) (pa_cons (pe_bltn (v := .ty "tuple") (by rfl) T.n_tuple (by decide +kernel) rfl) pa_nil)))))))))
      (pss_one (ps_ret (pe_op op_cat (pv 2) (pv 2))))
      pss_nil)
    (pss_one (ps_ret (pe_op op_cat (pe_op op_cat (pe_slice sl_list (pv 2) po_none (po_some (pv 3))) (pe_lst (pa_cons (pe_ca CBi (hr.mono (by decide)) (by rfl) (pa_cons (pv 0) (pa_cons (pv 1) (pa_cons (pe_ix ix_list (pv 2) (pv 3) (fun _ _ => rfl)) pa_nil)))) pa_nil))) (pe_slice sl_list (pv 2) (po_some (pe_op op_add (pv 3) pe_int)) po_none))))))), ?_⟩
    have lx := hx.len
    have ld := gds.len
    refine ⟨_, rfl, _, rfl, l, _, rfl, .inl (SqL.of hl), 1, (xs.length : Int), rfl, ?_⟩
    refine ⟨a, _, rfl, hb, ?_, ?_, fun at_ a0 a1 => ?_⟩
    · split <;> omega
    · split <;> omega
    obtain ⟨i, rfl⟩ := Int.eq_ofNat_of_zero_le a0
    have hi : ds ≠ [] → i < ds.length := fun hn => by
      have : 0 < ds.length := List.length_pos_iff.mpr hn
      split at a1 <;> omega
    refine ⟨_, rfl, a, 6, rfl, hb, by decide, by decide, fun z z0 z1 => ⟨rfl, _, rfl, ?_⟩⟩
    have other : ∀ {H1 : Hp}, Ext H H1 → ∀ (G : PyData → Prop) (Q' : VK), (∀ d, G d → BG n k m d) → ∀ (v : V) (d : PyData), Dq H1 v d → G d → Q v H1 := fun {H1} e G Q' hG v d hd g => q v d H1 e hd (hG d g)
    clear other
    let thing : PyData := .list ds
    have hT : Dq H (.ref l) (.list ds) := .lst hl hx
    have gT : Gv n (k + 1) (m + 3) (.list ds) := gds.lst
    have dz : ∀ {H1 : Hp} {σ : L2.St}, Ext H H1 → σ[0]? = some (some (.ref a)) → σ[2]? = some (some (.ref l)) → tOp (rIxL K) (tLst (tCons (tC .non) (tCons (tTup tNil) (tCons tDNewK (tCons (tC (.str "row")) (tCons (tCB (fun xs H Q => ∃ p ys, xs = [V.ref p] ∧ ((SqL K H p ys ∧ ∀ l, H l = none → Q (.ref l) (upd H l (.tup ys))) ∨ (SqT K H p ys ∧ Q (.ref p) H))) (tCons (tVar 2) tNil)) (tCons (tLst (tCons (tVar 2) tNil)) (tCons (tLst (tCons (tC .non) tNil)) (tCons (tLst (tCons (tTup tNil) tNil)) (tCons (tLst (tCons (tTup (tCons (tTup tNil) (tCons (tC .non) (tCons (tTup tNil) tNil)))) tNil)) tNil)))))))))) (tCall spTake [] E0 (tCons (tVar 0) (tCons (tC (.int 9)) tNil))) σ H1 Q := by
      intro H1 σ e s0 s2
      have em : ∀ {σ : L2.St} {H : Hp}, YlG (tTup tNil) σ H (Gv n 1 4) := yl_tup (n := n) (k := 0) (m := 0) yla_nil (by omega) (by omega) (Nat.le_refl _) (by omega) (by omega)
      have no : ∀ {σ : L2.St} {H : Hp}, YlG (tC .non) σ H (Gv n 1 4) := yl_c (fun _ => .non) (gv_non.up (Nat.le_refl _) (by omega) (by omega))
      have th : YlG (tVar 2) σ H1 (Gv n (k + 1) (m + 3)) := yl_var s2 (hT.up e) gT
      have up : ∀ {te : TE} {k' m' : Nat}, YlG te σ H1 (Gv n k' m') → k' ≤ k + 3 → m' ≤ 8 * m + 100 → YlG te σ H1 (BG n k m) := fun {te k' m'} h h1 h2 => h.up fun d g => g.up (by omega) h1 h2
      have tu : YlG (tCB (fun xs H Q => ∃ p ys, xs = [V.ref p] ∧ ((SqL K H p ys ∧ ∀ l, H l = none → Q (.ref l) (upd H l (.tup ys))) ∨ (SqT K H p ys ∧ Q (.ref p) H))) (tCons (tVar 2) tNil)) σ H1 (Gv n (k + 1) (m + 3)) := fun H2 e2 Q2 q2 => by
        refine ⟨_, s2, l, xs, rfl, .inl ⟨SqL.of ((e.trans e2) _ _ hl), fun p hp => ?_⟩⟩
        have e4 := Ext.new (o := .tup xs) hp
        exact q2 _ (.tuple ds) _ e4 (.tup upd_same (DqAll.up ((e.trans e2).trans e4) hx)) gds.tup
      refine ol_lst (G := BG n k m) (N := 9) (yla_cons (up no (by omega) (by omega)) (yla_cons (up em (by omega) (by omega)) (yla_cons (up (yl_dnew gv_dnil) (by omega) (by omega)) (yla_cons (up (yl_c (fun _ => .str _) (gv_str (by decide +kernel) (by decide +kernel))) (by omega) (by omega)) (yla_cons (up tu (by omega) (by omega)) (yla_cons (up (yl_lst (n' := n) (yla_cons th yla_nil) (by omega) (by omega) (Nat.le_refl _) (Nat.le_refl _) (Nat.le_refl _)) (by omega) (by omega)) (yla_cons (up (yl_lst (n' := n) (yla_cons no yla_nil) (by omega) (by omega) (Nat.le_refl _) (Nat.le_refl _) (Nat.le_refl _)) (by omega) (by omega)) (yla_cons (up (yl_lst (n' := n) (yla_cons em yla_nil) (by omega) (by omega) (Nat.le_refl _) (Nat.le_refl _) (Nat.le_refl _)) (by omega) (by omega)) (yla_cons (up (yl_lst (n' := n) (yla_cons (yl_tup (n' := n) (yla_cons em (yla_cons no (yla_cons em yla_nil))) (by omega) (by omega) (Nat.le_refl _) (Nat.le_refl _) (Nat.le_refl _)) yla_nil) (by omega) (by omega) (Nat.le_refl _) (Nat.le_refl _) (Nat.le_refl _)) (by omega) (by omega)) yla_nil))))))))) (by decide) fun r H2 e2 _ ol => ?_
      obtain ⟨ws, es, w1, w2, w3, w4⟩ := ol
      refine ⟨_, s0, a, 9, rfl, hb.up (e.trans e2), by decide, by decide, fun j j0 j1 => ?_⟩
      obtain ⟨j, rfl⟩ := Int.eq_ofNat_of_zero_le j0
      have hj : j < es.length := by omega
      obtain ⟨vq, hvq, dvq⟩ := DqAll_get w2 j es[j] (List.getElem?_eq_getElem hj)
      exact ⟨r, _, _, vq, rfl, rfl, SqL.of w1, atI_nat hvq, q _ _ _ (e.trans e2) dvq (w3 _ (List.getElem_mem hj))⟩
    refine ite2 (fun g => dz (Ext.refl _) rfl rfl) (fun g => ?_)
    refine ⟨_, rfl, by show 0 ≤ sizeLine; decide, fun c hc => ?_⟩
    have e1 := Ext.new (o := .lst []) hc
    refine ⟨l, c, xs, rfl, rfl, SqL.of (e1 _ _ hl), SqL.of upd_same, _, rfl, ?_⟩
    generalize upd H c (.lst []) = H1 at e1 ⊢
    cases hxe : xs.isEmpty with
    | true =>
      refine iteT ?_
      exact dz e1 rfl rfl
    | false =>
      refine iteF ?_
      have dne : ds ≠ [] := fun z => by
        subst z
        cases hx
        cases hxe
      have hi' := hi dne
      obtain ⟨vx, hvx, dvx⟩ := DqAll_get hx i ds[i] (List.getElem?_eq_getElem hi')
      have gdi := GvA.mem gds (List.getElem_mem hi')
      generalize ds[i] = di at dvx gdi
      have dbl : ∀ {H1 : Hp} {σ : L2.St}, Ext H H1 → σ[2]? = some (some (.ref l)) → tOp rCat (tVar 2) (tVar 2) σ H1 Q := by
        intro H1 σ e s2
        have lg : LG H1 l n k m := ⟨xs, ds, e _ _ hl, DqAll.up e hx, gds⟩
        refine ⟨_, s2, _, s2, lg_cat (N := n + n) lg lg (by omega) (by omega) (fun xs' ys' ds' es' h1 h2 h3 h4 => ?_) (by omega) fun r H2 e2 lg2 => ?_⟩
        · have r1 := e _ _ hl
          rw [r1] at h1 h2
          cases h1
          cases h2
          have := h3.len
          have := h4.len
          omega
        · obtain ⟨d, hd, gd⟩ := lg2.gv
          exact q _ d _ (e.trans e2) hd (gd.up (Nat.le_refl _) (by omega) (by omega))
      have dvx1 := dvx.up e1
      refine ⟨_, rfl, _, rfl, l, _, _, vx, rfl, rfl, SqL.of (e1 _ _ hl), atI_nat hvx, _, _, _, _, _, rfl, .ty "tuple", ty_of dvx1, ki_tuple di, _, rfl, ?_⟩
      cases hTi : kT di with
      | false =>
        refine iteT ?_
        exact dbl e1 rfl
      | true =>
        refine iteF ?_
        obtain ⟨t, ys, es, rfl, rfl, ht, hys⟩ := dq_tup dvx1 hTi
        refine ⟨_, rfl, _, rfl, l, _, _, _, rfl, rfl, SqL.of (e1 _ _ hl), atI_nat hvx, t, _, rfl, .inr (SqT.of ht), rfl, _, rfl, ?_⟩
        by_cases hlen : ys.length = 2
        · rw [hlen]
          refine iteF ?_
          obtain ⟨v0, v1, d0, d1, rfl, rfl, t0, t1⟩ := two_of hys hlen
          refine ⟨_, rfl, _, rfl, l, _, _, _, rfl, rfl, SqL.of (e1 _ _ hl), atI_nat hvx, t, _, 0, _, rfl, rfl, SqT.of ht, rfl, _, _, _, _, _, rfl, .ty "tuple", ty_of t0, ki_tuple d0, _, rfl, ?_⟩
          cases hT0 : kT d0 with
          | false =>
            refine iteT ?_
            exact dbl e1 rfl
          | true =>
            refine iteF ?_
            obtain ⟨b, zs, sh, rfl, rfl, hb', hzs⟩ := dq_tup t0 hT0
            have gin := gdi.tup_inv
            have gsh := (GvA.mem gin (List.mem_cons_self)).tup_inv
            have gar := GvA.mem gin (List.mem_cons_of_mem _ List.mem_cons_self)
            have nm1 : 2000 ≤ m := m2
            have gsh' : GvA n k m sh := gsh.up (Nat.le_refl _) (by omega) (by omega)
            have gar' : Gv n k m d1 := gar.up (Nat.le_refl _) (by omega) (by omega)
            refine ⟨_, rfl, _, rfl, _, rfl, sl_row (e1 _ _ hl) fun p1 H2 np1 e2 h2 => ?_⟩
            rw [cut_take] at h2
            have e02 := e1.trans e2
            refine ⟨_, rfl, _, rfl, _, rfl, _, rfl, l, _, _, _, rfl, rfl, SqL.of (e02 _ _ hl), atI_nat hvx, a, db, .ref t, ps, ns, sh, d1, n, k, m, rfl, hb.up e02, e02 _ _ hdb, L, (dvx1.up e2), n12, n100, k3, m2, gsh', gar', fun v' d' H3 e3 hd' gd' => ?_⟩
            have e03 := e02.trans e3
            refine ⟨by show 1 ≤ sizeLine; decide, fun u hu => ?_⟩
            have e4 := Ext.new (o := .lst [v']) hu
            have e04 := e03.trans e4
            have hp1 := e4 _ _ (e3 _ _ h2)
            have hu1 := upd_same (H := H3) (a := u) (o := HO.lst [v'])
            have hd4 := hd'.up e4
            generalize upd H3 u (.lst [v']) = H4 at e4 e04 hp1 hu1 hd4 ⊢
            have lt : (xs.take i).length = i := by rw [List.length_take]; omega
            refine ⟨p1, u, _, _, rfl, rfl, hp1, hu1, by rw [lt]; exact Nat.le_trans (show i + 1 ≤ 1000 by omega) (by decide), fun p3 hp3 => ?_⟩
            have e5 := Ext.new (o := .lst (xs.take i ++ [v'])) hp3
            have h5 := upd_same (H := H4) (a := p3) (o := HO.lst (xs.take i ++ [v']))
            have e05 := e04.trans e5
            have hd5 := hd4.up e5
            generalize upd H4 p3 (.lst (xs.take i ++ [v'])) = H5 at e5 h5 e05 hd5 ⊢
            refine ⟨_, rfl, _, rfl, _, _, rfl, rfl, _, rfl, ?_⟩
            dsimp only [tNoPart]
            refine sl_row (e05 _ _ hl) fun p2 H6 np2 e6 h6 => ?_
            rw [show ((i : Int) + 1) = ((i + 1 : Nat) : Int) by omega, cut_drop] at h6
            have lg' : (xs.drop (i + 1)).length = xs.length - (i + 1) := List.length_drop ..
            refine ⟨p3, p2, _, _, rfl, rfl, e6 _ _ h5, h6, by rw [List.length_append, lt, lg', List.length_singleton]; exact Nat.le_trans (show _ ≤ 1000 by omega) (by decide), fun p7 hp7 => ?_⟩
            have e7 := Ext.new (o := .lst (xs.take i ++ [v'] ++ xs.drop (i + 1))) hp7
            have e57 := e6.trans e7
            have g1 : GvA (n + n) (k + 2) m (ds.take i) := (gds.take i).up (by omega) (by omega) (Nat.le_refl _)
            have g2 : GvA (n + n) (k + 2) (6 * m + 50 + 2) [d'] := gd'.one (by omega)
            have g3 : GvA (n + n) (k + 2) m (ds.drop (i + 1)) := (gds.drop (i + 1)).up (by omega) (by omega) (Nat.le_refl _)
            have lt2 : (ds.take i).length = i := by rw [List.length_take]; omega
            have ld2 : (ds.drop (i + 1)).length = ds.length - (i + 1) := List.length_drop ..
            have g := GvA.app (N := n + n) (GvA.app (N := n + n) g1 g2 (Nat.le_refl _) (by rw [lt2, List.length_singleton]; omega)) g3 (Nat.le_refl _) (by rw [List.length_append, lt2, ld2, List.length_singleton]; omega)
            refine q _ (.list (ds.take i ++ [d'] ++ ds.drop (i + 1))) _ (e05.trans e57) (.lst upd_same (dq_appT (dq_appT (DqAll.up (e05.trans e57) (dq_take hx i)) (.cons (hd5.up e57) .nil)) (DqAll.up (e05.trans e57) (dq_drop hx (i + 1))))) ?_
            exact g.lst.up (Nat.le_refl _) (by omega) (by omega)
        · refine ite2 (fun g => dbl e1 rfl) (fun g => ?_)
          exfalso
          have g' : ¬ (!decide (V.int (ys.length : Int) = V.int 2)) = true := g
          rw [two_le hlen] at g'
          exact g' rfl
end
end K70

set_option Elab.async false
set_option linter.all false
set_option maxRecDepth 100000
set_option maxHeartbeats 4000000
namespace K70
open PySem PySem.Spec PyProof.Rows L2 Ol
open TL (tl)
section
variable {P : Program} {w : World} {K : PySem.W.Frag} {mg : Str → Option Value} {base : Heap}
abbrev s__law_alike : Stmt := (topS 38)
theorem sc__law_alike : FnScope ["_law_found", "_law_due_here"] ["_law_found", "_law_due_here"] (defScope s__law_alike) := ⟨rfl, rfl, rfl, by decide +kernel, rfl, by decide +kernel, by decide +kernel⟩
theorem ok_alike {f : Addr} {fd : FuncData} (F : Fun K "_law_alike" "_law_alike" s__law_alike f fd) (T : BT mg) :
    FnG P w K mg base 1 f fd ["_law_found", "_law_due_here"] spAlike := by
  refine okG F sc__law_alike (fun vs H Q E h => ?_) (fun cdv A outer s H vs Q E hG hr h => ?_)
  · obtain ⟨v, u, d, rfl, _⟩ := h
    rfl
  · obtain ⟨v, u, d, rfl, S, h1, h2, hs, ft, q⟩ := h
    refine ⟨_, (pss_one (ps_ret (pe_and (pe_cmpR (op_eqQ hr) (pv 0) (pv 1) (nomark _)) (pe_one (pe_cmpR op_eq (pe_callB (call_reprD hG hr) (by rfl) T.n_repr (by decide +kernel) (pa_cons (pv 0) pa_nil)) (pe_callB (call_reprD hG hr) (by rfl) T.n_repr (by decide +kernel) (pa_cons (pv 1) pa_nil)) (nomark _)))))), ?_⟩
    refine ⟨_, rfl, _, rfl, d, d, S, h1, h2, hs, hs, _, rfl, ?_⟩
    rw [SeqAt.eqv_refl d (SeqAt.canLay_of_shaped hs)]
    refine iteT ?_
    refine ⟨_, rfl, v, d, rfl, S, h1, ft.sh, ft.dep, ft.len, _, rfl, u, d, rfl, S, h2, ft.sh, ft.dep, ft.len, rfl, ?_⟩
    have e : decide (V.str d.shown = V.str d.shown) = true := decide_eq_true rfl
    rw [e]
    exact q H (Ext.refl H)
end

end K70

set_option Elab.async false
set_option linter.all false
set_option maxRecDepth 100000
set_option maxHeartbeats 4000000
namespace K70
open PySem PySem.Spec PyProof.Rows L2 Ol RZ
open TL (tl)
/-- what isinstance says of the classes -/
structure IsL (K : PySem.W.Frag) (C : Addr) : Prop where
  cls : PySem.W.findIn K (.ref C) "__class__" = some (some (.builtin "object.__class__"))
  get : PySem.W.specialIn K (.builtin "object.__class__") "__get__" = some (some (.builtin "getset_descriptor.__get__"))
  set : PySem.W.takesIn K (.builtin "object.__class__") = some true
  mro : PySem.W.mroIn K C (.type "object") = some true
  kL : PySem.W.kitOne K (.ref C) (.type "list") = some false
theorem IsL.ty {K : PySem.W.Frag} {C : Addr} {H : Hp} {p dx : Addr} {fs : List (Str × V)} (I : IsL K C) (c : Cls K C) (h : H p = some (.ins C dx fs)) : TyX K H (.ref p) (.ref C) := .base (.ins h c I.cls I.get I.set I.mro)
def nn : Nat → Nat
  | 0 => 12
  | i + 1 => nn i + nn i
def kk : Nat → Nat
  | 0 => 5
  | i + 1 => kk i + 3
def mm : Nat → Nat
  | 0 => 80000
  | i + 1 => 8 * mm i + 100
theorem lev (i : Nat) (h : i ≤ 2) : 12 ≤ nn i ∧ nn i ≤ 48 ∧ 3 ≤ kk i ∧ kk i ≤ 11 ∧ 2000 ≤ mm i ∧ mm i ≤ 6000000 := by
  match i, h with
  | 0, _ => decide
  | 1, _ => decide
  | 2, _ => decide
theorem lev_up (i : Nat) : nn i ≤ nn (i + 1) ∧ kk i ≤ kk (i + 1) ∧ mm i ≤ mm (i + 1) := by
  simp only [nn, kk, mm]
  omega
theorem gv_it {ns : List Str} {it : Item} (h : ItN ns 12 it) : Gv 12 3 9829 (itD it) := by
  have pr : ∀ p, DealOk ns p → Gv 12 1 407 (pairD p) := fun p hp => by
    have w : ∀ x ∈ words4, x.length ≤ 19 ∧ ∀ c ∈ tl x, c < 128 := by decide +kernel
    obtain ⟨q1, q2, q3⟩ := name_tl hp.ok
    have g := GvA.of (n := 12) (k := 0) (m := 200) (a := [.str p.1, .str p.2]) (fun d hd => by
      simp only [List.mem_cons, List.not_mem_nil, or_false] at hd
      rcases hd with rfl | rfl
      · exact gv_str (w _ hp.wd).1 (w _ hp.wd).2
      · exact gv_str (by rw [tlen]; omega) fun c hc => abc_low c (q3 c hc)) (by simp)
    exact g.tup
  have sh := GvA.of (n := 12) (k := 1) (m := 407) (a := it.1.map pairD) (fun d hd => by
    obtain ⟨p, hp, rfl⟩ := List.mem_map.mp hd
    exact pr p (h.deals p hp)) (by rw [List.length_map]; exact h.few)
  have l12 : (it.1.map pairD).length * (407 + 2) ≤ 12 * 409 := Nat.mul_le_mul_right _ (by rw [List.length_map]; exact h.few)
  have sh2 : Gv 12 2 4911 (.tuple (it.1.map pairD)) := sh.tup.up (Nat.le_refl _) (Nat.le_refl _) (by omega)
  have ar : Gv 12 2 4911 (tkD it.2) := by
    cases e : it.2 with
    | none => exact gv_non.up (Nat.le_refl _) (by decide) (by decide)
    | some p => exact (pr p (h.tak p e)).up (Nat.le_refl _) (by decide) (by decide)
  have g := GvA.of (n := 12) (k := 2) (m := 4911) (a := [.tuple (it.1.map pairD), tkD it.2]) (fun d hd => by
    simp only [List.mem_cons, List.not_mem_nil, or_false] at hd
    rcases hd with rfl | rfl
    · exact sh2
    · exact ar) (by simp)
  exact g.tup
theorem gv_row {ns : List Str} {row : List Item} (h : ∀ it ∈ row, ItN ns 12 it) (l : row.length ≤ 8) : GvA 12 3 79000 (row.map itD) := by
  have g := GvA.of (n := 12) (k := 3) (m := 9829) (a := row.map itD) (fun d hd => by
    obtain ⟨it, hit, rfl⟩ := List.mem_map.mp hd
    exact gv_it (h it hit)) (by rw [List.length_map]; omega)
  refine g.up (Nat.le_refl _) (Nat.le_refl _) ?_
  have : (row.map itD).length * (9829 + 2) ≤ 8 * 9831 := Nat.mul_le_mul_right _ (by rw [List.length_map]; exact l)
  omega
theorem gv_sm {n k m : Nat} {d : PyData} (h : Gv n k m d) (hn : n < 64) : ∀ ds, d = .list ds → ds.length ≤ n ∧ ∀ e ∈ ds, Sm e := fun ds e => by
  subst e
  have g := h.lst_inv
  refine ⟨g.len, fun e he sh arm ee => ?_⟩
  subst ee
  have g1 := (GvA.mem g he).tup_inv
  have g2 := (GvA.mem g1 List.mem_cons_self).tup_inv
  exact Nat.lt_of_le_of_lt g2.len hn
theorem dq_rep {H : Hp} : ∀ n : Nat, DqAll H (List.replicate n V.non) (List.replicate n PyData.none)
  | 0 => .nil
  | n + 1 => .cons .non (dq_rep n)
theorem rep_flat {α : Type} (x : α) : ∀ n : Nat, (List.replicate n [x]).flatten = List.replicate n x
  | 0 => rfl
  | n + 1 => by rw [List.replicate_succ, List.flatten_cons, rep_flat x n]; rfl
section
variable {P : Program} {w : World} {K : PySem.W.Frag} {mg : Str → Option Value} {base : Heap} {C CP : Addr}
structure MkL (P : Program) (w : World) (K : PySem.W.Frag) (mg : Str → Option Value) (base : Heap) (C : Addr) : Prop where
  has : ∃ (f : Addr) (fd : FuncData), FnOk P w K mg base CX0 4 f fd ["self", "bounds"] (spInit C) ∧ Mk K C f ∧ Binds K fd ["self", "bounds"] []
/-! ### law -/
def spLaw (K : PySem.W.Frag) : Sp := fun vs H Q _ => ∃ (a : Addr) (ns : List Int), vs = [.ref a] ∧ Sys H ∧ SqL K H a (ns.map V.int) ∧ ns.length ≤ 63 ∧ ∀ H', Q (.bl true) H'
abbrev s_law : Stmt := (topS 55)
theorem sc_law : FnScope ["_law_script", "_law_bag_here", "_law_turn", "_law_bounds_here", "_law_rows", "_law_lanes", "_law_thing", "_law_again", "_law_due_here", "_law_shown"] ["_law_script"] (defScope s_law) := ⟨rfl, rfl, rfl, by decide +kernel, rfl, by decide +kernel, by decide +kernel⟩
theorem ok_law {f : Addr} {fd : FuncData} (F : Fun K "law" "law" s_law f fd) (T : BT mg) (LL : LT K mg C) (LP : PT K mg CP) (IC : IsL K C) (IP : IsL K CP)
    (CB : Ca P w K mg base 1 "_law_bag" ["_law_script"] (spBag K)) (CT : Ca P w K mg base 1 "_law_take" ["_law_bag_here", "_law_many"] spTake)
    (CLo : Ca P w K mg base 4 "_law_lone" ["_law_bag_here", "_law_greatest", "_law_places"] spLo) (CRo : Ca P w K mg base 4 "_law_row" ["_law_bag_here", "_law_bounds_here", "_law_rows", "_law_many"] spRw)
    (CBe : Ca P w K mg base 3 "_law_bent" ["_law_bag_here", "_law_bounds_here", "_law_thing"] spBe) (CDu : Ca P w K mg base 2 "_law_due" ["_law_bounds_here", "_law_thing"] spDue)
    (CIr : Ca P w K mg base 5 "is_row" ["lanes", "thing"] (spIr K C)) (CA : Cg P w K mg base 1 "_law_alike" ["_law_found", "_law_due_here"] spAlike)
    (ML : MkL P w K mg base C) (MP : MkPH P w K mg base CP) :
    FnG P w K mg base 9 f fd ["_law_script"] (spLaw K) := by
  obtain ⟨fL, fdL, FL, mkL, bL⟩ := ML.has
  obtain ⟨fP, fdP, FP, mkP, bP⟩ := MP.has
  refine okG F sc_law (fun vs H Q E h => ?_) (fun cdv A outer s H vs Q E hG hr h => ?_)
  · obtain ⟨a, ns, rfl, _⟩ := h
    rfl
  · obtain ⟨a, zs, rfl, hS, hs, hl, q⟩ := h
    refine ⟨_, (pss_cons (ps_set (i := 1) sc_law.nd rfl (.inl rfl) (pe_ca CB (hr.mono (by decide)) (by rfl) (pa_cons (pv 0) pa_nil)))
    (pss_cons (ps_for PassesOwn.never rfl (pi_range1 (by rfl) T.n_range (pa_cons pe_int pa_nil)) (pg_name (i := 2) sc_law.nd rfl (.inl rfl))
      (pss_cons (ps_asg (pe_ca CLo (hr.mono (by decide)) (by rfl) (pa_cons (pv 1) (pa_cons pe_int (pa_cons pe_int pa_nil)))) (pg_tup (by rfl) (pgs_cons (pg_name (i := 3) sc_law.nd rfl (.inl rfl)) (pgs_cons (pg_name (i := 4) sc_law.nd rfl (.inl rfl)) pgs_nil))))
      (pss_cons (ps_asg (pe_tup (pa_cons (pe_make mkL FL (hr.mono (by decide)) (by rfl) LL.gC bL .nil pass0 (pa_cons (pv 3) pa_nil)) (pa_cons (pe_ca CRo (hr.mono (by decide)) (by rfl) (pa_cons (pv 1) (pa_cons (pv 3) (pa_cons (pv 4) (pa_cons pe_int pa_nil))))) pa_nil))) (pg_tup (by rfl) (pgs_cons (pg_name (i := 5) sc_law.nd rfl (.inr rfl)) (pgs_cons (pg_name (i := 6) sc_law.nd rfl (.inl rfl)) pgs_nil))))
      (pss_cons (ps_for PassesOwn.never rfl (pi_range1 (by rfl) T.n_range (pa_cons (pe_ca CT (hr.mono (by decide)) (by rfl) (pa_cons (pv 1) (pa_cons pe_int pa_nil))) pa_nil)) (pg_name (i := 7) sc_law.nd rfl (.inl rfl))
        (pss_one (ps_if (pt_val (pe_callB call_isi (by rfl) T.n_isinstance (by decide +kernel) (pa_cons (pv 6) (pa_cons (pe_bltn (v := .ty "list") (by rfl) T.n_list (by decide +kernel) rfl) pa_nil))))
          (pss_one (ps_set (i := 6) sc_law.nd rfl (.inl rfl) (pe_ca CBe (hr.mono (by decide)) (by rfl) (pa_cons (pv 1) (pa_cons (pv 3) (pa_cons (pv 6) pa_nil))))))
          pss_nil)))
      (pss_cons (ps_par (i := 8) (j := 9) rfl sc_law.nd rfl rfl (by decide) rfl rfl (pa_cons (pe_ca CDu (hr.mono (by decide)) (by rfl) (pa_cons (pv 3) (pa_cons (pv 6) pa_nil))) (pa_cons (pe_callB (call_reprD hG hr) (by rfl) T.n_repr (by decide +kernel) (pa_cons (pv 6) pa_nil)) pa_nil)) (by rfl))
      (pss_one (ps_for PassesOwn.never rfl (pi_range1 (by rfl) T.n_range (pa_cons pe_int pa_nil)) (pg_name (i := 7) sc_law.nd rfl (.inl rfl))
        (pss_one (ps_if (PW.pt (pw_or (pt_not (pt_val (pe_cg CA hG (hr.mono (by decide)) (by rfl) (pa_cons (pe_ca CIr (hr.mono (by decide)) (by rfl) (pa_cons (pv 5) (pa_cons (pv 6) pa_nil))) (pa_cons (pv 8) pa_nil))))) (pw_or1 (pt_cmpR op_ne (pe_callB (call_reprD hG hr) (by rfl) T.n_repr (by decide +kernel) (pa_cons (pv 6) pa_nil)) (pv 9) (nomark _)))))
          (pss_one (ps_ret pe_bl))
          pss_nil)))))))))
    (pss_one (ps_ret (pe_cmpR (op_eqE hr) (pe_lc (own := [("_law_thing", 6)]) (g := gName 6) (tt := _) rfl sc_law.nd (pi_tup (pe_tup (pa_cons (pe_op op_rep (pe_lst (pa_cons pe_non pa_nil)) pe_int) (pa_cons (pv 5) (pa_cons (pe_make mkP FP (hr.mono (by decide)) (by rfl) LP.gC bP .nil pass0 (pa_cons (pe_lst (pa_cons (pe_tup (pa_cons pe_str (pa_cons (pe_lst pa_nil) pa_nil))) pa_nil)) pa_nil)) pa_nil))))) (blkOk_by (N := ["_law_script", "_law_bag_here", "_law_turn", "_law_bounds_here", "_law_rows", "_law_lanes", "_law_thing", "_law_again", "_law_due_here", "_law_shown"]) (sc := defScope s_law) (by decide +kernel)) (fun _ _ _ _ _ => (pg_name (i := 6) sc_law.nd rfl (.inl rfl))) (fun _ _ _ _ _ => (pts_one (pt_val (pe_ca CIr (hr.mono (by decide)) (by rfl) (pa_cons (pv 5) (pa_cons (pv 6) pa_nil)))))) (fun _ _ _ _ _ => (pv 6))) (pe_lst pa_nil) (nomark _)))))), ?_⟩
    refine ⟨_, rfl, a, zs, rfl, hs, by omega, fun p H1 e1 hb => ?_⟩
    have S1 := sysUp hS e1
    refine ⟨_, rfl, by decide, by decide, for_range (n := 12) (fun i σ H' => ∃ s2 s3 s4 s5 s6 s7 s8 s9, σ = [some (.ref a), some (.ref p), s2, s3, s4, s5, s6, s7, s8, s9] ∧ Ext H1 H' ∧ (0 < i → ∃ lx ns bs, s5 = some (.ref lx) ∧ LanesAt C H' lx ns bs))
      ⟨none, none, none, none, none, none, none, none, rfl, Ext.refl _, fun z => absurd z (by decide)⟩ ?_ ?_⟩
    · rintro i σ H2 hi ⟨s2, s3, s4, s5, s6, s7, s8, s9, rfl, e2, _⟩
      have hb2 := hb.up e2
      refine ⟨_, rfl, p, 2, 5, rfl, sysUp S1 e2, hb2, by decide, by decide, by decide, by decide, fun t db rl H3 ps ns rows e3 ht hdb hrl Lx gr _ => ?_⟩
      have e13 := e2.trans e3
      refine ⟨t, _, rfl, SqT.of ht, rfl, _, _, rfl, _, _, rfl, rfl, ?_⟩
      have pne : ps ≠ [] := fun z => by have := Lx.p1; rw [z] at this; exact absurd this (by decide)
      have pnd : (ps.map (·.1)).Nodup := Lx.perm.nodup_iff.mp Lx.nd
      have pok : ∀ z ∈ ps, isNameS z.1 = true ∧ 1 ≤ z.2 := fun z hz => by
        have hx : z.1 ∈ ns := Lx.perm.mem_iff.mpr (List.mem_map_of_mem hz)
        refine ⟨Lx.nm _ hx, ?_⟩
        obtain ⟨z2, h1, h2, h3⟩ := bd_mem (Lx.perm.mem_iff.mp hx)
        have e : z2 = z := by
          obtain ⟨j1, hj1, ej1⟩ := List.getElem_of_mem h1
          obtain ⟨j2, hj2, ej2⟩ := List.getElem_of_mem hz
          have : j1 = j2 := by
            apply Classical.byContradiction
            intro ne
            have pw := List.pairwise_iff_getElem.mp pnd
            rcases Nat.lt_or_gt_of_ne ne with g | g
            · exact pw j1 j2 (by rw [List.length_map]; exact hj1) (by rw [List.length_map]; exact hj2) g (by rw [List.getElem_map, List.getElem_map, ej1, ej2, h2])
            · exact pw j2 j1 (by rw [List.length_map]; exact hj2) (by rw [List.length_map]; exact hj1) g (by rw [List.getElem_map, List.getElem_map, ej1, ej2, h2])
          subst this
          rw [← ej1, ← ej2]
        subst e
        rw [h3]
        exact (Lx.bd _ hx).1
      refine ⟨_, rfl, fun lx dx nlx ndx nex => ?_⟩
      have eo := Ext.new (o := .own lx) ndx
      refine ⟨H3, lx, dx, db, ps, rfl, nlx, Ext.mut eo nlx, upd_same, hdb, pne, Nat.le_trans Lx.p3 (by decide), pok, pnd, fun H4 ns' e4 hperm' hso' hL => ⟨rfl, ?_⟩⟩
      obtain rfl : ns' = ns := sorted_one hso' Lx.so (hperm'.trans Lx.perm.symm)
      have e14 := e13.trans e4
      refine ⟨_, rfl, _, rfl, _, rfl, p, db, rl, 8, ps, ns', rows, rfl, sysUp S1 e14, hb.up e14, e4 _ _ hdb, hrl.up e4, Lx, gr, by decide, fun l0 xs0 H5 row0 nl0 e5 hl0 hx0 ok0 l8 => ?_⟩
      refine ⟨by show 2 ≤ sizeLine; decide, fun t2 ht2 => ?_⟩
      have e6 := Ext.new (o := .tup [.ref lx, .ref l0]) ht2
      refine ⟨t2, _, rfl, SqT.of upd_same, rfl, _, _, rfl, _, _, rfl, rfl, ?_⟩
      have e56 := e5.trans e6
      have e16 := e14.trans e56
      have hL6 := hL.up e56
      have hdb6 := e56 _ _ (e4 _ _ hdb)
      have hv6 : Dq (upd H5 t2 (.tup [.ref lx, .ref l0])) (.ref l0) (.list (row0.map itD)) := .lst (e6 _ _ hl0) (DqAll.up e6 (DqAll.up del_ext hx0))
      have gv0 : Gv (nn 0) (kk 0) (mm 0) (.list (row0.map itD)) := (gv_row ok0 l8).lst.up (by decide) (by decide) (by decide)
      generalize upd H5 t2 (.tup [.ref lx, .ref l0]) = H6 at e6 e56 e16 hL6 hdb6 hv6 ⊢
      have S6 := sysUp S1 e16
      refine ⟨_, rfl, p, 3, rfl, hb.up e16, by decide, by decide, fun k k0 k1 => ?_⟩
      obtain ⟨k, rfl⟩ := Int.eq_ofNat_of_zero_le k0
      refine ⟨_, rfl, by omega, by omega, ?_⟩
      rw [Int.toNat_natCast]
      have k2 : k ≤ 2 := by omega
      refine for_range (n := k) (fun j σ H' => ∃ v d s7, σ = [some (.ref a), some (.ref p), some (.int (0 + (i : Int))), some (.ref db), some (.ref rl), some (.ref lx), some v, s7, s8, s9] ∧ Ext H6 H' ∧ Dq H' v d ∧ Gv (nn j) (kk j) (mm j) d)
        ⟨_, _, _, rfl, Ext.refl _, hv6, gv0⟩ ?_ ?_
      · rintro j σ H7 hj ⟨v, d, s7, rfl, e7, hv, gv⟩
        obtain ⟨a1, a2, a3, a4, a5, a6⟩ := lev j (by omega)
        obtain ⟨u1, u2, u3⟩ := lev_up j
        refine ⟨_, rfl, _, _, _, _, _, rfl, .ty "list", ty_of hv, ki_list d, _, rfl, ?_⟩
        cases hT : kL d with
        | false =>
          refine iteF ?_
          exact ⟨v, d, _, rfl, e7, hv, gv.up u1 u2 u3⟩
        | true =>
          refine iteT ?_
          obtain ⟨ds, rfl⟩ : ∃ ds, d = .list ds := by
            cases d with
            | list ds => exact ⟨ds, rfl⟩
            | _ => cases hT
          obtain ⟨l, xs, rfl, hl', hx'⟩ := lst_inv hv
          have gl := gv.lst_inv.up (Nat.le_refl _) (Nat.sub_le _ _) (Nat.sub_le _ _)
          refine ⟨_, rfl, _, rfl, _, rfl, p, db, l, ps, ns', xs, ds, nn j, kk j, mm j, rfl, hb.up (e16.trans e7), e7 _ _ hdb6, Lx, hl', hx', a1, by omega, a3, a5, gl, fun v' d' H8 e8 hd' gd' => ?_⟩
          exact ⟨v', d', _, rfl, e7.trans e8, hd', gd'⟩
      · rintro σ H7 ⟨v, d, s7, rfl, e7, hv, gv⟩
        obtain ⟨a1, a2, a3, a4, a5, a6⟩ := lev k k2
        have sm := gv_sm gv (by omega)
        have ft := gv.fits (by omega) (Nat.le_trans a6 (by decide))
        have S7 := sysUp S6 e7
        refine ⟨_, rfl, _, rfl, db, v, ps, ns', d, rfl, S7, e7 _ _ hdb6, Lx.perm, Lx.nm, hv, fun ds e => (sm ds e).2, fun H8 e8 => ?_⟩
        have hv8 := hv.up e8
        have S8 := sysUp S7 e8
        refine ⟨_, rfl, v, d, rfl, S8, hv8, ft.sh, ft.dep, ft.len, _, _, rfl, ?_⟩
        have e18 := e16.trans (e7.trans e8)
        have hL8 := hL6.up (e7.trans e8)
        refine ⟨_, rfl, by decide, by decide, for_range (n := 2) (fun j σ H' => ∃ s7, σ = [some (.ref a), some (.ref p), some (.int (0 + (i : Int))), some (.ref db), some (.ref rl), some (.ref lx), some v, s7, some (.bl (rowB ns' d)), some (.str d.shown)] ∧ Ext H8 H')
          ⟨_, rfl, Ext.refl _⟩ ?_ ?_⟩
        · rintro j σ H9 hj ⟨s7, rfl, e9⟩
          refine ⟨_, rfl, _, rfl, lx, v, ns', _, rfl, sysUp S8 e9, hL8.up e9, .inl ⟨d, hv8.up e9, fun ds e => ⟨Nat.le_trans (sm ds e).1 (by omega), (sm ds e).2⟩, fun H10 e10 => ?_⟩⟩
          have e910 := e9.trans e10
          refine ⟨_, rfl, .bl (rowB ns' d), .bl (rowB ns' d), .bool (rowB ns' d), rfl, sysUp S8 e910, .bl _, .bl _, by cases rowB ns' d <;> decide, (gv_bl (n := 0) _).fits (by decide) (by decide), fun H11 e11 => ⟨_, rfl, ?_⟩⟩
          refine iteF ?_
          have e911 := e910.trans e11
          refine ⟨_, rfl, v, d, rfl, sysUp S8 e911, hv8.up e911, ft.sh, ft.dep, ft.len, _, rfl, rfl, _, rfl, ?_⟩
          refine ite2 (fun g => ?_) (fun _ => ?_)
          · simp at g
          · exact ⟨_, rfl, e911⟩
        · rintro σ H9 ⟨s7, rfl, e9⟩
          exact ⟨_, _, _, _, _, _, _, _, rfl, e18.trans e9, fun _ => ⟨lx, ns', _, rfl, hL8.up e9⟩⟩
    · rintro σ H2 ⟨s2, s3, s4, s5, s6, s7, s8, s9, rfl, e2, hLL⟩
      obtain ⟨lx, ns, bs, rfl, hL⟩ := hLL (by decide)
      have S2 := sysUp S1 e2
      refine ⟨by show 1 ≤ sizeLine; decide, fun c hc => ?_⟩
      have f1 := Ext.new (o := .lst [V.non]) hc
      refine ⟨c, 19000, [.non], rfl, rfl, upd_same, by decide, by decide, by decide, fun c2 hc2 => ?_⟩
      rw [show (19000 : Int).toNat = 19000 from rfl, rep_flat]
      have f2 := Ext.new (o := .lst (List.replicate 19000 V.non)) hc2
      have h2 := upd_same (H := upd H2 c (.lst [V.non])) (a := c2) (o := HO.lst (List.replicate 19000 V.non))
      have e3 := f1.trans f2
      generalize upd (upd H2 c (.lst [V.non])) c2 (.lst (List.replicate 19000 V.non)) = H3 at h2 e3 ⊢
      clear f2 hc2
      obtain ⟨N, hN, hN2, hN3⟩ : ∃ N, N = 19000 ∧ 0 < N ∧ N ≤ 20000 := ⟨19000, rfl, by decide, by decide⟩
      rw [← hN] at h2
      clear hN
      have S3 := sysUp S2 e3
      have hL3 := hL.up e3
      refine ⟨_, rfl, by show 0 ≤ sizeLine; decide, fun b1 hb1 => ⟨by show 2 ≤ sizeLine; decide, fun b2 hb2 => ⟨by show 1 ≤ sizeLine; decide, fun b3 hb3 => fun pr dxp npr ndx nex => ?_⟩⟩⟩
      have g1 := Ext.new (o := .lst []) hb1
      have g2 := Ext.new (o := .tup [.str "any", .ref b1]) hb2
      have g3 := Ext.new (o := .lst [.ref b2]) hb3
      have g13 := g1.trans (g2.trans g3)
      have hp3 : DqAll (upd (upd (upd H3 b1 (.lst [])) b2 (.tup [.str "any", .ref b1])) b3 (.lst [.ref b2])) [.ref b2] ([((("any" : Str), ([] : List Arm)), false, true)].map hD) := by
        refine .cons ?_ .nil
        exact .tup (g3 _ _ upd_same) (.cons (.str _) (.cons (.lst (g3 _ _ (g2 _ _ upd_same)) .nil) .nil))
      have hb3' := upd_same (H := upd (upd H3 b1 (.lst [])) b2 (.tup [.str "any", .ref b1])) (a := b3) (o := HO.lst [.ref b2])
      generalize upd (upd (upd H3 b1 (.lst [])) b2 (.tup [.str "any", .ref b1])) b3 (.lst [.ref b2]) = H4 at *
      have eo := Ext.new (o := .own pr) ndx
      refine ⟨H4, pr, dxp, b3, _, [(("any", []), false, true)], [("any", [])], rfl, npr, Ext.mut eo npr, upd_same, hb3', hp3, rfl, ⟨by simp, by decide, fun p hp => ?_, [], by decide, fun x hx => by cases hx⟩, fun H5 e5 hP => ⟨rfl, ?_⟩⟩
      · rw [List.mem_singleton.mp hp]
        exact ⟨.inr rfl, fun _ z => (nomatch z), by decide, by decide⟩
      obtain ⟨dxq, pl_, pu_, _, _, hpr, _⟩ := id hP
      have g35 := g13.trans e5
      refine ⟨by show 3 ≤ sizeLine; decide, fun t3 ht3 => ?_⟩
      have g6 := Ext.new (o := .tup [.ref c2, .ref lx, .ref pr]) ht3
      have h6 := upd_same (H := H5) (a := t3) (o := HO.tup [.ref c2, .ref lx, .ref pr])
      have g36 := g35.trans g6
      have hpr6 := g6 _ _ hpr
      have h26 := g36 _ _ h2
      have hL6 := hL3.up g36
      have S6 := sysUp S3 g36
      generalize upd H5 t3 (.tup [.ref c2, .ref lx, .ref pr]) = H6 at h6 hpr6 h26 hL6 S6 ⊢
      refine ⟨t3, rfl, ⟨_, SqT.of h6⟩, fun D hD => ?_⟩
      refine lc1_acc (walk_tup (xs := [.ref c2, .ref lx, .ref pr])) (fun _ ws _ => ws = []) (fun _ _ _ _ _ h => h) rfl hD (fun _ ws _ h => by rw [h]; decide) (fun H' e => SqT.of (e _ _ h6)) ?_ ?_
      · rintro i x Hi H' ws hi e hy ⟨rfl, hxi⟩ rfl QY QN kY kN
        refine ⟨rfl, ?_⟩
        have hL' := hL6.up e
        obtain ⟨dxl, n_, b_, sp_, hl1, _⟩ := id hL'
        match i, hi, hxi with
        | 0, _, hxi =>
          cases hxi
          have dl : Dq H' (.ref c2) (.list (List.replicate N .none)) := .lst (e _ _ h26) (dq_rep N)
          refine ⟨_, rfl, _, rfl, lx, .ref c2, ns, bs, rfl, sysUp S6 e, hL', .inl ⟨_, dl, fun ds ed => ?_, fun H7 e7 => ⟨_, rfl, ?_⟩⟩⟩
          · cases ed
            refine ⟨by rw [List.length_replicate]; exact hN3, fun z hz sh arm ez => ?_⟩
            rw [(List.mem_replicate.mp hz).2] at ez
            cases ez
          · have er : rowB ns (.list (List.replicate N .none)) = false := by
              show (List.replicate N PyData.none).all (itemB ns) = false
              exact List.all_eq_false.mpr ⟨.none, List.mem_replicate.mpr ⟨by omega, rfl⟩, by simp [itemB]⟩
            rw [er]
            refine iteF ?_
            exact kN _ e7 rfl
        | 1, _, hxi =>
          cases hxi
          refine ⟨_, rfl, _, rfl, lx, .ref lx, ns, bs, rfl, sysUp S6 e, hL', .inr ⟨_, IC.ty LL.cl hl1, IC.kL, fun H7 e7 => ⟨_, rfl, ?_⟩⟩⟩
          refine iteF ?_
          exact kN _ e7 rfl
        | 2, _, hxi =>
          cases hxi
          refine ⟨_, rfl, _, rfl, lx, .ref pr, ns, bs, rfl, sysUp S6 e, hL', .inr ⟨_, IP.ty LP.cl (e _ _ hpr6), IP.kL, fun H7 e7 => ⟨_, rfl, ?_⟩⟩⟩
          refine iteF ?_
          exact kN _ e7 rfl
        | i + 3, hi, _ => exact absurd hi (by simp)
      · rintro H7 ws e7 h7D rfl
        refine ⟨by show 0 ≤ sizeLine; decide, fun d hd => ⟨D, d, [], rfl, rfl, SqL.of (Ext.new hd _ _ h7D), SqL.of upd_same, ?_⟩⟩
        exact q _
end
end K70

set_option Elab.async false
set_option linter.all false
set_option maxRecDepth 100000
set_option maxHeartbeats 4000000
namespace K70
open PySem PySem.Spec PyProof.Rows L2 Ol
theorem good_arm {vs : List V} {H : Hp} {Q : VK} {E : XK} (h : spGood GA vs H Q E) : spPred OkT isArmD vs H Q E := by
  obtain ⟨v, d, e, hd, ⟨a, ga, rfl⟩, q⟩ := h
  obtain ⟨h1, h2⟩ := isArm_of ga
  exact ⟨v, _, e, hd, h2, fun H2 e2 => by rw [h1]; exact q H2 e2⟩
theorem all_mk {l : PySem.W.OpenLaw} {w : World} {K : PySem.W.Frag} {h : Heap} {mg : Str → Option Value} {fa C CP : Addr} (X : K.In h) (G : h.Ns mainGlobals mg) (hfa : mg "law" = some (.ref fa))
    {f0 : Addr} {od0 an0 : Option Addr} {sl0 : Array (Option Value)} {oc0 kV0 dc0 pm0 cd0 ct0 : Value}
    (a0 : PySem.W.nsIn K mainGlobals "is_integer" = some (some (.ref f0)))
    (l0 : K.lookup f0 = some ⟨oc0, od0, .func (PySem.W.fnOf "is_integer" "is_integer" (defArgs s_is_integer) (defBody s_is_integer) (defScope s_is_integer) .none kV0 dc0 pm0 an0 cd0 ct0), sl0⟩)
    (c0 : PySem.W.codeIn K cd0 "is_integer" = true) (k0 : PySem.W.keepIn K (.ref f0) = true)
    {f1 : Addr} {od1 an1 : Option Addr} {sl1 : Array (Option Value)} {oc1 kV1 dc1 pm1 cd1 ct1 : Value}
    (a1 : PySem.W.nsIn K mainGlobals "is_number" = some (some (.ref f1)))
    (l1 : K.lookup f1 = some ⟨oc1, od1, .func (PySem.W.fnOf "is_number" "is_number" (defArgs s_is_number) (defBody s_is_number) (defScope s_is_number) .none kV1 dc1 pm1 an1 cd1 ct1), sl1⟩)
    (c1 : PySem.W.codeIn K cd1 "is_number" = true) (k1 : PySem.W.keepIn K (.ref f1) = true)
    {f2 : Addr} {od2 an2 : Option Addr} {sl2 : Array (Option Value)} {oc2 kV2 dc2 pm2 cd2 ct2 : Value}
    (a2 : PySem.W.nsIn K mainGlobals "is_name" = some (some (.ref f2)))
    (l2 : K.lookup f2 = some ⟨oc2, od2, .func (PySem.W.fnOf "is_name" "is_name" (defArgs s_is_name) (defBody s_is_name) (defScope s_is_name) .none kV2 dc2 pm2 an2 cd2 ct2), sl2⟩)
    (c2 : PySem.W.codeIn K cd2 "is_name" = true) (k2 : PySem.W.keepIn K (.ref f2) = true)
    {f3 : Addr} {od3 an3 : Option Addr} {sl3 : Array (Option Value)} {oc3 kV3 dc3 pm3 cd3 ct3 : Value}
    (a3 : PySem.W.nsIn K mainGlobals "is_word" = some (some (.ref f3)))
    (l3 : K.lookup f3 = some ⟨oc3, od3, .func (PySem.W.fnOf "is_word" "is_word" (defArgs s_is_word) (defBody s_is_word) (defScope s_is_word) .none kV3 dc3 pm3 an3 cd3 ct3), sl3⟩)
    (c3 : PySem.W.codeIn K cd3 "is_word" = true) (k3 : PySem.W.keepIn K (.ref f3) = true)
    {f4 : Addr} {od4 an4 : Option Addr} {sl4 : Array (Option Value)} {oc4 kV4 dc4 pm4 cd4 ct4 : Value}
    (a4 : PySem.W.nsIn K mainGlobals "is_mode" = some (some (.ref f4)))
    (l4 : K.lookup f4 = some ⟨oc4, od4, .func (PySem.W.fnOf "is_mode" "is_mode" (defArgs s_mode) (defBody s_mode) (defScope s_mode) .none kV4 dc4 pm4 an4 cd4 ct4), sl4⟩)
    (c4 : PySem.W.codeIn K cd4 "is_mode" = true) (k4 : PySem.W.keepIn K (.ref f4) = true)
    {f5 : Addr} {od5 an5 : Option Addr} {sl5 : Array (Option Value)} {oc5 kV5 dc5 pm5 cd5 ct5 : Value}
    (a5 : PySem.W.nsIn K mainGlobals "is_arm" = some (some (.ref f5)))
    (l5 : K.lookup f5 = some ⟨oc5, od5, .func (PySem.W.fnOf "is_arm" "is_arm" (defArgs s_is_arm) (defBody s_is_arm) (defScope s_is_arm) .none kV5 dc5 pm5 an5 cd5 ct5), sl5⟩)
    (c5 : PySem.W.codeIn K cd5 "is_arm" = true) (k5 : PySem.W.keepIn K (.ref f5) = true)
    {f6 : Addr} {od6 an6 : Option Addr} {sl6 : Array (Option Value)} {oc6 kV6 dc6 pm6 cd6 ct6 : Value}
    (a6 : PySem.W.nsIn K mainGlobals "is_row_of" = some (some (.ref f6)))
    (l6 : K.lookup f6 = some ⟨oc6, od6, .func (PySem.W.fnOf "is_row_of" "is_row_of" (defArgs s_row) (defBody s_row) (defScope s_row) .none kV6 dc6 pm6 an6 cd6 ct6), sl6⟩)
    (c6 : PySem.W.codeIn K cd6 "is_row_of" = true) (k6 : PySem.W.keepIn K (.ref f6) = true)
    {f7 : Addr} {od7 an7 : Option Addr} {sl7 : Array (Option Value)} {oc7 kV7 dc7 pm7 cd7 ct7 : Value}
    (a7 : PySem.W.nsIn K mainGlobals "is_place" = some (some (.ref f7)))
    (l7 : K.lookup f7 = some ⟨oc7, od7, .func (PySem.W.fnOf "is_place" "is_place" (defArgs s_place) (defBody s_place) (defScope s_place) .none kV7 dc7 pm7 an7 cd7 ct7), sl7⟩)
    (c7 : PySem.W.codeIn K cd7 "is_place" = true) (k7 : PySem.W.keepIn K (.ref f7) = true)
    {f8 : Addr} {od8 an8 : Option Addr} {sl8 : Array (Option Value)} {oc8 kV8 dc8 pm8 cd8 ct8 : Value}
    (a8 : PySem.W.nsIn K mainGlobals "is_else" = some (some (.ref f8)))
    (l8 : K.lookup f8 = some ⟨oc8, od8, .func (PySem.W.fnOf "is_else" "is_else" (defArgs s_else) (defBody s_else) (defScope s_else) .none kV8 dc8 pm8 an8 cd8 ct8), sl8⟩)
    (c8 : PySem.W.codeIn K cd8 "is_else" = true) (k8 : PySem.W.keepIn K (.ref f8) = true)
    {f9 : Addr} {od9 an9 : Option Addr} {sl9 : Array (Option Value)} {oc9 kV9 dc9 pm9 cd9 ct9 : Value}
    (a9 : PySem.W.nsIn K mainGlobals "is_bound" = some (some (.ref f9)))
    (l9 : K.lookup f9 = some ⟨oc9, od9, .func (PySem.W.fnOf "is_bound" "is_bound" (defArgs s_is_bound) (defBody s_is_bound) (defScope s_is_bound) .none kV9 dc9 pm9 an9 cd9 ct9), sl9⟩)
    (c9 : PySem.W.codeIn K cd9 "is_bound" = true) (k9 : PySem.W.keepIn K (.ref f9) = true)
    {f10 : Addr} {od10 an10 : Option Addr} {sl10 : Array (Option Value)} {oc10 kV10 dc10 pm10 cd10 ct10 : Value}
    (a10 : PySem.W.nsIn K mainGlobals "is_bounds" = some (some (.ref f10)))
    (l10 : K.lookup f10 = some ⟨oc10, od10, .func (PySem.W.fnOf "is_bounds" "is_bounds" (defArgs s_is_bounds) (defBody s_is_bounds) (defScope s_is_bounds) .none kV10 dc10 pm10 an10 cd10 ct10), sl10⟩)
    (c10 : PySem.W.codeIn K cd10 "is_bounds" = true) (k10 : PySem.W.keepIn K (.ref f10) = true)
    {f11 : Addr} {od11 an11 : Option Addr} {sl11 : Array (Option Value)} {oc11 kV11 dc11 pm11 cd11 ct11 : Value}
    (a11 : PySem.W.nsIn K mainGlobals "is_deal" = some (some (.ref f11)))
    (l11 : K.lookup f11 = some ⟨oc11, od11, .func (PySem.W.fnOf "is_deal" "is_deal" (defArgs s_is_deal) (defBody s_is_deal) (defScope s_is_deal) .none kV11 dc11 pm11 an11 cd11 ct11), sl11⟩)
    (c11 : PySem.W.codeIn K cd11 "is_deal" = true) (k11 : PySem.W.keepIn K (.ref f11) = true)
    {f12 : Addr} {od12 an12 : Option Addr} {sl12 : Array (Option Value)} {oc12 kV12 dc12 pm12 cd12 ct12 : Value}
    (a12 : PySem.W.nsIn K mainGlobals "is_ascending" = some (some (.ref f12)))
    (l12 : K.lookup f12 = some ⟨oc12, od12, .func (PySem.W.fnOf "is_ascending" "is_ascending" (defArgs s_is_ascending) (defBody s_is_ascending) (defScope s_is_ascending) .none kV12 dc12 pm12 an12 cd12 ct12), sl12⟩)
    (c12 : PySem.W.codeIn K cd12 "is_ascending" = true) (k12 : PySem.W.keepIn K (.ref f12) = true)
    {f13 : Addr} {od13 an13 : Option Addr} {sl13 : Array (Option Value)} {oc13 kV13 dc13 pm13 cd13 ct13 : Value}
    (a13 : PySem.W.nsIn K mainGlobals "is_item" = some (some (.ref f13)))
    (l13 : K.lookup f13 = some ⟨oc13, od13, .func (PySem.W.fnOf "is_item" "is_item" (defArgs s_is_item) (defBody s_is_item) (defScope s_is_item) .none kV13 dc13 pm13 an13 cd13 ct13), sl13⟩)
    (c13 : PySem.W.codeIn K cd13 "is_item" = true) (k13 : PySem.W.keepIn K (.ref f13) = true)
    {f14 : Addr} {od14 an14 : Option Addr} {sl14 : Array (Option Value)} {oc14 kV14 dc14 pm14 cd14 ct14 : Value}
    (a14 : PySem.W.nsIn K mainGlobals "is_row" = some (some (.ref f14)))
    (l14 : K.lookup f14 = some ⟨oc14, od14, .func (PySem.W.fnOf "is_row" "is_row" (defArgs s_is_row) (defBody s_is_row) (defScope s_is_row) .none kV14 dc14 pm14 an14 cd14 ct14), sl14⟩)
    (c14 : PySem.W.codeIn K cd14 "is_row" = true) (k14 : PySem.W.keepIn K (.ref f14) = true)
    {f15 : Addr} {od15 an15 : Option Addr} {sl15 : Array (Option Value)} {oc15 kV15 dc15 pm15 cd15 ct15 : Value}
    (a15 : PySem.W.nsIn K mainGlobals "_law_bag" = some (some (.ref f15)))
    (l15 : K.lookup f15 = some ⟨oc15, od15, .func (PySem.W.fnOf "_law_bag" "_law_bag" (defArgs s__law_bag) (defBody s__law_bag) (defScope s__law_bag) .none kV15 dc15 pm15 an15 cd15 ct15), sl15⟩)
    (c15 : PySem.W.codeIn K cd15 "_law_bag" = true) (k15 : PySem.W.keepIn K (.ref f15) = true)
    {f16 : Addr} {od16 an16 : Option Addr} {sl16 : Array (Option Value)} {oc16 kV16 dc16 pm16 cd16 ct16 : Value}
    (a16 : PySem.W.nsIn K mainGlobals "_law_take" = some (some (.ref f16)))
    (l16 : K.lookup f16 = some ⟨oc16, od16, .func (PySem.W.fnOf "_law_take" "_law_take" (defArgs s__law_take) (defBody s__law_take) (defScope s__law_take) .none kV16 dc16 pm16 an16 cd16 ct16), sl16⟩)
    (c16 : PySem.W.codeIn K cd16 "_law_take" = true) (k16 : PySem.W.keepIn K (.ref f16) = true)
    {f17 : Addr} {od17 an17 : Option Addr} {sl17 : Array (Option Value)} {oc17 kV17 dc17 pm17 cd17 ct17 : Value}
    (a17 : PySem.W.nsIn K mainGlobals "_law_alike" = some (some (.ref f17)))
    (l17 : K.lookup f17 = some ⟨oc17, od17, .func (PySem.W.fnOf "_law_alike" "_law_alike" (defArgs s__law_alike) (defBody s__law_alike) (defScope s__law_alike) .none kV17 dc17 pm17 an17 cd17 ct17), sl17⟩)
    (c17 : PySem.W.codeIn K cd17 "_law_alike" = true) (k17 : PySem.W.keepIn K (.ref f17) = true)
    {f18 : Addr} {od18 an18 : Option Addr} {sl18 : Array (Option Value)} {oc18 kV18 dc18 pm18 cd18 ct18 : Value}
    (a18 : PySem.W.nsIn K mainGlobals "_law_names" = some (some (.ref f18)))
    (l18 : K.lookup f18 = some ⟨oc18, od18, .func (PySem.W.fnOf "_law_names" "_law_names" (defArgs s__law_names) (defBody s__law_names) (defScope s__law_names) .none kV18 dc18 pm18 an18 cd18 ct18), sl18⟩)
    (c18 : PySem.W.codeIn K cd18 "_law_names" = true) (k18 : PySem.W.keepIn K (.ref f18) = true)
    {f19 : Addr} {od19 an19 : Option Addr} {sl19 : Array (Option Value)} {oc19 kV19 dc19 pm19 cd19 ct19 : Value}
    (a19 : PySem.W.nsIn K mainGlobals "_law_bounds" = some (some (.ref f19)))
    (l19 : K.lookup f19 = some ⟨oc19, od19, .func (PySem.W.fnOf "_law_bounds" "_law_bounds" (defArgs s_bounds) (defBody s_bounds) (defScope s_bounds) .none kV19 dc19 pm19 an19 cd19 ct19), sl19⟩)
    (c19 : PySem.W.codeIn K cd19 "_law_bounds" = true) (k19 : PySem.W.keepIn K (.ref f19) = true)
    {f20 : Addr} {od20 an20 : Option Addr} {sl20 : Array (Option Value)} {oc20 kV20 dc20 pm20 cd20 ct20 : Value}
    (a20 : PySem.W.nsIn K mainGlobals "_law_arm" = some (some (.ref f20)))
    (l20 : K.lookup f20 = some ⟨oc20, od20, .func (PySem.W.fnOf "_law_arm" "_law_arm" (defArgs s__law_arm) (defBody s__law_arm) (defScope s__law_arm) .none kV20 dc20 pm20 an20 cd20 ct20), sl20⟩)
    (c20 : PySem.W.codeIn K cd20 "_law_arm" = true) (k20 : PySem.W.keepIn K (.ref f20) = true)
    {f21 : Addr} {od21 an21 : Option Addr} {sl21 : Array (Option Value)} {oc21 kV21 dc21 pm21 cd21 ct21 : Value}
    (a21 : PySem.W.nsIn K mainGlobals "_law_program" = some (some (.ref f21)))
    (l21 : K.lookup f21 = some ⟨oc21, od21, .func (PySem.W.fnOf "_law_program" "_law_program" (defArgs s__law_program) (defBody s__law_program) (defScope s__law_program) .none kV21 dc21 pm21 an21 cd21 ct21), sl21⟩)
    (c21 : PySem.W.codeIn K cd21 "_law_program" = true) (k21 : PySem.W.keepIn K (.ref f21) = true)
    {f22 : Addr} {od22 an22 : Option Addr} {sl22 : Array (Option Value)} {oc22 kV22 dc22 pm22 cd22 ct22 : Value}
    (a22 : PySem.W.nsIn K mainGlobals "_law_opens" = some (some (.ref f22)))
    (l22 : K.lookup f22 = some ⟨oc22, od22, .func (PySem.W.fnOf "_law_opens" "_law_opens" (defArgs s_opens) (defBody s_opens) (defScope s_opens) .none kV22 dc22 pm22 an22 cd22 ct22), sl22⟩)
    (c22 : PySem.W.codeIn K cd22 "_law_opens" = true) (k22 : PySem.W.keepIn K (.ref f22) = true)
    {f23 : Addr} {od23 an23 : Option Addr} {sl23 : Array (Option Value)} {oc23 kV23 dc23 pm23 cd23 ct23 : Value}
    (a23 : PySem.W.nsIn K mainGlobals "_law_left" = some (some (.ref f23)))
    (l23 : K.lookup f23 = some ⟨oc23, od23, .func (PySem.W.fnOf "_law_left" "_law_left" (defArgs s_left) (defBody s_left) (defScope s_left) .none kV23 dc23 pm23 an23 cd23 ct23), sl23⟩)
    (c23 : PySem.W.codeIn K cd23 "_law_left" = true) (k23 : PySem.W.keepIn K (.ref f23) = true)
    {f24 : Addr} {od24 an24 : Option Addr} {sl24 : Array (Option Value)} {oc24 kV24 dc24 pm24 cd24 ct24 : Value}
    (a24 : PySem.W.nsIn K mainGlobals "_law_choices" = some (some (.ref f24)))
    (l24 : K.lookup f24 = some ⟨oc24, od24, .func (PySem.W.fnOf "_law_choices" "_law_choices" (defArgs s__law_choices) (defBody s__law_choices) (defScope s__law_choices) .none kV24 dc24 pm24 an24 cd24 ct24), sl24⟩)
    (c24 : PySem.W.codeIn K cd24 "_law_choices" = true) (k24 : PySem.W.keepIn K (.ref f24) = true)
    {f25 : Addr} {od25 an25 : Option Addr} {sl25 : Array (Option Value)} {oc25 kV25 dc25 pm25 cd25 ct25 : Value}
    (a25 : PySem.W.nsIn K mainGlobals "_law_lone" = some (some (.ref f25)))
    (l25 : K.lookup f25 = some ⟨oc25, od25, .func (PySem.W.fnOf "_law_lone" "_law_lone" (defArgs s__law_lone) (defBody s__law_lone) (defScope s__law_lone) .none kV25 dc25 pm25 an25 cd25 ct25), sl25⟩)
    (c25 : PySem.W.codeIn K cd25 "_law_lone" = true) (k25 : PySem.W.keepIn K (.ref f25) = true)
    {f26 : Addr} {od26 an26 : Option Addr} {sl26 : Array (Option Value)} {oc26 kV26 dc26 pm26 cd26 ct26 : Value}
    (a26 : PySem.W.nsIn K mainGlobals "_law_own_steps" = some (some (.ref f26)))
    (l26 : K.lookup f26 = some ⟨oc26, od26, .func (PySem.W.fnOf "_law_own_steps" "_law_own_steps" (defArgs s__law_own_steps) (defBody s__law_own_steps) (defScope s__law_own_steps) .none kV26 dc26 pm26 an26 cd26 ct26), sl26⟩)
    (c26 : PySem.W.codeIn K cd26 "_law_own_steps" = true) (k26 : PySem.W.keepIn K (.ref f26) = true)
    {f27 : Addr} {od27 an27 : Option Addr} {sl27 : Array (Option Value)} {oc27 kV27 dc27 pm27 cd27 ct27 : Value}
    (a27 : PySem.W.nsIn K mainGlobals "_law_pairs_of" = some (some (.ref f27)))
    (l27 : K.lookup f27 = some ⟨oc27, od27, .func (PySem.W.fnOf "_law_pairs_of" "_law_pairs_of" (defArgs s__law_pairs_of) (defBody s__law_pairs_of) (defScope s__law_pairs_of) .none kV27 dc27 pm27 an27 cd27 ct27), sl27⟩)
    (c27 : PySem.W.codeIn K cd27 "_law_pairs_of" = true) (k27 : PySem.W.keepIn K (.ref f27) = true)
    {f28 : Addr} {od28 an28 : Option Addr} {sl28 : Array (Option Value)} {oc28 kV28 dc28 pm28 cd28 ct28 : Value}
    (a28 : PySem.W.nsIn K mainGlobals "_law_start" = some (some (.ref f28)))
    (l28 : K.lookup f28 = some ⟨oc28, od28, .func (PySem.W.fnOf "_law_start" "_law_start" (defArgs s__law_start) (defBody s__law_start) (defScope s__law_start) .none kV28 dc28 pm28 an28 cd28 ct28), sl28⟩)
    (c28 : PySem.W.codeIn K cd28 "_law_start" = true) (k28 : PySem.W.keepIn K (.ref f28) = true)
    {f29 : Addr} {od29 an29 : Option Addr} {sl29 : Array (Option Value)} {oc29 kV29 dc29 pm29 cd29 ct29 : Value}
    (a29 : PySem.W.nsIn K mainGlobals "_law_row" = some (some (.ref f29)))
    (l29 : K.lookup f29 = some ⟨oc29, od29, .func (PySem.W.fnOf "_law_row" "_law_row" (defArgs s__law_row) (defBody s__law_row) (defScope s__law_row) .none kV29 dc29 pm29 an29 cd29 ct29), sl29⟩)
    (c29 : PySem.W.codeIn K cd29 "_law_row" = true) (k29 : PySem.W.keepIn K (.ref f29) = true)
    {f30 : Addr} {od30 an30 : Option Addr} {sl30 : Array (Option Value)} {oc30 kV30 dc30 pm30 cd30 ct30 : Value}
    (a30 : PySem.W.nsIn K mainGlobals "_law_pair_right" = some (some (.ref f30)))
    (l30 : K.lookup f30 = some ⟨oc30, od30, .func (PySem.W.fnOf "_law_pair_right" "_law_pair_right" (defArgs s__law_pair_right) (defBody s__law_pair_right) (defScope s__law_pair_right) .none kV30 dc30 pm30 an30 cd30 ct30), sl30⟩)
    (c30 : PySem.W.codeIn K cd30 "_law_pair_right" = true) (k30 : PySem.W.keepIn K (.ref f30) = true)
    {f31 : Addr} {od31 an31 : Option Addr} {sl31 : Array (Option Value)} {oc31 kV31 dc31 pm31 cd31 ct31 : Value}
    (a31 : PySem.W.nsIn K mainGlobals "_law_due" = some (some (.ref f31)))
    (l31 : K.lookup f31 = some ⟨oc31, od31, .func (PySem.W.fnOf "_law_due" "_law_due" (defArgs s__law_due) (defBody s__law_due) (defScope s__law_due) .none kV31 dc31 pm31 an31 cd31 ct31), sl31⟩)
    (c31 : PySem.W.codeIn K cd31 "_law_due" = true) (k31 : PySem.W.keepIn K (.ref f31) = true)
    {f32 : Addr} {od32 an32 : Option Addr} {sl32 : Array (Option Value)} {oc32 kV32 dc32 pm32 cd32 ct32 : Value}
    (a32 : PySem.W.nsIn K mainGlobals "_law_bent_item" = some (some (.ref f32)))
    (l32 : K.lookup f32 = some ⟨oc32, od32, .func (PySem.W.fnOf "_law_bent_item" "_law_bent_item" (defArgs s__law_bent_item) (defBody s__law_bent_item) (defScope s__law_bent_item) .none kV32 dc32 pm32 an32 cd32 ct32), sl32⟩)
    (c32 : PySem.W.codeIn K cd32 "_law_bent_item" = true) (k32 : PySem.W.keepIn K (.ref f32) = true)
    {f33 : Addr} {od33 an33 : Option Addr} {sl33 : Array (Option Value)} {oc33 kV33 dc33 pm33 cd33 ct33 : Value}
    (a33 : PySem.W.nsIn K mainGlobals "_law_bent" = some (some (.ref f33)))
    (l33 : K.lookup f33 = some ⟨oc33, od33, .func (PySem.W.fnOf "_law_bent" "_law_bent" (defArgs s__law_bent) (defBody s__law_bent) (defScope s__law_bent) .none kV33 dc33 pm33 an33 cd33 ct33), sl33⟩)
    (c33 : PySem.W.codeIn K cd33 "_law_bent" = true) (k33 : PySem.W.keepIn K (.ref f33) = true)
    {f34 : Addr} {od34 an34 : Option Addr} {sl34 : Array (Option Value)} {oc34 kV34 dc34 pm34 cd34 ct34 : Value}
    (a34 : PySem.W.nsIn K mainGlobals "law" = some (some (.ref f34)))
    (l34 : K.lookup f34 = some ⟨oc34, od34, .func (PySem.W.fnOf "law" "law" (defArgs s_law) (defBody s_law) (defScope s_law) .none kV34 dc34 pm34 an34 cd34 ct34), sl34⟩)
    (c34 : PySem.W.codeIn K cd34 "law" = true) (k34 : PySem.W.keepIn K (.ref f34) = true)
    (aGC : PySem.W.nsIn K mainGlobals "Lanes" = some (some (.ref C)))
    (aGCP : PySem.W.nsIn K mainGlobals "Program" = some (some (.ref CP)))
    {fm0 : Addr} {odm0 anm0 : Option Addr} {slm0 : Array (Option Value)} {ocm0 kVm0 dcm0 pmm0 cdm0 ctm0 : Value}
    (am0 : PySem.W.findIn K (.ref C) "__init__" = some (some (.ref fm0)))
    (im0 : PySem.W.isFn K (.ref fm0) = true)
    (lm0 : K.lookup fm0 = some ⟨ocm0, odm0, .func (PySem.W.fnOf "__init__" "Lanes.__init__" (defArgs (cL 0)) (defBody (cL 0)) (defScope (cL 0)) .none kVm0 dcm0 pmm0 anm0 cdm0 ctm0), slm0⟩)
    (cm0 : PySem.W.codeIn K cdm0 "Lanes.__init__" = true) (km0 : PySem.W.keepIn K (.ref fm0) = true)
    {fm1 : Addr} {odm1 anm1 : Option Addr} {slm1 : Array (Option Value)} {ocm1 kVm1 dcm1 pmm1 cdm1 ctm1 : Value}
    (am1 : PySem.W.findIn K (.ref C) "__contains__" = some (some (.ref fm1)))
    (im1 : PySem.W.isFn K (.ref fm1) = true)
    (lm1 : K.lookup fm1 = some ⟨ocm1, odm1, .func (PySem.W.fnOf "__contains__" "Lanes.__contains__" (defArgs (cL 4)) (defBody (cL 4)) (defScope (cL 4)) .none kVm1 dcm1 pmm1 anm1 cdm1 ctm1), slm1⟩)
    (cm1 : PySem.W.codeIn K cdm1 "Lanes.__contains__" = true) (km1 : PySem.W.keepIn K (.ref fm1) = true)
    {fm2 : Addr} {odm2 anm2 : Option Addr} {slm2 : Array (Option Value)} {ocm2 kVm2 dcm2 pmm2 cdm2 ctm2 : Value}
    (am2 : PySem.W.findIn K (.ref CP) "__init__" = some (some (.ref fm2)))
    (im2 : PySem.W.isFn K (.ref fm2) = true)
    (lm2 : K.lookup fm2 = some ⟨ocm2, odm2, .func (PySem.W.fnOf "__init__" "Program.__init__" (defArgs (cP 0)) (defBody (cP 0)) (defScope (cP 0)) .none kVm2 dcm2 pmm2 anm2 cdm2 ctm2), slm2⟩)
    (cm2 : PySem.W.codeIn K cdm2 "Program.__init__" = true) (km2 : PySem.W.keepIn K (.ref fm2) = true)
    {fm3 : Addr} {odm3 anm3 : Option Addr} {slm3 : Array (Option Value)} {ocm3 kVm3 dcm3 pmm3 cdm3 ctm3 : Value}
    (am3 : PySem.W.findIn K (.ref CP) "_check" = some (some (.ref fm3)))
    (im3 : PySem.W.isFn K (.ref fm3) = true)
    (lm3 : K.lookup fm3 = some ⟨ocm3, odm3, .func (PySem.W.fnOf "_check" "Program._check" (defArgs (cP 1)) (defBody (cP 1)) (defScope (cP 1)) .none kVm3 dcm3 pmm3 anm3 cdm3 ctm3), slm3⟩)
    (cm3 : PySem.W.codeIn K cdm3 "Program._check" = true) (km3 : PySem.W.keepIn K (.ref fm3) = true)
    (pgC : PySem.W.plainGet K C Str.empty = true) (hdC : PySem.W.hasDictIn K C = true) (poC : PySem.W.plainOver K C = true) (saC : PySem.W.findIn K (.ref C) "__setattr__" = some (some (.builtin "object.__setattr__"))) (mkC : PySem.W.makesIn K C = true) (kcC : PySem.W.keepIn K (.ref C) = true)
    (nfC_names : PySem.W.findIn K (.ref C) "_names" = some none)
    (nfC_bounds : PySem.W.findIn K (.ref C) "_bounds" = some none)
    (nfC_spots : PySem.W.findIn K (.ref C) "_spots" = some none)
    (iCaC : PySem.W.findIn K (.ref C) "__class__" = some (some (.builtin "object.__class__"))) (iCmC : PySem.W.mroIn K C (.type "object") = some true) (iCcC : PySem.W.kitOne K (.ref C) (.ref C) = some true)
    (pgCP : PySem.W.plainGet K CP Str.empty = true) (hdCP : PySem.W.hasDictIn K CP = true) (poCP : PySem.W.plainOver K CP = true) (saCP : PySem.W.findIn K (.ref CP) "__setattr__" = some (some (.builtin "object.__setattr__"))) (mkCP : PySem.W.makesIn K CP = true) (kcCP : PySem.W.keepIn K (.ref CP) = true)
    (nfCP_places : PySem.W.findIn K (.ref CP) "_places" = some none)
    (nfCP_used : PySem.W.findIn K (.ref CP) "_used" = some none)
    (iCaCP : PySem.W.findIn K (.ref CP) "__class__" = some (some (.builtin "object.__class__"))) (iCmCP : PySem.W.mroIn K CP (.type "object") = some true) (iCcCP : PySem.W.kitOne K (.ref CP) (.ref CP) = some true)
    (ocg : PySem.W.specialIn K (.builtin "object.__class__") "__get__" = some (some (.builtin "getset_descriptor.__get__"))) (oct : PySem.W.takesIn K (.builtin "object.__class__") = some true)
    {tl0 tn0 : Tok} (gLet : PySem.W.nsIn K mainGlobals "LETTERS" = some (some (.str abc tl0))) (gLong : PySem.W.nsIn K mainGlobals "LONGEST" = some (some (.int 8 tn0)))
    {aW aM : Addr} (gW : PySem.W.nsIn K mainGlobals "WORDS" = some (some (.ref aW))) (gM : PySem.W.nsIn K mainGlobals "MODES" = some (some (.ref aM)))
    {odW : Option Addr} {t1 t2 t3 t4 : Tok} {nW : Nat} {slW : Array (Option Value)} (lW : K.lookup aW = some ⟨.type "tuple", odW, .seq #[.str "close" t1, .str "ended" t2, .str "send" t3, .str "take" t4] nW, slW⟩)
    {odM : Option Addr} {t5 t6 : Tok} {nM : Nat} {slM : Array (Option Value)} (lM : K.lookup aM = some ⟨.type "tuple", odM, .seq #[.str "any" t5, .str "first" t6] nM, slM⟩)
    (kLC : decO (PySem.W.kitOne K (.ref C) (.type "list")) (some false) = true)
    (kLP : decO (PySem.W.kitOne K (.ref CP) (.type "list")) (some false) = true)
    (z_len : PySem.W.nsIn K mainGlobals "len" = some none)
    (z_int : PySem.W.nsIn K mainGlobals "int" = some none)
    (z_abs : PySem.W.nsIn K mainGlobals "abs" = some none)
    (z_range : PySem.W.nsIn K mainGlobals "range" = some none)
    (z_repr : PySem.W.nsIn K mainGlobals "repr" = some none)
    (z_isinstance : PySem.W.nsIn K mainGlobals "isinstance" = some none)
    (z_all : PySem.W.nsIn K mainGlobals "all" = some none)
    (z_tuple : PySem.W.nsIn K mainGlobals "tuple" = some none)
    (z_list : PySem.W.nsIn K mainGlobals "list" = some none)
    (z_str : PySem.W.nsIn K mainGlobals "str" = some none)
    (z_bool : PySem.W.nsIn K mainGlobals "bool" = some none)
    (z_dict : PySem.W.nsIn K mainGlobals "dict" = some none)
    (z_sorted : PySem.W.nsIn K mainGlobals "sorted" = some none)
    (z_enumerate : PySem.W.nsIn K mainGlobals "enumerate" = some none)
    (z_zip : PySem.W.nsIn K mainGlobals "zip" = some none)
    (z_set : PySem.W.nsIn K mainGlobals "set" = some none)
    (z_max : PySem.W.nsIn K mainGlobals "max" = some none)
    : ∃ fd : FuncData, (∀ (s : Shared) (v : Value), BindsTo s fd ⟨[v], []⟩ [("_law_script", v)]) ∧ ∀ base : Heap, K.In base → base.Ns mainGlobals mg → FnG l.prog w K mg base 9 fa fd ["_law_script"] (spLaw K) := by
  have e := hfa.symm.trans (PySem.W.mg_of X G a34)
  cases e
  have F0 := fun_mk (st := s_is_integer) l0 c0 k0
  have b0 := F0.binds (ps := ["thing"]) fun _ _ _ _ _ _ us hl => match us, hl with | [_], _ => rfl
  have g0 := PySem.W.mg_of X G a0
  have F1 := fun_mk (st := s_is_number) l1 c1 k1
  have b1 := F1.binds (ps := ["thing"]) fun _ _ _ _ _ _ us hl => match us, hl with | [_], _ => rfl
  have g1 := PySem.W.mg_of X G a1
  have F2 := fun_mk (st := s_is_name) l2 c2 k2
  have b2 := F2.binds (ps := ["thing"]) fun _ _ _ _ _ _ us hl => match us, hl with | [_], _ => rfl
  have g2 := PySem.W.mg_of X G a2
  have F3 := fun_mk (st := s_is_word) l3 c3 k3
  have b3 := F3.binds (ps := ["thing"]) fun _ _ _ _ _ _ us hl => match us, hl with | [_], _ => rfl
  have g3 := PySem.W.mg_of X G a3
  have F4 := fun_mk (st := s_mode) l4 c4 k4
  have b4 := F4.binds (ps := ["thing"]) fun _ _ _ _ _ _ us hl => match us, hl with | [_], _ => rfl
  have g4 := PySem.W.mg_of X G a4
  have F5 := fun_mk (st := s_is_arm) l5 c5 k5
  have b5 := F5.binds (ps := ["thing"]) fun _ _ _ _ _ _ us hl => match us, hl with | [_], _ => rfl
  have g5 := PySem.W.mg_of X G a5
  have F6 := fun_mk (st := s_row) l6 c6 k6
  have b6 := F6.binds (ps := ["thing", "is_part"]) fun _ _ _ _ _ _ us hl => match us, hl with | [_, _], _ => rfl
  have g6 := PySem.W.mg_of X G a6
  have F7 := fun_mk (st := s_place) l7 c7 k7
  have b7 := F7.binds (ps := ["thing"]) fun _ _ _ _ _ _ us hl => match us, hl with | [_], _ => rfl
  have g7 := PySem.W.mg_of X G a7
  have F8 := fun_mk (st := s_else) l8 c8 k8
  have b8 := F8.binds (ps := ["arm"]) fun _ _ _ _ _ _ us hl => match us, hl with | [_], _ => rfl
  have g8 := PySem.W.mg_of X G a8
  have F9 := fun_mk (st := s_is_bound) l9 c9 k9
  have b9 := F9.binds (ps := ["thing"]) fun _ _ _ _ _ _ us hl => match us, hl with | [_], _ => rfl
  have g9 := PySem.W.mg_of X G a9
  have F10 := fun_mk (st := s_is_bounds) l10 c10 k10
  have b10 := F10.binds (ps := ["thing"]) fun _ _ _ _ _ _ us hl => match us, hl with | [_], _ => rfl
  have g10 := PySem.W.mg_of X G a10
  have F11 := fun_mk (st := s_is_deal) l11 c11 k11
  have b11 := F11.binds (ps := ["lanes", "thing"]) fun _ _ _ _ _ _ us hl => match us, hl with | [_, _], _ => rfl
  have g11 := PySem.W.mg_of X G a11
  have F12 := fun_mk (st := s_is_ascending) l12 c12 k12
  have b12 := F12.binds (ps := ["parts"]) fun _ _ _ _ _ _ us hl => match us, hl with | [_], _ => rfl
  have g12 := PySem.W.mg_of X G a12
  have F13 := fun_mk (st := s_is_item) l13 c13 k13
  have b13 := F13.binds (ps := ["lanes", "thing"]) fun _ _ _ _ _ _ us hl => match us, hl with | [_, _], _ => rfl
  have g13 := PySem.W.mg_of X G a13
  have F14 := fun_mk (st := s_is_row) l14 c14 k14
  have b14 := F14.binds (ps := ["lanes", "thing"]) fun _ _ _ _ _ _ us hl => match us, hl with | [_, _], _ => rfl
  have g14 := PySem.W.mg_of X G a14
  have F15 := fun_mk (st := s__law_bag) l15 c15 k15
  have b15 := F15.binds (ps := ["_law_script"]) fun _ _ _ _ _ _ us hl => match us, hl with | [_], _ => rfl
  have g15 := PySem.W.mg_of X G a15
  have F16 := fun_mk (st := s__law_take) l16 c16 k16
  have b16 := F16.binds (ps := ["_law_bag_here", "_law_many"]) fun _ _ _ _ _ _ us hl => match us, hl with | [_, _], _ => rfl
  have g16 := PySem.W.mg_of X G a16
  have F17 := fun_mk (st := s__law_alike) l17 c17 k17
  have b17 := F17.binds (ps := ["_law_found", "_law_due_here"]) fun _ _ _ _ _ _ us hl => match us, hl with | [_, _], _ => rfl
  have g17 := PySem.W.mg_of X G a17
  have F18 := fun_mk (st := s__law_names) l18 c18 k18
  have b18 := F18.binds (ps := ["_law_bag_here", "_law_many"]) fun _ _ _ _ _ _ us hl => match us, hl with | [_, _], _ => rfl
  have g18 := PySem.W.mg_of X G a18
  have F19 := fun_mk (st := s_bounds) l19 c19 k19
  have b19 := F19.binds (ps := ["_law_bag_here", "_law_names_here", "_law_greatest"]) fun _ _ _ _ _ _ us hl => match us, hl with | [_, _, _], _ => rfl
  have g19 := PySem.W.mg_of X G a19
  have F20 := fun_mk (st := s__law_arm) l20 c20 k20
  have b20 := F20.binds (ps := ["_law_bag_here", "_law_names_here", "_law_places"]) fun _ _ _ _ _ _ us hl => match us, hl with | [_, _, _], _ => rfl
  have g20 := PySem.W.mg_of X G a20
  have F21 := fun_mk (st := s__law_program) l21 c21 k21
  have b21 := F21.binds (ps := ["_law_bag_here", "_law_names_here", "_law_places"]) fun _ _ _ _ _ _ us hl => match us, hl with | [_, _, _], _ => rfl
  have g21 := PySem.W.mg_of X G a21
  have F22 := fun_mk (st := s_opens) l22 c22 k22
  have b22 := F22.binds (ps := ["_law_bounds_here", "_law_content", "_law_arm_here"]) fun _ _ _ _ _ _ us hl => match us, hl with | [_, _, _], _ => rfl
  have g22 := PySem.W.mg_of X G a22
  have F23 := fun_mk (st := s_left) l23 c23 k23
  have b23 := F23.binds (ps := ["_law_bounds_here", "_law_content", "_law_arm_here"]) fun _ _ _ _ _ _ us hl => match us, hl with | [_, _, _], _ => rfl
  have g23 := PySem.W.mg_of X G a23
  have F24 := fun_mk (st := s__law_choices) l24 c24 k24
  have b24 := F24.binds (ps := ["_law_bounds_here", "_law_row_here", "_law_content"]) fun _ _ _ _ _ _ us hl => match us, hl with | [_, _, _], _ => rfl
  have g24 := PySem.W.mg_of X G a24
  have F25 := fun_mk (st := s__law_lone) l25 c25 k25
  have b25 := F25.binds (ps := ["_law_bag_here", "_law_greatest", "_law_places"]) fun _ _ _ _ _ _ us hl => match us, hl with | [_, _, _], _ => rfl
  have g25 := PySem.W.mg_of X G a25
  have F26 := fun_mk (st := s__law_own_steps) l26 c26 k26
  have b26 := F26.binds (ps := ["_law_bounds_here", "_law_rows", "_law_one"]) fun _ _ _ _ _ _ us hl => match us, hl with | [_, _, _], _ => rfl
  have g26 := PySem.W.mg_of X G a26
  have F27 := fun_mk (st := s__law_pairs_of) l27 c27 k27
  have b27 := F27.binds (ps := ["_law_bounds_here", "_law_content", "_law_opened"]) fun _ _ _ _ _ _ us hl => match us, hl with | [_, _, _], _ => rfl
  have g27 := PySem.W.mg_of X G a27
  have F28 := fun_mk (st := s__law_start) l28 c28 k28
  have b28 := F28.binds (ps := ["_law_bounds_here"]) fun _ _ _ _ _ _ us hl => match us, hl with | [_], _ => rfl
  have g28 := PySem.W.mg_of X G a28
  have F29 := fun_mk (st := s__law_row) l29 c29 k29
  have b29 := F29.binds (ps := ["_law_bag_here", "_law_bounds_here", "_law_rows", "_law_many"]) fun _ _ _ _ _ _ us hl => match us, hl with | [_, _, _, _], _ => rfl
  have g29 := PySem.W.mg_of X G a29
  have F30 := fun_mk (st := s__law_pair_right) l30 c30 k30
  have b30 := F30.binds (ps := ["_law_bounds_here", "_law_thing"]) fun _ _ _ _ _ _ us hl => match us, hl with | [_, _], _ => rfl
  have g30 := PySem.W.mg_of X G a30
  have F31 := fun_mk (st := s__law_due) l31 c31 k31
  have b31 := F31.binds (ps := ["_law_bounds_here", "_law_thing"]) fun _ _ _ _ _ _ us hl => match us, hl with | [_, _], _ => rfl
  have g31 := PySem.W.mg_of X G a31
  have F32 := fun_mk (st := s__law_bent_item) l32 c32 k32
  have b32 := F32.binds (ps := ["_law_bag_here", "_law_bounds_here", "_law_item"]) fun _ _ _ _ _ _ us hl => match us, hl with | [_, _, _], _ => rfl
  have g32 := PySem.W.mg_of X G a32
  have F33 := fun_mk (st := s__law_bent) l33 c33 k33
  have b33 := F33.binds (ps := ["_law_bag_here", "_law_bounds_here", "_law_thing"]) fun _ _ _ _ _ _ us hl => match us, hl with | [_, _, _], _ => rfl
  have g33 := PySem.W.mg_of X G a33
  have F34 := fun_mk (st := s_law) l34 c34 k34
  have Fm0 := fun_mk (st := (cL 0)) lm0 cm0 km0
  have bm0 := Fm0.binds (ps := ["self", "bounds"]) fun _ _ _ _ _ _ us hl => match us, hl with | [_, _], _ => rfl
  have Fm1 := fun_mk (st := (cL 4)) lm1 cm1 km1
  have bm1 := Fm1.binds (ps := ["self", "thing"]) fun _ _ _ _ _ _ us hl => match us, hl with | [_, _], _ => rfl
  have Fm2 := fun_mk (st := (cP 0)) lm2 cm2 km2
  have bm2 := Fm2.binds (ps := ["self", "places"]) fun _ _ _ _ _ _ us hl => match us, hl with | [_, _], _ => rfl
  have Fm3 := fun_mk (st := (cP 1)) lm3 cm3 km3
  have bm3 := Fm3.binds (ps := ["self"]) fun _ _ _ _ _ _ us hl => match us, hl with | [_], _ => rfl
  have T : BT mg := ⟨PySem.W.mg_none_of X G z_len, PySem.W.mg_none_of X G z_int, PySem.W.mg_none_of X G z_abs, PySem.W.mg_none_of X G z_range, PySem.W.mg_none_of X G z_repr, PySem.W.mg_none_of X G z_isinstance, PySem.W.mg_none_of X G z_all, PySem.W.mg_none_of X G z_tuple, PySem.W.mg_none_of X G z_list, PySem.W.mg_none_of X G z_str, PySem.W.mg_none_of X G z_bool, PySem.W.mg_none_of X G z_dict, PySem.W.mg_none_of X G z_sorted⟩
  have hW : ∀ H, SqT K H aW wordsV := fun H => Or.inr ⟨_, _, _, lW, rfl, rfl, by show 4 ≤ sizeLine; decide, .cons ⟨_, rfl⟩ (.cons ⟨_, rfl⟩ (.cons ⟨_, rfl⟩ (.cons ⟨_, rfl⟩ .nil)))⟩
  have hM : ∀ H, SqT K H aM modesV := fun H => Or.inr ⟨_, _, _, lM, rfl, rfl, by show 2 ≤ sizeLine; decide, .cons ⟨_, rfl⟩ (.cons ⟨_, rfl⟩ .nil)⟩
  refine ⟨PySem.W.fnOf "law" "law" (defArgs s_law) (defBody s_law) (defScope s_law) .none kV34 dc34 pm34 an34 cd34 ct34, fun s v => .of_eq rfl, fun base _ _ => ?_⟩
  have LP : PT K mg CP := ⟨⟨pgCP, hdCP, poCP, saCP⟩, nfCP_places, nfCP_used, PySem.W.mg_of X G aGCP, PySem.W.mg_none_of X G z_enumerate⟩
  have LL : LT K mg C := ⟨⟨pgC, hdC, poC, saC⟩, nfC_names, nfC_bounds, nfC_spots, PySem.W.mg_of X G aGC, PySem.W.mg_none_of X G z_enumerate, PySem.W.mg_none_of X G z_zip⟩
  have IC : IsL K C := ⟨iCaC, ocg, oct, iCmC, decO_ok kLC⟩
  have IP : IsL K CP := ⟨iCaCP, ocg, oct, iCmCP, decO_ok kLP⟩
  have C1 : Ca l.prog w K mg base 1 "is_integer" ["thing"] (spPred Any isIntD) := ⟨_, _, ok_is_integer F0 T, g0, k0, b0⟩
  have C2 : Ca l.prog w K mg base 2 "is_number" ["thing"] (spPred Any isNumD) := ⟨_, _, ok_is_number F1 C1, g1, k1, b1⟩
  have C3 : Ca l.prog w K mg base 1 "is_name" ["thing"] (spPred Ok1 isNameD) := ⟨_, _, ok_is_name F2 T (PySem.W.mg_of X G gLet) (PySem.W.mg_of X G gLong), g2, k2, b2⟩
  have CW : Ca l.prog w K mg base 1 "is_word" ["thing"] (spPred Any isWordD) := ⟨_, _, ok_is_word F3 T (PySem.W.mg_of X G gW) hW, g3, k3, b3⟩
  have CMd : Ca l.prog w K mg base 1 "is_mode" ["thing"] (spGood fun d => d = .str "first" ∨ d = .str "any") := ⟨_, _, ok_mode F4 T (PySem.W.mg_of X G gM) hM, g4, k4, b4⟩
  have okA := ok_is_arm (P := l.prog) (w := w) (base := base) F5 T C2 C3 CW
  have okA2 : FnOk l.prog w K mg base CX0 3 f5 _ ["thing"] (spGood GA) := okA.imp fun vs H Q E h => good_arm h
  have CRA : Ca l.prog w K mg base 4 "is_row_of" ["thing", "is_part"] (spRow GA f5) := ⟨_, _, ok_row F6 T okA2 k5 b5, g6, k6, b6⟩
  have okP := ok_placeH (P := l.prog) (w := w) (base := base) F7 T g5 CMd CRA
  have CRP : Ca l.prog w K mg base 6 "is_row_of" ["thing", "is_part"] (spRow GH f7) := ⟨_, _, ok_row F6 T okP k7 b7, g6, k6, b6⟩
  have CE : Ca l.prog w K mg base 1 "is_else" ["arm"] (spElse) := ⟨_, _, ok_else F8 T, g8, k8, b8⟩
  have MC : ChM l.prog w K mg base CP := ⟨_, _, ok_check Fm3 T LP CE, ⟨am3, im3, km3⟩, bm3⟩
  have MP : MkPH l.prog w K mg base CP := ⟨_, _, ok_progH Fm2 T LP g7 CRP CE MC, ⟨mkCP, am2, im2, kcCP⟩, bm2⟩
  have C4 : Ca l.prog w K mg base 2 "is_bound" ["thing"] (spPred Any isBoundD) := ⟨_, _, ok_is_bound F9 C1, g9, k9, b9⟩
  have C5 : Ca l.prog w K mg base 3 "is_bounds" ["thing"] (spIsBounds) := ⟨_, _, ok_is_bounds F10 T C3 C4, g10, k10, b10⟩
  have ML : MkL l.prog w K mg base C := ⟨_, _, ok_init Fm0 T LL C5, ⟨mkC, am0, im0, kcC⟩, bm0⟩
  have MH : Cm l.prog w K mg base C 2 "__contains__" ["self", "thing"] (spHasD C) := ⟨_, _, ok_hasD Fm1 T LL, ⟨am1, im1, km1⟩, bm1⟩
  have CD : Ca l.prog w K mg base 3 "is_deal" ["lanes", "thing"] (spDl C) := ⟨_, _, ok_dl F11 T CW MH, g11, k11, b11⟩
  have CAsc : Ca l.prog w K mg base 1 "is_ascending" ["parts"] (spAs) := ⟨_, _, ok_as2 F12 T (PySem.W.mg_none_of X G z_set), g12, k12, b12⟩
  have CI : Ca l.prog w K mg base 4 "is_item" ["lanes", "thing"] (spIt C) := ⟨_, _, ok_it F13 T CD CAsc, g13, k13, b13⟩
  have CIr : Ca l.prog w K mg base 5 "is_row" ["lanes", "thing"] (spIr K C) := ⟨_, _, ok_isrow F14 T CI, g14, k14, b14⟩
  have CB : Ca l.prog w K mg base 1 "_law_bag" ["_law_script"] (spBag K) := ⟨_, _, hideBag (ok_bag F15 T), g15, k15, b15⟩
  have CT : Ca l.prog w K mg base 1 "_law_take" ["_law_bag_here", "_law_many"] (spTake) := ⟨_, _, hide (ok_take F16 T), g16, k16, b16⟩
  have CA : Cg l.prog w K mg base 1 "_law_alike" ["_law_found", "_law_due_here"] (spAlike) := ⟨_, _, ok_alike F17 T, g17, k17, b17⟩
  have CN : Ca l.prog w K mg base 2 "_law_names" ["_law_bag_here", "_law_many"] (spNames) := ⟨_, _, ok_names F18 T CT, g18, k18, b18⟩
  have CBo : Ca l.prog w K mg base 2 "_law_bounds" ["_law_bag_here", "_law_names_here", "_law_greatest"] (spBounds) := ⟨_, _, ok_bounds F19 T CT, g19, k19, b19⟩
  have CAr : Ca l.prog w K mg base 2 "_law_arm" ["_law_bag_here", "_law_names_here", "_law_places"] (spLArm) := ⟨_, _, ok_larm F20 T CT, g20, k20, b20⟩
  have CPr : Ca l.prog w K mg base 3 "_law_program" ["_law_bag_here", "_law_names_here", "_law_places"] (spLProg) := ⟨_, _, ok_lprog F21 T CT CAr, g21, k21, b21⟩
  have CO : Ca l.prog w K mg base 1 "_law_opens" ["_law_bounds_here", "_law_content", "_law_arm_here"] (spOpens) := ⟨_, _, ok_opens F22 T, g22, k22, b22⟩
  have CLe : Ca l.prog w K mg base 1 "_law_left" ["_law_bounds_here", "_law_content", "_law_arm_here"] (spLeft) := ⟨_, _, ok_left F23 T, g23, k23, b23⟩
  have CCh : Ca l.prog w K mg base 2 "_law_choices" ["_law_bounds_here", "_law_row_here", "_law_content"] (spLCh) := ⟨_, _, ok_lch F24 T CO, g24, k24, b24⟩
  have CLo : Ca l.prog w K mg base 4 "_law_lone" ["_law_bag_here", "_law_greatest", "_law_places"] (spLo) := ⟨_, _, ok_lo F25 CT CN CBo CPr, g25, k25, b25⟩
  have COs : Ca l.prog w K mg base 3 "_law_own_steps" ["_law_bounds_here", "_law_rows", "_law_one"] (spOs) := ⟨_, _, ok_os F26 CCh CLe, g26, k26, b26⟩
  have CPo : Ca l.prog w K mg base 2 "_law_pairs_of" ["_law_bounds_here", "_law_content", "_law_opened"] (spPo) := ⟨_, _, ok_po F27 T CO, g27, k27, b27⟩
  have CSt : Ca l.prog w K mg base 1 "_law_start" ["_law_bounds_here"] (spSt) := ⟨_, _, ok_st F28 T, g28, k28, b28⟩
  have CRo : Ca l.prog w K mg base 4 "_law_row" ["_law_bag_here", "_law_bounds_here", "_law_rows", "_law_many"] (spRw) := ⟨_, _, ok_rw F29 T CT CSt COs CPo CLe, g29, k29, b29⟩
  have CPR : Ca l.prog w K mg base 1 "_law_pair_right" ["_law_bounds_here", "_law_thing"] (spPR) := ⟨_, _, ok_pr F30 T, g30, k30, b30⟩
  have CDu : Ca l.prog w K mg base 2 "_law_due" ["_law_bounds_here", "_law_thing"] (spDue) := ⟨_, _, ok_du F31 T CPR, g31, k31, b31⟩
  have CBi : Ca l.prog w K mg base 2 "_law_bent_item" ["_law_bag_here", "_law_bounds_here", "_law_item"] (spBi) := ⟨_, _, ok_bi F32 T CT, g32, k32, b32⟩
  have CBe : Ca l.prog w K mg base 3 "_law_bent" ["_law_bag_here", "_law_bounds_here", "_law_thing"] (spBe) := ⟨_, _, ok_be F33 T (PySem.W.mg_none_of X G z_max) CT CBi, g33, k33, b33⟩
  exact ok_law F34 T LL LP IC IP CB CT CLo CRo CBe CDu CIr CA ML MP
theorem facts {l : PySem.W.OpenLaw} {w : World} {K : PySem.W.Frag} {h : Heap} {mg : Str → Option Value} {fa : Addr} (X : K.In h) (G : h.Ns mainGlobals mg) (hfa : mg "law" = some (.ref fa)) (hd : ds.map (DX.obs K) = ds.map DX.val) (hc0 : ((LB K).all id && ds.all (DX.ok K)) = true) :
    K.lookup sysModules = none ∧ ∃ fd : FuncData, (∀ (s : Shared) (v : Value), BindsTo s fd ⟨[v], []⟩ [("_law_script", v)]) ∧ ∀ base : Heap, K.In base → base.Ns mainGlobals mg → FnG l.prog w K mg base 9 fa fd ["_law_script"] (spLaw K) := by
  have hc : (LB K).all id = true ∧ ds.all (DX.ok K) = true := by rw [Bool.and_eq_true] at hc0; exact hc0
  obtain ⟨oc0, od0, kV0, dc0, pm0, an0, cd0, ct0, sl0, l0, c0, k0⟩ := DX.fun_ (d := D0) (funX hd hc.2 0 rfl).1 (funX hd hc.2 0 rfl).2
  obtain ⟨oc1, od1, kV1, dc1, pm1, an1, cd1, ct1, sl1, l1, c1, k1⟩ := DX.fun_ (d := D1) (funX hd hc.2 1 rfl).1 (funX hd hc.2 1 rfl).2
  obtain ⟨oc2, od2, kV2, dc2, pm2, an2, cd2, ct2, sl2, l2, c2, k2⟩ := DX.fun_ (d := D2) (funX hd hc.2 2 rfl).1 (funX hd hc.2 2 rfl).2
  obtain ⟨oc3, od3, kV3, dc3, pm3, an3, cd3, ct3, sl3, l3, c3, k3⟩ := DX.fun_ (d := D3) (funX hd hc.2 3 rfl).1 (funX hd hc.2 3 rfl).2
  obtain ⟨oc4, od4, kV4, dc4, pm4, an4, cd4, ct4, sl4, l4, c4, k4⟩ := DX.fun_ (d := D4) (funX hd hc.2 4 rfl).1 (funX hd hc.2 4 rfl).2
  obtain ⟨oc5, od5, kV5, dc5, pm5, an5, cd5, ct5, sl5, l5, c5, k5⟩ := DX.fun_ (d := D5) (funX hd hc.2 5 rfl).1 (funX hd hc.2 5 rfl).2
  obtain ⟨oc6, od6, kV6, dc6, pm6, an6, cd6, ct6, sl6, l6, c6, k6⟩ := DX.fun_ (d := D6) (funX hd hc.2 6 rfl).1 (funX hd hc.2 6 rfl).2
  obtain ⟨oc7, od7, kV7, dc7, pm7, an7, cd7, ct7, sl7, l7, c7, k7⟩ := DX.fun_ (d := D7) (funX hd hc.2 7 rfl).1 (funX hd hc.2 7 rfl).2
  obtain ⟨oc8, od8, kV8, dc8, pm8, an8, cd8, ct8, sl8, l8, c8, k8⟩ := DX.fun_ (d := D8) (funX hd hc.2 8 rfl).1 (funX hd hc.2 8 rfl).2
  obtain ⟨oc9, od9, kV9, dc9, pm9, an9, cd9, ct9, sl9, l9, c9, k9⟩ := DX.fun_ (d := D9) (funX hd hc.2 9 rfl).1 (funX hd hc.2 9 rfl).2
  obtain ⟨oc10, od10, kV10, dc10, pm10, an10, cd10, ct10, sl10, l10, c10, k10⟩ := DX.fun_ (d := D10) (funX hd hc.2 10 rfl).1 (funX hd hc.2 10 rfl).2
  obtain ⟨oc11, od11, kV11, dc11, pm11, an11, cd11, ct11, sl11, l11, c11, k11⟩ := DX.fun_ (d := D11) (funX hd hc.2 11 rfl).1 (funX hd hc.2 11 rfl).2
  obtain ⟨oc12, od12, kV12, dc12, pm12, an12, cd12, ct12, sl12, l12, c12, k12⟩ := DX.fun_ (d := D12) (funX hd hc.2 12 rfl).1 (funX hd hc.2 12 rfl).2
  obtain ⟨oc13, od13, kV13, dc13, pm13, an13, cd13, ct13, sl13, l13, c13, k13⟩ := DX.fun_ (d := D13) (funX hd hc.2 13 rfl).1 (funX hd hc.2 13 rfl).2
  obtain ⟨oc14, od14, kV14, dc14, pm14, an14, cd14, ct14, sl14, l14, c14, k14⟩ := DX.fun_ (d := D14) (funX hd hc.2 14 rfl).1 (funX hd hc.2 14 rfl).2
  obtain ⟨oc15, od15, kV15, dc15, pm15, an15, cd15, ct15, sl15, l15, c15, k15⟩ := DX.fun_ (d := D15) (funX hd hc.2 15 rfl).1 (funX hd hc.2 15 rfl).2
  obtain ⟨oc16, od16, kV16, dc16, pm16, an16, cd16, ct16, sl16, l16, c16, k16⟩ := DX.fun_ (d := D16) (funX hd hc.2 16 rfl).1 (funX hd hc.2 16 rfl).2
  obtain ⟨oc17, od17, kV17, dc17, pm17, an17, cd17, ct17, sl17, l17, c17, k17⟩ := DX.fun_ (d := D17) (funX hd hc.2 17 rfl).1 (funX hd hc.2 17 rfl).2
  obtain ⟨oc18, od18, kV18, dc18, pm18, an18, cd18, ct18, sl18, l18, c18, k18⟩ := DX.fun_ (d := D18) (funX hd hc.2 18 rfl).1 (funX hd hc.2 18 rfl).2
  obtain ⟨oc19, od19, kV19, dc19, pm19, an19, cd19, ct19, sl19, l19, c19, k19⟩ := DX.fun_ (d := D19) (funX hd hc.2 19 rfl).1 (funX hd hc.2 19 rfl).2
  obtain ⟨oc20, od20, kV20, dc20, pm20, an20, cd20, ct20, sl20, l20, c20, k20⟩ := DX.fun_ (d := D20) (funX hd hc.2 20 rfl).1 (funX hd hc.2 20 rfl).2
  obtain ⟨oc21, od21, kV21, dc21, pm21, an21, cd21, ct21, sl21, l21, c21, k21⟩ := DX.fun_ (d := D21) (funX hd hc.2 21 rfl).1 (funX hd hc.2 21 rfl).2
  obtain ⟨oc22, od22, kV22, dc22, pm22, an22, cd22, ct22, sl22, l22, c22, k22⟩ := DX.fun_ (d := D22) (funX hd hc.2 22 rfl).1 (funX hd hc.2 22 rfl).2
  obtain ⟨oc23, od23, kV23, dc23, pm23, an23, cd23, ct23, sl23, l23, c23, k23⟩ := DX.fun_ (d := D23) (funX hd hc.2 23 rfl).1 (funX hd hc.2 23 rfl).2
  obtain ⟨oc24, od24, kV24, dc24, pm24, an24, cd24, ct24, sl24, l24, c24, k24⟩ := DX.fun_ (d := D24) (funX hd hc.2 24 rfl).1 (funX hd hc.2 24 rfl).2
  obtain ⟨oc25, od25, kV25, dc25, pm25, an25, cd25, ct25, sl25, l25, c25, k25⟩ := DX.fun_ (d := D25) (funX hd hc.2 25 rfl).1 (funX hd hc.2 25 rfl).2
  obtain ⟨oc26, od26, kV26, dc26, pm26, an26, cd26, ct26, sl26, l26, c26, k26⟩ := DX.fun_ (d := D26) (funX hd hc.2 26 rfl).1 (funX hd hc.2 26 rfl).2
  obtain ⟨oc27, od27, kV27, dc27, pm27, an27, cd27, ct27, sl27, l27, c27, k27⟩ := DX.fun_ (d := D27) (funX hd hc.2 27 rfl).1 (funX hd hc.2 27 rfl).2
  obtain ⟨oc28, od28, kV28, dc28, pm28, an28, cd28, ct28, sl28, l28, c28, k28⟩ := DX.fun_ (d := D28) (funX hd hc.2 28 rfl).1 (funX hd hc.2 28 rfl).2
  obtain ⟨oc29, od29, kV29, dc29, pm29, an29, cd29, ct29, sl29, l29, c29, k29⟩ := DX.fun_ (d := D29) (funX hd hc.2 29 rfl).1 (funX hd hc.2 29 rfl).2
  obtain ⟨oc30, od30, kV30, dc30, pm30, an30, cd30, ct30, sl30, l30, c30, k30⟩ := DX.fun_ (d := D30) (funX hd hc.2 30 rfl).1 (funX hd hc.2 30 rfl).2
  obtain ⟨oc31, od31, kV31, dc31, pm31, an31, cd31, ct31, sl31, l31, c31, k31⟩ := DX.fun_ (d := D31) (funX hd hc.2 31 rfl).1 (funX hd hc.2 31 rfl).2
  obtain ⟨oc32, od32, kV32, dc32, pm32, an32, cd32, ct32, sl32, l32, c32, k32⟩ := DX.fun_ (d := D32) (funX hd hc.2 32 rfl).1 (funX hd hc.2 32 rfl).2
  obtain ⟨oc33, od33, kV33, dc33, pm33, an33, cd33, ct33, sl33, l33, c33, k33⟩ := DX.fun_ (d := D33) (funX hd hc.2 33 rfl).1 (funX hd hc.2 33 rfl).2
  obtain ⟨oc34, od34, kV34, dc34, pm34, an34, cd34, ct34, sl34, l34, c34, k34⟩ := DX.fun_ (d := D34) (funX hd hc.2 34 rfl).1 (funX hd hc.2 34 rfl).2
  obtain ⟨ocm0, odm0, kVm0, dcm0, pmm0, anm0, cdm0, ctm0, slm0, lm0, cm0, km0⟩ := DX.fun_ (d := Dm0) (funX hd hc.2 35 rfl).1 (funX hd hc.2 35 rfl).2
  obtain ⟨ocm1, odm1, kVm1, dcm1, pmm1, anm1, cdm1, ctm1, slm1, lm1, cm1, km1⟩ := DX.fun_ (d := Dm1) (funX hd hc.2 36 rfl).1 (funX hd hc.2 36 rfl).2
  obtain ⟨ocm2, odm2, kVm2, dcm2, pmm2, anm2, cdm2, ctm2, slm2, lm2, cm2, km2⟩ := DX.fun_ (d := Dm2) (funX hd hc.2 37 rfl).1 (funX hd hc.2 37 rfl).2
  obtain ⟨ocm3, odm3, kVm3, dcm3, pmm3, anm3, cdm3, ctm3, slm3, lm3, cm3, km3⟩ := DX.fun_ (d := Dm3) (funX hd hc.2 38 rfl).1 (funX hd hc.2 38 rfl).2
  have nS := noS_ok (allX hc.1 0)
  have a0 := He.eqO_ok (allX hc.1 1 (b := He.Fa.ok K (.glo "is_integer")))
  have a1 := He.eqO_ok (allX hc.1 2 (b := He.Fa.ok K (.glo "is_number")))
  have a2 := He.eqO_ok (allX hc.1 3 (b := He.Fa.ok K (.glo "is_name")))
  have a3 := He.eqO_ok (allX hc.1 4 (b := He.Fa.ok K (.glo "is_word")))
  have a4 := He.eqO_ok (allX hc.1 5 (b := He.Fa.ok K (.glo "is_mode")))
  have a5 := He.eqO_ok (allX hc.1 6 (b := He.Fa.ok K (.glo "is_arm")))
  have a6 := He.eqO_ok (allX hc.1 7 (b := He.Fa.ok K (.glo "is_row_of")))
  have a7 := He.eqO_ok (allX hc.1 8 (b := He.Fa.ok K (.glo "is_place")))
  have a8 := He.eqO_ok (allX hc.1 9 (b := He.Fa.ok K (.glo "is_else")))
  have a9 := He.eqO_ok (allX hc.1 10 (b := He.Fa.ok K (.glo "is_bound")))
  have a10 := He.eqO_ok (allX hc.1 11 (b := He.Fa.ok K (.glo "is_bounds")))
  have a11 := He.eqO_ok (allX hc.1 12 (b := He.Fa.ok K (.glo "is_deal")))
  have a12 := He.eqO_ok (allX hc.1 13 (b := He.Fa.ok K (.glo "is_ascending")))
  have a13 := He.eqO_ok (allX hc.1 14 (b := He.Fa.ok K (.glo "is_item")))
  have a14 := He.eqO_ok (allX hc.1 15 (b := He.Fa.ok K (.glo "is_row")))
  have a15 := He.eqO_ok (allX hc.1 16 (b := He.Fa.ok K (.glo "_law_bag")))
  have a16 := He.eqO_ok (allX hc.1 17 (b := He.Fa.ok K (.glo "_law_take")))
  have a17 := He.eqO_ok (allX hc.1 18 (b := He.Fa.ok K (.glo "_law_alike")))
  have a18 := He.eqO_ok (allX hc.1 19 (b := He.Fa.ok K (.glo "_law_names")))
  have a19 := He.eqO_ok (allX hc.1 20 (b := He.Fa.ok K (.glo "_law_bounds")))
  have a20 := He.eqO_ok (allX hc.1 21 (b := He.Fa.ok K (.glo "_law_arm")))
  have a21 := He.eqO_ok (allX hc.1 22 (b := He.Fa.ok K (.glo "_law_program")))
  have a22 := He.eqO_ok (allX hc.1 23 (b := He.Fa.ok K (.glo "_law_opens")))
  have a23 := He.eqO_ok (allX hc.1 24 (b := He.Fa.ok K (.glo "_law_left")))
  have a24 := He.eqO_ok (allX hc.1 25 (b := He.Fa.ok K (.glo "_law_choices")))
  have a25 := He.eqO_ok (allX hc.1 26 (b := He.Fa.ok K (.glo "_law_lone")))
  have a26 := He.eqO_ok (allX hc.1 27 (b := He.Fa.ok K (.glo "_law_own_steps")))
  have a27 := He.eqO_ok (allX hc.1 28 (b := He.Fa.ok K (.glo "_law_pairs_of")))
  have a28 := He.eqO_ok (allX hc.1 29 (b := He.Fa.ok K (.glo "_law_start")))
  have a29 := He.eqO_ok (allX hc.1 30 (b := He.Fa.ok K (.glo "_law_row")))
  have a30 := He.eqO_ok (allX hc.1 31 (b := He.Fa.ok K (.glo "_law_pair_right")))
  have a31 := He.eqO_ok (allX hc.1 32 (b := He.Fa.ok K (.glo "_law_due")))
  have a32 := He.eqO_ok (allX hc.1 33 (b := He.Fa.ok K (.glo "_law_bent_item")))
  have a33 := He.eqO_ok (allX hc.1 34 (b := He.Fa.ok K (.glo "_law_bent")))
  have a34 := He.eqO_ok (allX hc.1 35 (b := He.Fa.ok K (.glo "law")))
  have aGC := He.eqO_ok (allX hc.1 36 (b := He.Fa.ok K (.glo "Lanes")))
  have aGCP := He.eqO_ok (allX hc.1 37 (b := He.Fa.ok K (.glo "Program")))
  have am0 := He.eqO_ok (allX hc.1 38 (b := He.eqO (PySem.W.findIn K (.ref (He.ga K "Lanes")) "__init__") (some (some (.ref (He.ma K (He.ga K "Lanes") "__init__"))))))
  have im0 := allX hc.1 39 (b := PySem.W.isFn K (.ref (He.ma K (He.ga K "Lanes") "__init__")))
  have am1 := He.eqO_ok (allX hc.1 40 (b := He.eqO (PySem.W.findIn K (.ref (He.ga K "Lanes")) "__contains__") (some (some (.ref (He.ma K (He.ga K "Lanes") "__contains__"))))))
  have im1 := allX hc.1 41 (b := PySem.W.isFn K (.ref (He.ma K (He.ga K "Lanes") "__contains__")))
  have am2 := He.eqO_ok (allX hc.1 42 (b := He.eqO (PySem.W.findIn K (.ref (He.ga K "Program")) "__init__") (some (some (.ref (He.ma K (He.ga K "Program") "__init__"))))))
  have im2 := allX hc.1 43 (b := PySem.W.isFn K (.ref (He.ma K (He.ga K "Program") "__init__")))
  have am3 := He.eqO_ok (allX hc.1 44 (b := He.eqO (PySem.W.findIn K (.ref (He.ga K "Program")) "_check") (some (some (.ref (He.ma K (He.ga K "Program") "_check"))))))
  have im3 := allX hc.1 45 (b := PySem.W.isFn K (.ref (He.ma K (He.ga K "Program") "_check")))
  have pgC := allX hc.1 46 (b := PySem.W.plainGet K (He.ga K "Lanes") Str.empty)
  have hdC := allX hc.1 47 (b := PySem.W.hasDictIn K (He.ga K "Lanes"))
  have poC := allX hc.1 48 (b := PySem.W.plainOver K (He.ga K "Lanes"))
  have mkC := allX hc.1 49 (b := PySem.W.makesIn K (He.ga K "Lanes"))
  have kcC := allX hc.1 50 (b := PySem.W.keepIn K (.ref (He.ga K "Lanes")))
  have saC := He.eqO_ok (allX hc.1 51 (b := He.eqO (PySem.W.findIn K (.ref (He.ga K "Lanes")) "__setattr__") (some (some (.builtin "object.__setattr__")))))
  have iCaC := He.eqO_ok (allX hc.1 52 (b := He.eqO (PySem.W.findIn K (.ref (He.ga K "Lanes")) "__class__") (some (some (.builtin "object.__class__")))))
  have nfC_names := He.eqO_ok (allX hc.1 53 (b := He.eqO (PySem.W.findIn K (.ref (He.ga K "Lanes")) "_names") (some none)))
  have nfC_bounds := He.eqO_ok (allX hc.1 54 (b := He.eqO (PySem.W.findIn K (.ref (He.ga K "Lanes")) "_bounds") (some none)))
  have nfC_spots := He.eqO_ok (allX hc.1 55 (b := He.eqO (PySem.W.findIn K (.ref (He.ga K "Lanes")) "_spots") (some none)))
  have iCmC := decO_ok (allX hc.1 56 (b := decO (PySem.W.mroIn K (He.ga K "Lanes") (.type "object")) (some true)))
  have iCcC := decO_ok (allX hc.1 57 (b := decO (PySem.W.kitOne K (.ref (He.ga K "Lanes")) (.ref (He.ga K "Lanes"))) (some true)))
  have pgCP := allX hc.1 58 (b := PySem.W.plainGet K (He.ga K "Program") Str.empty)
  have hdCP := allX hc.1 59 (b := PySem.W.hasDictIn K (He.ga K "Program"))
  have poCP := allX hc.1 60 (b := PySem.W.plainOver K (He.ga K "Program"))
  have mkCP := allX hc.1 61 (b := PySem.W.makesIn K (He.ga K "Program"))
  have kcCP := allX hc.1 62 (b := PySem.W.keepIn K (.ref (He.ga K "Program")))
  have saCP := He.eqO_ok (allX hc.1 63 (b := He.eqO (PySem.W.findIn K (.ref (He.ga K "Program")) "__setattr__") (some (some (.builtin "object.__setattr__")))))
  have iCaCP := He.eqO_ok (allX hc.1 64 (b := He.eqO (PySem.W.findIn K (.ref (He.ga K "Program")) "__class__") (some (some (.builtin "object.__class__")))))
  have nfCP_places := He.eqO_ok (allX hc.1 65 (b := He.eqO (PySem.W.findIn K (.ref (He.ga K "Program")) "_places") (some none)))
  have nfCP_used := He.eqO_ok (allX hc.1 66 (b := He.eqO (PySem.W.findIn K (.ref (He.ga K "Program")) "_used") (some none)))
  have iCmCP := decO_ok (allX hc.1 67 (b := decO (PySem.W.mroIn K (He.ga K "Program") (.type "object")) (some true)))
  have iCcCP := decO_ok (allX hc.1 68 (b := decO (PySem.W.kitOne K (.ref (He.ga K "Program")) (.ref (He.ga K "Program"))) (some true)))
  have ocg := He.eqO_ok (allX hc.1 69 (b := He.eqO (PySem.W.specialIn K (.builtin "object.__class__") "__get__") (some (some (.builtin "getset_descriptor.__get__")))))
  have oct := decO_ok (allX hc.1 70 (b := decO (PySem.W.takesIn K (.builtin "object.__class__")) (some true)))
  obtain ⟨tl0, gLet⟩ := strB_ok (allX hc.1 71 (b := strB K "LETTERS" abc))
  obtain ⟨tn0, gLong⟩ := intB_ok (allX hc.1 72 (b := intB K "LONGEST" 8))
  have kLC := allX hc.1 73 (b := decO (PySem.W.kitOne K (.ref (He.ga K "Lanes")) (.type "list")) (some false))
  have kLP := allX hc.1 74 (b := decO (PySem.W.kitOne K (.ref (He.ga K "Program")) (.type "list")) (some false))
  have gW := He.eqO_ok (allX hc.1 75 (b := He.Fa.ok K (.glo "WORDS")))
  have gM := He.eqO_ok (allX hc.1 76 (b := He.Fa.ok K (.glo "MODES")))
  obtain ⟨odW, tsW, nW, slW, zW, lW0⟩ := tupX_ok (allX hc.1 77 (b := tupX K (He.ga K "WORDS") ["close", "ended", "send", "take"]))
  obtain ⟨t1, t2, t3, t4, rfl⟩ : ∃ a b c d, tsW = [a, b, c, d] := by match tsW, zW with | [a, b, c, d], _ => exact ⟨a, b, c, d, rfl⟩
  obtain ⟨odM, tsM, nM, slM, zM, lM0⟩ := tupX_ok (allX hc.1 78 (b := tupX K (He.ga K "MODES") ["any", "first"]))
  obtain ⟨t5, t6, rfl⟩ : ∃ a b, tsM = [a, b] := by match tsM, zM with | [a, b], _ => exact ⟨a, b, rfl⟩
  have z_len := He.eqO_ok (allX hc.1 79 (b := He.Fa.ok K (.free "len")))
  have z_int := He.eqO_ok (allX hc.1 80 (b := He.Fa.ok K (.free "int")))
  have z_abs := He.eqO_ok (allX hc.1 81 (b := He.Fa.ok K (.free "abs")))
  have z_range := He.eqO_ok (allX hc.1 82 (b := He.Fa.ok K (.free "range")))
  have z_repr := He.eqO_ok (allX hc.1 83 (b := He.Fa.ok K (.free "repr")))
  have z_isinstance := He.eqO_ok (allX hc.1 84 (b := He.Fa.ok K (.free "isinstance")))
  have z_all := He.eqO_ok (allX hc.1 85 (b := He.Fa.ok K (.free "all")))
  have z_tuple := He.eqO_ok (allX hc.1 86 (b := He.Fa.ok K (.free "tuple")))
  have z_list := He.eqO_ok (allX hc.1 87 (b := He.Fa.ok K (.free "list")))
  have z_str := He.eqO_ok (allX hc.1 88 (b := He.Fa.ok K (.free "str")))
  have z_bool := He.eqO_ok (allX hc.1 89 (b := He.Fa.ok K (.free "bool")))
  have z_dict := He.eqO_ok (allX hc.1 90 (b := He.Fa.ok K (.free "dict")))
  have z_sorted := He.eqO_ok (allX hc.1 91 (b := He.Fa.ok K (.free "sorted")))
  have z_enumerate := He.eqO_ok (allX hc.1 92 (b := He.Fa.ok K (.free "enumerate")))
  have z_zip := He.eqO_ok (allX hc.1 93 (b := He.Fa.ok K (.free "zip")))
  have z_set := He.eqO_ok (allX hc.1 94 (b := He.Fa.ok K (.free "set")))
  have z_max := He.eqO_ok (allX hc.1 95 (b := He.Fa.ok K (.free "max")))
  have lW : K.lookup (He.ga K "WORDS") = some ⟨.type "tuple", odW, .seq #[.str "close" t1, .str "ended" t2, .str "send" t3, .str "take" t4] nW, slW⟩ := lW0
  have lM : K.lookup (He.ga K "MODES") = some ⟨.type "tuple", odM, .seq #[.str "any" t5, .str "first" t6] nM, slM⟩ := lM0
  exact ⟨nS, all_mk X G hfa a0 l0 c0 k0 a1 l1 c1 k1 a2 l2 c2 k2 a3 l3 c3 k3 a4 l4 c4 k4 a5 l5 c5 k5 a6 l6 c6 k6 a7 l7 c7 k7 a8 l8 c8 k8 a9 l9 c9 k9 a10 l10 c10 k10 a11 l11 c11 k11 a12 l12 c12 k12 a13 l13 c13 k13 a14 l14 c14 k14 a15 l15 c15 k15 a16 l16 c16 k16 a17 l17 c17 k17 a18 l18 c18 k18 a19 l19 c19 k19 a20 l20 c20 k20 a21 l21 c21 k21 a22 l22 c22 k22 a23 l23 c23 k23 a24 l24 c24 k24 a25 l25 c25 k25 a26 l26 c26 k26 a27 l27 c27 k27 a28 l28 c28 k28 a29 l29 c29 k29 a30 l30 c30 k30 a31 l31 c31 k31 a32 l32 c32 k32 a33 l33 c33 k33 a34 l34 c34 k34 aGC aGCP am0 im0 lm0 cm0 km0 am1 im1 lm1 cm1 km1 am2 im2 lm2 cm2 km2 am3 im3 lm3 cm3 km3 pgC hdC poC saC mkC kcC nfC_names nfC_bounds nfC_spots iCaC iCmC iCcC pgCP hdCP poCP saCP mkCP kcCP nfCP_places nfCP_used iCaCP iCmCP iCcCP ocg oct gLet gLong gW gM lW lM kLC kLP z_len z_int z_abs z_range z_repr z_isinstance z_all z_tuple z_list z_str z_bool z_dict z_sorted z_enumerate z_zip z_set z_max⟩
end K70
open PySem PySem.W PyProof.Rows
set_option maxRecDepth 100000 in
set_option maxHeartbeats 0 in
theorem PySem.Challenge.cw_openlanes_k70_rows_known_holds : PySem.Challenge.rw_openlanes_k70_rows_known.Holds := by
  w_on; o_law
  refine HandSHeadRun.head_any (r := (OpenLaw.row PySem.Challenge.rw_openlanes_k70_rows_known)) (q := view (OpenLaw.row PySem.Challenge.rw_openlanes_k70_rows_known).prog [55]) (H := K70.hk) (ob := K70.ob) (M := 20000) (loose := K70.loose) (d := HandSHeadRun.topDef (OpenLaw.row PySem.Challenge.rw_openlanes_k70_rows_known).prog 55) (kwd := []) K70.ob_eq
    (by kernel_rfl) (fun s => by kernel_rfl) K70.run (by kernel_rfl) (by kernel_rfl) (by kernel_rfl) (by rfl) (by first | assumption | decide +kernel) (by decide +kernel) ⟨rfl, rfl, rfl, rfl, rfl, by decide +kernel⟩ ?hw ?hc
  case hw => w_witness2
  case hc =>
    refine Ol.walkGE (l := PySem.Challenge.rw_openlanes_k70_rows_known) (n := 63) (k := 9) (x := "_law_script") rfl (by rfl) (by decide) (by kernel_rfl) ⟨rfl, by decide, by decide⟩ ?F
    intro w mg fa h Y G hmg0
    obtain ⟨K, KX, hd, hc⟩ := Y
    have hmg : mg ("law" : PySem.Str) = some (.ref fa) := by
      have e : (HandSHeadRun.topDef (OpenLaw.row PySem.Challenge.rw_openlanes_k70_rows_known).prog 55).name = ("law" : PySem.Str) := by kernel_rfl
      rw [← e]
      exact hmg0
    obtain ⟨nS, fd, hb, hF⟩ := K70.facts (l := PySem.Challenge.rw_openlanes_k70_rows_known) (w := w) KX G hmg hd hc
    exact ⟨K, fd, K70.spLaw K, KX, nS, hb, fun H a ns hl hS hL => ⟨a, ns, rfl, hS, hL, hl, fun _ => rfl⟩, hF⟩

