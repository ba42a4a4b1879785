import PyProof.Rows.All
import Wide.All
import OpenK.AllK
import Wide.FinOn
import HandS.ForMost
import HandS.IsInst
import PyProof.ReprRoads
import HandS.Walk
import HandS.Text
import PyProof.StrOps2
import PyProof.ReprText
import KE.GoesMore
import HandS.Iter
import HandS.DictComp
import HandS.More
import HandS.Property
import HandS.TupMul
import HandS.ExcInit
import HandS.ExcField
import HandS.WordsExc
import HandS.ExcOwn
import HandS.TryOnly
import HandS.Zip
import KE.KDictList
import PyProof.NeData
import HandS.Style
import KE.KStateDown
import HandS.Defaults
import HandS.Head0
import HandS.Head1
import HandS.Head2
import HandS.HeadEnd
import HandS.HeadHook1
import HandS.HeadHook2
import HandS.HeadHook3
import HandS.WordsDict
import HandS.TupAny
import HandS.CallLocal
import HandS.Deep
import HandS.Star
import HandS.SortRule
import HandS.ExcIs
import KE.KExcIs
import HandS.Comp
import HandS.HotCalls
import HandS.ExcCtx
import HandS.List
import PySem.Challenge.RW_openlanes_k41_crowds_needed
set_option Elab.async false
set_option linter.all false
set_option maxRecDepth 100000
set_option maxHeartbeats 4000000
/-! Own rules: defs that may show data (no display is under way), and the law's end for them. -/
namespace Ol
open PySem PySem.Spec PyProof.Rows L2

/-- a def's promise where no display is under way -/
structure FnG (P : Program) (w : World) (K : PySem.W.Frag)
    (mg : Str → Option Value) (base : Heap) (k : Nat)
    (f : Addr) (fd : FuncData) (ps : List Str) (sp : Sp) : Prop where
  len : ∀ vs H Q E, sp vs H Q E → vs.length = ps.length
  go : ∀ (A : Around) (outer : List Env) (s : Shared) (H : Hp)
    (args : Args) (us : List Value) (vs : List V) (Q : VK) (E : XK),
    A.guards = some [] → Room k A → Env0 P w K mg base A outer s H →
    BindsTo s fd args (ps.zip us) → Vals vs us → sp vs H Q E →
    codeAny (model P w) A (.call (.ref f) args)
      (CR CX0 outer P w H s Q E) s

section
variable {P : Program} {w : World} {K : PySem.W.Frag}
  {mg : Str → Option Value} {base : Heap} {k : Nat}

theorem FnG.of {f : Addr} {fd : FuncData} {ps : List Str} {sp : Sp}
    (F : FnOk P w K mg base CX0 k f fd ps sp) : FnG P w K mg base k f fd ps sp :=
  ⟨F.len, fun A o s H as us vs Q E _ r => F.run A o s H as us vs Q E r⟩

/-- the rule for a def, its body's context has no display under way -/
theorem okG {x qual : Str} {st : Stmt} {f : Addr} {fd : FuncData}
    {N ps : List Str} {sp : Sp} (F : Fun K x qual st f fd)
    (S : FnScope N ps (defScope st))
    (len : ∀ vs H Q E, sp vs H Q E → vs.length = ps.length)
    (body : ∀ (cdv : Value) (A : Around) (outer : List Env) (s : Shared)
      (H : Hp) (vs : List V) (Q : VK) (E : XK),
      (A.deeper (envOfC qual (defScope st) s.heap.objs.size f cdv)).guards = some [] →
      Room k (A.deeper (envOfC qual (defScope st) s.heap.objs.size f cdv)) →
      sp vs H Q E → ∃ t,
        PSs (cxOf CX0 P w K mg base N qual (defScope st) f cdv A outer s H E).nox
          (defBody st) t ∧
        t { nx := fun _ H' => Q .non H', rt := Q } (start N vs) H) :
    FnG P w K mg base (k + 1) f fd ps sp := by
  obtain ⟨oc, od, kV, doc, pm, an, cdv, ct, osl, rfl, lk, hcd⟩ := F.ex
  refine ⟨len, ?_⟩
  intro A outer s H args us vs Q E hG room e0 hb rv hsp
  have hlen := len _ _ _ _ hsp
  have kin : K.In s.heap :=
    e0.mod.kin.keeps (fun b o e => (e0.bs b o e).1)
  have nol : s.heap.NoLimit :=
    e0.mod.nolimit.keeps (fun b o e => (e0.bs b o e).1)
  have kinds : ∀ y ∈ ps.zip us,
      (defScope st).names.lookup y.1 = some .local ∨
      ((defScope st).names.lookup y.1 = some .cell ∧
        ((cellsFrom (s.heap.objs.size + 1) (defScope st).names []).lookup y.1).isSome = true) := by
    rintro ⟨n, v⟩ hy
    cases S.par n (List.of_mem_zip hy).1 with
    | inl q => exact Or.inl q
    | inr q => exact Or.inr ⟨q, PySem.W.cellsFrom_some _ _ _ (Or.inl q)⟩
  refine codeAny_call_function room.depth (kin _ _ lk) rfl S.co S.gen rfl
    (PySem.W.codeRec_of kin hcd) (hb _ _ _ _ ?_)
  refine wpAny_newFunctionEnv_cells S.kind kinds ?_
  intro env he s1 x
  subst he
  refine ⟨nol.keeps x.toInCall.keep, codeAny_func ?_⟩
  have hG' : (A.deeper (envOfC qual (defScope st) s.heap.objs.size f cdv)).guards = some [] := by
    exact hG
  obtain ⟨t, ht0, hq⟩ := body cdv A outer s H vs Q E hG' (room.deeper _) hsp
  have ht := ht0.nox
  have I := inv_start (CX := CX0) (E := E) S room.hd e0 hlen rv x
  have out : ∀ {σ' : L2.St} {H' : Hp} {v : V} {u : Value} {s' : Shared},
      Inv (cxOf CX0 P w K mg base N qual (defScope st) f cdv A outer s H E) [] σ' H' s' →
      RelV v u → Q v H' → CE outer P w H s Q u s' :=
    fun J r q => ⟨_, _, J.os, J.bare, J.base, J.hok, r, q⟩
  refine wpAny_mono (ht.run [] s1 (start N vs) H _ I hq) ?_ (fun _ _ z => z)
  intro fl s' hs
  cases fl with
  | next =>
    obtain ⟨_, _, J, q⟩ := hs
    exact out (v := V.non) (u := Value.none) J rfl q
  | ret u =>
    obtain ⟨_, _, _, J, r, q⟩ := hs
    exact out J r q
  | brk => exact hs.choose_spec.choose_spec.2.elim
  | cont => exact hs.choose_spec.choose_spec.2.elim
end

section
variable {X : Cx} {k : Nat} {f : Addr} {fd : FuncData} {ps : List Str}
  {sp : Sp} {E : XK} {x : Str} {e : Expr} {es : List Expr} {t : TA}
  {p pos : Pos} {ds : List Value} {dvs : List V}
/-- f(..) of such a def -/
theorem pe_callG (F : FnG X.prog X.w X.K X.mg X.base k f fd ps sp)
    (hG : X.A.guards = some []) (hr : Room k X.A) (hg : Gl X x)
    (hm : X.mg x = some (.ref f)) (hk : PySem.W.keepIn X.K (.ref f) = true)
    (hb : Binds X.K fd ps []) (ha : PA X (e :: es) t)
    (hdb : (x == ("__debug__" : Str)) = false := by decide)
    (he : starEach (e :: es) X.env = (false, eval e X.env) :: starEach es X.env := by rfl)
    (hpl : (backTo pos (starEach es X.env)).any (·.1) = false := by rfl) :
    PE X (.Call (.Name x p) (e :: es) [] pos) (tCall sp [] E0 t) := by
  constructor
  intro pins s σ H Q I h
  apply wpAny_Call_Name_kw
  apply ld_glob I hg hm (hd := hdb)
  refine PySem.W.callWith_K (h₀ := X.base) I.ok.mod.kin hk ?_ he hpl
  refine thn (ha.run pos pins s σ H _ I h) ?_
  rintro us s1 ⟨vs, H1, I1, r, q⟩
  refine ⟨I1.kIn, ?_⟩
  have q' : sp vs H1 Q E0 := by
    have z : sp (vs ++ []) H1 Q E0 := q
    rwa [List.append_nil] at z
  have hl : us.length = ps.length := by
    rw [← r.length]
    exact F.len _ _ _ _ q'
  have hbs := hb s1 us I1.kIn (by simpa using hl)
  rw [List.append_nil] at hbs
  refine wpAny_call (codeAny_mono (F.go X.A X.stack s1 H1 ⟨us, []⟩ us vs Q E0 hG hr I1.env0 hbs r q') ?_)
  intro res s2 hres
  cases res with
  | error z => exact False.elim hres
  | ok fl =>
    cases fl with
    | ret u => exact I1.after hres
    | next => exact False.elim hres
    | brk => exact False.elim hres
    | cont => exact False.elim hres
end
end Ol

set_option Elab.async false
set_option linter.all false
set_option maxRecDepth 100000
set_option maxHeartbeats 4000000
namespace Ol
open PySem PySem.Spec PyProof.Rows L2

/-- the table of modules is set aside: no list stands there -/
def Sys (H : Hp) : Prop := ∃ o u, H sysModules = some (.frz o u)

/-- every tracked object is locked -/
def Lockd (H : Hp) : Prop := ∀ b u, H b = some u → ∃ o v, u = .frz o v

section
variable {P : Program} {w : World} {K : PySem.W.Frag} {mg mb : Str → Option Value}
  {k : Nat} {fa a : Addr} {fd : FuncData} {x : Str} {sp : Sp} {s1 : Shared}

/-- the call of the law from a heap in which some objects are locked -/
theorem enterG (H : Hp) (hL : Lockd H) (ok : HOk P w H s1.heap)
    (hK : ∀ b, H b ≠ none → K.lookup b = none)
    (hN : ∀ b m, s1.heap.Ns b m → (b = 0 ∨ b = 3 ∨ b = cStatics) → H b = none)
    (kin : K.In s1.heap) (hns : s1.heap.Ns mainGlobals mg) (hb : s1.heap.Ns builtinsNs mb)
    (hbb : ∀ y : Str, y ≠ "__name__" → mb y = bootBuiltins y)
    (hlim : s1.heap.NoLimit) (hg : s1.gens = #[]) (hr : Room k callerA)
    (F : ∀ base : Heap, K.In base → base.Ns mainGlobals mg → FnG P w K mg base k fa fd [x] sp)
    (bind : ∀ (s : Shared) (u : Value), BindsTo s fd ⟨[u], []⟩ [(x, u)])
    (hsp : sp [.ref a] H (fun v _ => v = .bl true) E0) :
    codeAny (model P w) callerA (.call (.ref fa) ⟨[.ref a], []⟩)
      (fun r s' => r = .ok (.ret (.bool true)) ∧ OldK s1.heap s'.heap ∧
        s'.os = s1.os ∧ AllBare s'.gens) s1 := by
  have ns : ∀ {b : Addr} {m : Str → Option Value}, s1.heap.Ns b m →
      (b = 0 ∨ b = 3 ∨ b = cStatics) → (hidT s1.heap H).Ns b m := by
    intro b m h c
    have n := hN b m h c
    obtain ⟨o, es, ep, e, r⟩ := h
    exact ⟨o, es, ep, hidT_get e n, r⟩
  have kb : K.In (hidT s1.heap H) := by
    intro b o e
    refine hidT_get (kin b o e) ?_
    cases q : H b with
    | none => rfl
    | some u =>
      have z := hK b (by rw [q]; exact fun t => nomatch t)
      rw [z] at e
      cases e
  have gl : (hidT s1.heap H).Ns mainGlobals mg := ns hns (Or.inr (Or.inl rfl))
  have md : Mod K mg (hidT s1.heap H) := by
    refine ⟨kb, gl, ⟨mb, ns hb (Or.inl rfl), hbb⟩, ?_⟩
    obtain ⟨mc, h1, h2⟩ := hlim
    exact ⟨mc, ns h1 (Or.inr (Or.inr rfl)), h2⟩
  have e0 : Env0 P w K mg (hidT s1.heap H) callerA [] s1 H := by
    refine ⟨rfl, md, fun b o e => of_hidT e, Nat.le_of_eq (hidT_size _ _), trivial, ?_, ok, .of_eq hg⟩
    intro b hb
    cases hb
  have run := (F _ kb gl).go callerA [] s1 H ⟨[.ref a], []⟩ [.ref a] [.ref a]
    (fun v _ => v = .bl true) E0 rfl hr e0 (bind s1 (.ref a)) (.cons rfl .nil) hsp
  refine codeAny_mono run ?_
  intro r s' h
  match r, h with
  | .error e, h => exact h.elim
  | .ok .next, h => exact h.elim
  | .ok .brk, h => exact h.elim
  | .ok .cont, h => exact h.elim
  | .ok (.ret u), h =>
    obtain ⟨v, H', os, bare, un, ok', rv, q⟩ := h
    have q' : v = .bl true := q
    subst q'
    have eu : u = Value.bool true := rv
    subst eu
    refine ⟨rfl, OldK.of_keep ?_, os, bare⟩
    intro b o e
    cases q : H b with
    | none => exact un.keep b o e q (fun z => nomatch z) (fun z => nomatch z)
    | some u =>
      obtain ⟨ob, v, rfl⟩ := hL b u q
      have q2 := un.frzs b ob v q
      have e1 : s1.heap.get? b = some ob := (ok b _ q).1
      have e2 : s'.heap.get? b = some ob := (ok' b _ q2).1
      rw [e] at e1
      cases e1
      exact e2

/-- the law's heap at its entry: the script locked (or of the module), the table of modules locked -/
theorem law_callG {vs : List Value} {ns : List Int}
    (kin : K.In s1.heap) (kS : K.lookup sysModules = none)
    (hS : ∃ o, s1.heap.get? sysModules = some o)
    (hns : s1.heap.Ns mainGlobals mg) (hb : s1.heap.Ns builtinsNs mb)
    (hbb : ∀ y : Str, y ≠ "__name__" → mb y = bootBuiltins y)
    (hlim : s1.heap.NoLimit) (hg : s1.gens = #[])
    (ha : s1.heap.get? a = some { cls := .type "list", data := .seq vs.toArray })
    (hi : IntsAre vs ns) (hl : ns.length ≤ sizeLine) (hr : Room k callerA)
    (F : ∀ base : Heap, K.In base → base.Ns mainGlobals mg → FnG P w K mg base k fa fd [x] sp)
    (bind : ∀ (s : Shared) (u : Value), BindsTo s fd ⟨[u], []⟩ [(x, u)])
    (hsp : ∀ H : Hp, Sys H → SqL K H a (ns.map V.int) → sp [.ref a] H (fun v _ => v = .bl true) E0) :
    codeAny (model P w) callerA (.call (.ref fa) ⟨[.ref a], []⟩)
      (fun r s' => r = .ok (.ret (.bool true)) ∧ OldK s1.heap s'.heap ∧
        s'.os = s1.os ∧ AllBare s'.gens) s1 := by
  have rv := vals_ints hi
  obtain ⟨o1, ho1⟩ := hS
  -- no namespace is locked
  have dat : ∀ b m, s1.heap.Ns b m → b ≠ a := by
    rintro b m ⟨o, es, ep, e, d, _⟩ rfl
    rw [ha] at e
    cases e
    have d' : Data.seq vs.toArray _ = Data.dict es ep := d
    cases d'
  have nsys : ∀ b : Addr, (b = 0 ∨ b = 3 ∨ b = cStatics) → b ≠ sysModules := by
    rintro b (rfl | rfl | rfl) <;> decide
  have okS : ∀ H : Hp, ObjOk P w H s1.heap sysModules (.frz o1 (.ext fun _ => True)) :=
    fun H => ⟨ho1, trivial, ⟨o1, ho1⟩, fun _ _ _ _ => trivial⟩
  cases hk : K.lookup a with
  | some o =>
    have e := kin a o hk
    rw [ha] at e
    cases e
    have hL : SqL K (fun b => if b = sysModules then some (.frz o1 (.ext fun _ => True)) else none) a (ns.map V.int) := by
      refine Or.inr ⟨_, vs.toArray, _, hk, rfl, rfl, rfl, ?_, by simpa using rv⟩
      rw [List.size_toArray, hi.length]
      exact hl
    refine enterG (fun b => if b = sysModules then some (.frz o1 (.ext fun _ => True)) else none)
      ?_ ?_ ?_ ?_ kin hns hb hbb hlim hg hr F bind (hsp _ ⟨o1, _, if_pos rfl⟩ hL)
    · intro b u q
      by_cases c : b = sysModules
      · have q' := (if_pos c).symm.trans q
        cases q'
        exact ⟨_, _, rfl⟩
      · have q' := (if_neg c).symm.trans q
        cases q'
    · intro b u q
      by_cases c : b = sysModules
      · have q' := (if_pos c).symm.trans q
        cases q'
        subst c
        exact okS _
      · have q' := (if_neg c).symm.trans q
        cases q'
    · intro b q
      by_cases c : b = sysModules
      · subst c
        exact kS
      · exact absurd (if_neg c) q
    · intro b m _ c
      exact if_neg (nsys b c)
  | none =>
    let H0 : Hp := fun b => if b = a then some (.frz { cls := .type "list", data := .seq vs.toArray } (.lst (ns.map V.int)))
      else if b = sysModules then some (.frz o1 (.ext fun _ => True)) else none
    have at_a : H0 a = some (.frz { cls := .type "list", data := .seq vs.toArray } (.lst (ns.map V.int))) := if_pos rfl
    have sysH : Sys H0 := by
      by_cases c : sysModules = a
      · exact ⟨_, _, if_pos c⟩
      · exact ⟨o1, _, (if_neg c).trans (if_pos rfl)⟩
    refine enterG H0 ?_ ?_ ?_ ?_ kin hns hb hbb hlim hg hr F bind (hsp _ sysH (Or.inl (Or.inr ⟨_, at_a⟩)))
    · intro b u q
      by_cases c : b = a
      · have q' := (if_pos c).symm.trans q
        cases q'
        exact ⟨_, _, rfl⟩
      · by_cases c2 : b = sysModules
        · have q' := ((if_neg c).trans (if_pos c2)).symm.trans q
          cases q'
          exact ⟨_, _, rfl⟩
        · have q' := ((if_neg c).trans (if_neg c2)).symm.trans q
          cases q'
    · intro b u q
      by_cases c : b = a
      · have q' := (if_pos c).symm.trans q
        cases q'
        subst c
        exact ⟨ha, by rw [List.length_map]; exact hl, vs, _, rv, ha⟩
      · by_cases c2 : b = sysModules
        · have q' := ((if_neg c).trans (if_pos c2)).symm.trans q
          cases q'
          subst c2
          exact okS _
        · have q' := ((if_neg c).trans (if_neg c2)).symm.trans q
          cases q'
    · intro b q
      by_cases c : b = a
      · rw [c]
        exact hk
      · by_cases c2 : b = sysModules
        · rw [c2]
          exact kS
        · exact absurd ((if_neg c).trans (if_neg c2)) q
    · intro b m h c
      exact (if_neg (dat b m h)).trans (if_neg (nsys b c))
end

/-- the end of a law's row, by a promise of FnG -/
theorem walkG {l : PySem.W.OpenLaw} {n k : Nat} {q : Program} {loose : List Str}
    {XP : (Str → Option Value) → Heap → Prop} {YP : World → Heap → Prop} {d : DefRec}
    {K : Params → PySem.W.Frag} {sp : World → Sp} {x : Str}
    (hn : l.most = some n) (him : importsNone q = true) (hn2 : n ≤ sizeLine) (hdf : d.params.defaults = []) (hr : Room k callerA)
    (hY : ∀ (w : World) (h : Heap), YP w h → (K w.params).In h)
    (kS : ∀ w : World, (K w.params).lookup sysModules = none)
    (F : ∀ (w : World) (mg : Str → Option Value) (fa : Addr) (h : Heap),
      (K w.params).In h → h.Ns mainGlobals mg → mg d.name = some (.ref fa) →
      ∃ fd : FuncData, (∀ (s : Shared) (u : Value), BindsTo s fd ⟨[u], []⟩ [(x, u)]) ∧
        ∀ base : Heap, (K w.params).In base → base.Ns mainGlobals mg →
          FnG l.prog w (K w.params) mg base k fa fd [x] (sp w))
    (hsp : ∀ (w : World) (H : Hp) (a : Addr) (ns : List Int), ns.length ≤ n → Sys H →
      SqL (K w.params) H a (ns.map V.int) → sp w [.ref a] H (fun v _ => v = .bl true) E0) :
    PySem.W.WalkO q loose XP YP l.row.toRowW d [] (fun f vs => PySem.call f vs) := by
  refine Att.attach_call hn hdf ?_
  intro w s0 s1 mg mb fa o pm cd doc a vs ns G Y ho hd hcd hmg hobj hints hlen hg
  have kin := hY w _ Y
  obtain ⟨fd, hb, hF⟩ := F w mg fa _ kin G.T.g hmg
  have hS : ∃ o, s1.heap.get? sysModules = some o := by
    obtain ⟨mm, ⟨o, es, ep, e, _⟩, _⟩ := (G.T.seer him).mods
    exact ⟨o, e⟩
  exact law_callG kin (kS w) hS G.T.g G.T.b G.T.builtins G.T.nolimit hg hobj hints
    (Nat.le_trans hlen hn2) hr hF hb (fun H h1 h2 => hsp w H a ns hlen h1 h2)
end Ol

set_option Elab.async false
set_option linter.all false
set_option maxRecDepth 100000
set_option maxHeartbeats 4000000
namespace Ol
open PySem PySem.Spec PyProof.Rows L2

/-- a key of a dict as data -/
def keyD : Key → PyData
  | .inl i => .int i
  | .inr x => .str x

/-! ### data of any depth, dicts with ints and texts as keys too -/
mutual
inductive Dq (H : Hp) : V → PyData → Prop
  | non : Dq H .non .none
  | bl (b : Bool) : Dq H (.bl b) (.bool b)
  | int (i : Int) : Dq H (.int i) (.int i)
  | str (x : Str) : Dq H (.str x) (.str x)
  | lst {a : Addr} {xs : List V} {ds : List PyData} :
      H a = some (.lst xs) → DqAll H xs ds → Dq H (.ref a) (.list ds)
  | tup {a : Addr} {xs : List V} {ds : List PyData} :
      H a = some (.tup xs) → DqAll H xs ds → Dq H (.ref a) (.tuple ds)
  | dct {a : Addr} {kvs : List (Key × V)} {ds : List PyData} :
      H a = some (.dK kvs) → DqAll H (kvs.map (·.2)) ds →
      Dq H (.ref a) (.dict ((kvs.map fun kv => keyD kv.1).zip ds))
inductive DqAll (H : Hp) : List V → List PyData → Prop
  | nil : DqAll H [] []
  | cons {v : V} {vs : List V} {d : PyData} {ds : List PyData} :
      Dq H v d → DqAll H vs ds → DqAll H (v :: vs) (d :: ds)
end

theorem DqAll.len {H : Hp} : ∀ {vs : List V} {ds : List PyData}, DqAll H vs ds → vs.length = ds.length
  | [], _, h => by cases h; rfl
  | v :: vs, _, h => by
    cases h with
    | cons _ t => rw [List.length_cons, List.length_cons, t.len]

/-- what is tracked in H stands in H' as well -/
def Ext (H H' : Hp) : Prop := ∀ b o, H b = some o → H' b = some o

mutual
theorem Dq.up {H H' : Hp} (e : Ext H H') : ∀ {v : V} {d : PyData}, Dq H v d → Dq H' v d
  | _, _, .non => .non
  | _, _, .bl b => .bl b
  | _, _, .int i => .int i
  | _, _, .str x => .str x
  | _, _, .lst h t => .lst (e _ _ h) (DqAll.up e t)
  | _, _, .tup h t => .tup (e _ _ h) (DqAll.up e t)
  | _, _, .dct h t => .dct (e _ _ h) (DqAll.up e t)
theorem DqAll.up {H H' : Hp} (e : Ext H H') : ∀ {vs : List V} {ds : List PyData}, DqAll H vs ds → DqAll H' vs ds
  | _, _, .nil => .nil
  | _, _, .cons h t => .cons (Dq.up e h) (DqAll.up e t)
end

section
variable {X : Cx} {pins : List (Addr × Obj)} {σ : L2.St} {H : Hp} {s : Shared}

theorem keys_reads {h : Heap} {knd : List (Key × Value)} : ∀ {kvs : List (Key × V)} {es : List DictEntry} {vs : List (Key × Value)},
    L2.KV kvs vs → Pairs (mixKind X.prog X.w) es vs →
    ReadsAll h (es.map (·.key)) (kvs.map fun kv => keyD kv.1) [] ∧ Vals (kvs.map (·.2)) (es.map (·.val))
  | [], es, _, r, p => by
    cases r
    cases p
    exact ⟨.nil, .nil⟩
  | kv :: kvs, es, _, r, p => by
    cases r with
    | cons r1 r2 =>
      cases p with
      | cons p1 p2 p3 =>
        obtain ⟨q1, q2⟩ := keys_reads (h := h) (knd := knd) r2 p3
        refine ⟨?_, .cons ?_ q2⟩
        case refine_2 =>
          have z := r1.2
          rw [← p2] at z
          exact z
        have e1 := r1.1
        rw [← e1] at p1
        rcases keyIs_shape p1 with ⟨i, t, e, e'⟩ | ⟨x, t, e, e'⟩
        · have z := ReadsAll.cons (Reads.int (h := h) i t) q1
          rw [List.map_cons, List.map_cons, e, e']
          exact z
        · have z := ReadsAll.cons (Reads.str (h := h) x t) q1
          rw [List.map_cons, List.map_cons, e, e']
          exact z

theorem zip_fst {α β : Type} : ∀ {xs : List α} {ys : List β}, xs.length = ys.length → (xs.zip ys).map (·.1) = xs
  | [], _, _ => by simp
  | x :: xs, [], h => by simp at h
  | x :: xs, y :: ys, h => by
    rw [List.zip_cons_cons, List.map_cons, zip_fst (by simpa using h)]
theorem zip_snd {α β : Type} : ∀ {xs : List α} {ys : List β}, xs.length = ys.length → (xs.zip ys).map (·.2) = ys
  | [], [], _ => by simp
  | [], y :: ys, h => by simp at h
  | x :: xs, [], h => by simp at h
  | x :: xs, y :: ys, h => by
    rw [List.zip_cons_cons, List.map_cons, zip_snd (by simpa using h)]

mutual
theorem Dq.reads (I : Inv X pins σ H s) (S : Sys H) : ∀ {v : V} {d : PyData} {u : Value}, Dq H v d → RelV v u →
    ∃ as, Reads s.heap u d as ∧ sysModules ∉ as
  | _, _, _, .non, r => by
    cases r
    exact ⟨_, Reads.none, nofun⟩
  | _, _, _, .bl b, r => by
    cases r
    exact ⟨_, Reads.bool b, nofun⟩
  | _, _, _, .int i, r => by
    obtain ⟨t, rfl⟩ := r
    exact ⟨_, Reads.int i t, nofun⟩
  | _, _, _, .str x, r => by
    obtain ⟨t, rfl⟩ := r
    exact ⟨_, Reads.str x t, nofun⟩
  | _, _, _, .lst (a := a) (xs := xs) h t, r => by
    cases r
    obtain ⟨_, its, n, rv, e⟩ := I.hok a _ h
    obtain ⟨as, q, n1⟩ := DqAll.reads I S t rv
    refine ⟨_, Reads.list e rfl rfl q, ?_⟩
    intro m
    rcases List.mem_cons.mp m with m | m
    · obtain ⟨o, u, hs⟩ := S
      rw [m, h] at hs
      cases hs
    · exact n1 m
  | _, _, _, .tup (a := a) (xs := xs) h t, r => by
    cases r
    obtain ⟨_, its, rv, o, e, c, n, d⟩ := I.hok a _ h
    obtain ⟨as, q, n1⟩ := DqAll.reads I S t rv
    exact ⟨_, Reads.tuple e c d q, n1⟩
  | _, _, _, .dct (a := a) (kvs := kvs) (ds := ds) h t, r => by
    cases r
    obtain ⟨_, na, vs, rel, o, es, ep, e, ex, hd, _, pr, _⟩ := I.hok a _ h
    obtain ⟨q1, q2⟩ := keys_reads (X := X) (h := s.heap) (knd := vs) rel pr
    obtain ⟨bs, q3, n1⟩ := DqAll.reads I S t q2
    have hl : (kvs.map fun kv => keyD kv.1).length = ds.length := by
      rw [List.length_map, ← t.len, List.length_map]
    refine ⟨_, Reads.dict (kvs := (kvs.map fun kv => keyD kv.1).zip ds) e ex.1 hd (as := []) (bs := bs) ?_ ?_, ?_⟩
    · rw [zip_fst hl]
      exact q1
    · rw [zip_snd hl]
      exact q3
    · intro m
      rcases List.mem_cons.mp m with m | m
      · rw [← m] at na
        exact absurd na (by decide)
      · exact n1 (by simpa using m)
theorem DqAll.reads (I : Inv X pins σ H s) (S : Sys H) : ∀ {vs : List V} {ds : List PyData} {us : List Value}, DqAll H vs ds → Vals vs us →
    ∃ as, ReadsAll s.heap us ds as ∧ sysModules ∉ as
  | _, _, _, .nil, r => by
    cases r
    exact ⟨_, ReadsAll.nil, nofun⟩
  | _, _, _, .cons h t, r => by
    cases r with
    | cons r1 r2 =>
      obtain ⟨as, q1, n1⟩ := Dq.reads I S h r1
      obtain ⟨bs, q2, n2⟩ := DqAll.reads I S t r2
      refine ⟨_, ReadsAll.cons q1 q2, ?_⟩
      intro m
      rcases List.mem_append.mp m with m | m
      · exact n1 m
      · exact n2 m
end
end

/-- repr(x) of data -/
def rRepr : List V → Hp → VK → Prop := fun vs H Q => ∃ v d, vs = [v] ∧ Sys H ∧ Dq H v d ∧
  d.showable = true ∧ d.depth ≤ 40 ∧ d.shown.length ≤ sizeLine ∧ Q (.str d.shown) H

theorem call_reprD {X : Cx} {k : Nat} (hG : X.A.guards = some []) (hr : Room k X.A) : CallR X (.builtin "repr") rRepr := by
  intro pins s σ H vs us Q I r h
  obtain ⟨v, d, rfl, S, hd, hs, hdp, hz, q⟩ := h
  obtain ⟨u, rfl, ru⟩ := vals1 r
  have hu := hr.units
  obtain ⟨as, rd, n1⟩ := Dq.reads I S hd ru
  have leaf : ∀ {x : Str}, x = d.shown → EP X pins σ Q (.str x s.toks) { s with toks := s.toks + 1 } := by
    rintro x rfl
    exact ⟨.str _, H, I.tok _, ⟨_, rfl⟩, q⟩
  cases hd with
  | non =>
    cases ru
    exact PySem.P.repr_of_none (leaf (by simp only [PyData.shown]))
  | bl b =>
    cases ru
    exact PySem.P.repr_of_bool (leaf (by simp only [PyData.shown]))
  | int i =>
    obtain ⟨t, rfl⟩ := ru
    exact PySem.P.repr_of_int (by simpa [PyData.showable] using hs) (leaf (by simp only [PyData.shown]))
  | str x =>
    obtain ⟨t, rfl⟩ := ru
    exact PySem.P.repr_of_str (leaf (by simp only [PyData.shown])) (by simpa only [PyData.shown] using hz)
  | lst h t =>
    cases ru
    exact repr_of_reads' rd hs (fun _ => n1) hG (by omega) (fun _ _ e => e)
      (fun h' u tk hk => ⟨.str _, H, I.kept (t' := tk) hk, ⟨u, rfl⟩, q⟩) hz
  | tup h t =>
    cases ru
    exact repr_of_reads' rd hs (fun _ => n1) hG (by omega) (fun _ _ e => e)
      (fun h' u tk hk => ⟨.str _, H, I.kept (t' := tk) hk, ⟨u, rfl⟩, q⟩) hz
  | dct h t =>
    cases ru
    exact repr_of_reads' rd hs (fun _ => n1) hG (by omega) (fun _ _ e => e)
      (fun h' u tk hk => ⟨.str _, H, I.kept (t' := tk) hk, ⟨u, rfl⟩, q⟩) hz
end Ol

set_option Elab.async false
set_option linter.all false
set_option maxRecDepth 100000
set_option maxHeartbeats 4000000
namespace Ol
open PySem PySem.Spec PyProof.Rows L2

theorem Ext.refl (H : Hp) : Ext H H := fun _ _ e => e
theorem Ext.trans {H H1 H2 : Hp} (a : Ext H H1) (b : Ext H1 H2) : Ext H H2 := fun c o e => b c o (a c o e)
theorem Ext.new {H : Hp} {p : Addr} {o : HO} (h : H p = none) : Ext H (upd H p o) := fun b u e => by
  rw [upd_ne (ne_of_none e h)]
  exact e
/-- what was not tracked at the start may change -/
theorem Ext.mut {H H' : Hp} {p : Addr} {o : HO} (e : Ext H H') (h : H p = none) : Ext H (upd H' p o) := fun b u eb => by
  rw [upd_ne (ne_of_none eb h)]
  exact e b u eb
theorem Ext.free {H H' : Hp} (e : Ext H H') {p : Addr} (h : H' p = none) : H p = none := by
  cases q : H p with
  | none => rfl
  | some o =>
    rw [e p o q] at h
    cases h

/-- xs[j] read, for xs[j] += e -/
def rGetL (K : PySem.W.Frag) : V → V → Hp → VK → Prop := fun x y H Q => ∃ (p : Addr) (xs : List V) (j : Nat) (v : V),
  x = .ref p ∧ y = .int (j : Int) ∧ SqL K H p xs ∧ xs[j]? = some v ∧ Q v H
theorem get_list {X : Cx} : PGet X (rGetL X.K) := by
  intro pins s σ H o i ov iv Q I ro ri h
  obtain ⟨p, xs, j, v, rfl, rfl, hq, hj, q⟩ := h
  cases ro
  obtain ⟨t, rfl⟩ := ri
  obtain ⟨its, r, pl, hz⟩ := I.list hq
  obtain ⟨u, eu, ru⟩ := r.get hj
  have hlt : j < xs.length := (List.getElem?_eq_some_iff.mp hj).1
  have h63 := line63
  refine wpAny_getItem_list (x := u) pl.isList (by omega) (by omega) (by simpa using eu) ?_
  exact ⟨v, H, I, ru, q⟩

/-- one statement, then the rest of a block, with what holds between -/
theorem cutB {X : Cx} {s : Stmt} {r : List Stmt} {D : Ends} {σ : L2.St} {H : Hp} (W : L2.St → Hp → Prop)
    (h2 : ∃ t2, PSs X r t2 ∧ ∀ σ' H', W σ' H' → t2 D σ' H')
    (h1 : ∃ t1, PS X s t1 ∧ ∀ nx : L2.St → Hp → Prop, (∀ σ' H', W σ' H' → nx σ' H') → t1 { D with nx := nx } σ H) :
    ∃ t, PSs X (s :: r) t ∧ t D σ H := by
  obtain ⟨t2, d2, k2⟩ := h2
  obtain ⟨t1, d1, k1⟩ := h1
  exact ⟨_, pss_cons d1 d2, k1 _ k2⟩

/-- no built-in name is taken by the module -/
structure BT (mg : Str → Option Value) : Prop where
  n_len : mg "len" = none
  n_int : mg "int" = none
  n_abs : mg "abs" = none
  n_range : mg "range" = none
  n_repr : mg "repr" = none
  n_isinstance : mg "isinstance" = none
  n_all : mg "all" = none
  n_tuple : mg "tuple" = none
  n_list : mg "list" = none
  n_str : mg "str" = none
  n_bool : mg "bool" = none
  n_dict : mg "dict" = none
  n_sorted : mg "sorted" = none

/-! ### the bag: a list of three ints and the cells; its ints are set aside -/
def bagL (b0 b1 b2 : Int) (c : Addr) : List V := [.int b0, .int b1, .int b2, .ref c]
structure BagI (b0 b1 b2 : Int) : Prop where
  h0 : 0 ≤ b0
  h1 : 0 ≤ b1
  h1' : b1 < 2147483647
  h2 : 0 ≤ b2
def bagP (a c : Addr) : Heap → Prop := fun h => ∃ (b0 b1 b2 : Int) (t0 t1 t2 : Tok) (n : Nat),
  h.get? a = some { cls := .type "list", data := .seq #[.int b0 t0, .int b1 t1, .int b2 t2, .ref c] n } ∧ BagI b0 b1 b2
def Bag (H : Hp) (a : Addr) : Prop := ∃ (c : Addr) (ns : List Int), H a = some (.ext (bagP a c)) ∧
  H c = some (.lst (ns.map V.int)) ∧ (∀ n ∈ ns, 0 ≤ n)
theorem Bag.up {H H' : Hp} {a : Addr} (e : Ext H H') : Bag H a → Bag H' a
  | ⟨c, ns, h1, h2, h3⟩ => ⟨c, ns, e _ _ h1, e _ _ h2, h3⟩

/-- a draw, the bag's ints told -/
def spTake0 : Sp := fun vs H Q _ => ∃ (a c : Addr) (b0 b1 b2 : Int) (ns : List Int) (m : Int),
  vs = [.ref a, .int m] ∧ H a = some (.lst (bagL b0 b1 b2 c)) ∧ H c = some (.lst (ns.map V.int)) ∧ (∀ n ∈ ns, 0 ≤ n) ∧
  BagI b0 b1 b2 ∧ 0 < m ∧ m < 1073741824 ∧
  ∀ (r x0 x1 x2 : Int), 0 ≤ r → r < m → BagI x0 x1 x2 → Q (.int r) (upd H a (.lst (bagL x0 x1 x2 c)))
/-- a draw, the bag set aside -/
def spTake : Sp := fun vs H Q _ => ∃ (a : Addr) (m : Int), vs = [.ref a, .int m] ∧ Bag H a ∧ 0 < m ∧ m < 1073741824 ∧
  ∀ r : Int, 0 ≤ r → r < m → Q (.int r) H

section
variable {P : Program} {w : World} {K : PySem.W.Frag} {mg : Str → Option Value} {base : Heap}

theorem hide {k : Nat} {f : Addr} {fd : FuncData} {ps : List Str} (F : FnOk P w K mg base CX0 k f fd ps spTake0) :
    FnOk P w K mg base CX0 k f fd ps spTake := by
  refine ⟨?_, ?_⟩
  · rintro vs H Q E ⟨a, m, rfl, ⟨c, ns, h1, h2, h3⟩, hm, hm2, q⟩
    have hca : c ≠ a := ne_of h2 h1 (fun z => nomatch z)
    exact F.len [.ref a, .int m] (upd H a (.lst (bagL 0 0 0 c))) (fun _ _ => True) E0
      ⟨a, c, 0, 0, 0, ns, m, rfl, upd_same, by rw [upd_ne hca]; exact h2, h3, ⟨by decide, by decide, by decide, by decide⟩, hm, hm2, fun _ _ _ _ _ _ _ => trivial⟩
  · rintro A outer s H args us vs Q E hr e0 hb rv ⟨a, m, rfl, ⟨c, ns, h1, h2, h3⟩, hm, hm2, q⟩
    have hca : c ≠ a := ne_of h2 h1 (fun z => nomatch z)
    obtain ⟨⟨b0, b1, b2, t0, t1, t2, n, eo, bi⟩, _, _⟩ := e0.hok a _ h1
    have mu : Mut (H a) := by
      rw [h1]
      trivial
    have nw : ObjOk P w (upd H a (.lst (bagL b0 b1 b2 c))) s.heap a (.lst (bagL b0 b1 b2 c)) :=
      ⟨by show 4 ≤ sizeLine; decide, [.int b0 t0, .int b1 t1, .int b2 t2, .ref c], n, .cons ⟨t0, rfl⟩ (.cons ⟨t1, rfl⟩ (.cons ⟨t2, rfl⟩ (.cons rfl .nil))), eo⟩
    have ok1 : HOk P w (upd H a (.lst (bagL b0 b1 b2 c))) s.heap := HOk.write e0.hok mu (Or.inl rfl) (fun _ _ _ z => z) ⟨_, eo⟩ nw
    have un1 : Un (frs outer) [] H (upd H a (.lst (bagL b0 b1 b2 c))) s.heap s.heap := Un.write mu (Or.inl rfl) (fun _ _ _ z => z) ⟨_, eo⟩
    have none1 : ∀ b, H b = none → upd H a (.lst (bagL b0 b1 b2 c)) b = none := fun b z => by
      rw [upd_ne (fun y => by rw [y, h1] at z; cases z)]
      exact z
    have e1 : Env0 P w K mg base A outer s (upd H a (.lst (bagL b0 b1 b2 c))) :=
      ⟨e0.frames, e0.mod, fun b o z => ⟨(e0.bs b o z).1, none1 b (e0.bs b o z).2⟩, e0.bsz, e0.funs, fun b z => none1 b (e0.frf b z), ok1, e0.bare⟩
    have run := F.run A outer s (upd H a (.lst (bagL b0 b1 b2 c))) args us [.ref a, .int m]
      (fun v H' => ∃ (r x0 x1 x2 : Int), v = .int r ∧ 0 ≤ r ∧ r < m ∧ BagI x0 x1 x2 ∧ H' = upd (upd H a (.lst (bagL b0 b1 b2 c))) a (.lst (bagL x0 x1 x2 c)))
      E hr e1 hb rv ⟨a, c, b0, b1, b2, ns, m, rfl, upd_same, by rw [upd_ne hca]; exact h2, h3, bi, hm, hm2, fun r x0 x1 x2 g1 g2 g3 => ⟨r, x0, x1, x2, rfl, g1, g2, g3, rfl⟩⟩
    refine codeAny_mono run ?_
    intro res s' h
    match res, h with
    | .error _, h => exact h.elim
    | .ok .next, h => exact h.elim
    | .ok .brk, h => exact h.elim
    | .ok .cont, h => exact h.elim
    | .ok (.ret u), h =>
      obtain ⟨v, H', os, bare, un, hok', rv', r, x0, x1, x2, rfl, g1, g2, g3, eH⟩ := h
      have hb' : H' a = some (.lst (bagL x0 x1 x2 c)) := by rw [eH, upd_same]
      have back : upd H' a (.ext (bagP a c)) = H := by
        rw [eH, upd_upd, upd_upd]
        funext b
        by_cases z : b = a
        · rw [z, upd_same, h1]
        · rw [upd_ne z]
      have mu' : Mut (H' a) := by
        rw [hb']
        trivial
      obtain ⟨_, its, n', r', eo'⟩ := hok' a _ hb'
      have shape : ∃ y0 y1 y2, its = [.int x0 y0, .int x1 y1, .int x2 y2, .ref c] := by
        cases r' with
        | cons q0 r' => cases r' with
          | cons q1 r' => cases r' with
            | cons q2 r' => cases r' with
              | cons q3 r' =>
                cases r'
                obtain ⟨y0, rfl⟩ := q0
                obtain ⟨y1, rfl⟩ := q1
                obtain ⟨y2, rfl⟩ := q2
                cases q3
                exact ⟨y0, y1, y2, rfl⟩
      obtain ⟨y0, y1, y2, rfl⟩ := shape
      have nw' : ObjOk P w (upd H' a (.ext (bagP a c))) s'.heap a (.ext (bagP a c)) := by
        refine ⟨⟨x0, x1, x2, y0, y1, y2, n', eo', g3⟩, ⟨_, eo'⟩, ?_⟩
        rintro g g' ⟨z0, z1, z2, w0, w1, w2, n2, e2, i2⟩ hk
        exact ⟨z0, z1, z2, w0, w1, w2, n2, hk _ e2, i2⟩
      have ok2 := HOk.write hok' mu' (Or.inl rfl) (fun _ _ _ z => z) ⟨_, eo'⟩ nw'
      have un2 : Un (frs outer) [] H' (upd H' a (.ext (bagP a c))) s'.heap s'.heap := Un.write mu' (Or.inl rfl) (fun _ _ _ z => z) ⟨_, eo'⟩
      rw [back] at ok2 un2
      exact ⟨.int r, H, os, bare, (un1.trans un).trans un2, ok2, rv', q r g1 g2⟩
end
end Ol

set_option Elab.async false
set_option linter.all false
set_option maxRecDepth 100000
set_option maxHeartbeats 4000000
namespace Ol
open PySem PySem.Spec PyProof.Rows L2

/-- what of H' is new over H -/
def nw (H H' : Hp) : Hp := fun b => match H b with
  | none => H' b
  | some _ => none
theorem nw_none {H H' : Hp} {b : Addr} (h : H b = none) : nw H H' b = H' b := by
  unfold nw
  rw [h]
theorem nw_some {H H' : Hp} {b : Addr} {o : HO} (h : H b = some o) : nw H H' b = none := by
  unfold nw
  rw [h]
theorem nw_ext {H H' : Hp} : Ext (nw H H') H' := fun b o e => by
  cases h : H b with
  | none => rwa [nw_none h] at e
  | some u =>
    rw [nw_some h] at e
    cases e
theorem nw_up {H H1 H2 : Hp} (e : Ext H1 H2) : Ext (nw H H1) (nw H H2) := fun b o q => by
  cases h : H b with
  | none =>
    rw [nw_none h] at q ⊢
    exact e b o q
  | some u =>
    rw [nw_some h] at q
    cases q
theorem nw_base {H0 H H' : Hp} (e : Ext H0 H) : Ext (nw H H') (nw H0 H') := fun b o q => by
  cases h : H b with
  | none => 
    rw [nw_none h] at q
    rw [nw_none (e.free h)]
    exact q
  | some u =>
    rw [nw_some h] at q
    cases q
theorem nw_dom {H0 H H' : Hp} (e : ∀ b, H b = none → H0 b = none) : Ext (nw H H') (nw H0 H') := fun b o q => by
  cases h : H b with
  | none =>
    rw [nw_none h] at q
    rw [nw_none (e b h)]
    exact q
  | some u =>
    rw [nw_some h] at q
    cases q
/-- from new over a later heap to new over an earlier one -/
theorem nw_mono {H0 H H1 H2 : Hp} (e : Ext H0 H) (f : Ext H1 H2) : Ext (nw H H1) (nw H0 H2) := (nw_base e).trans (nw_up f)
theorem nw_at {H H' : Hp} {p : Addr} {o : HO} (h : H p = none) : nw H (upd H' p o) p = some o := by rw [nw_none h, upd_same]
theorem nw_mut {H H' : Hp} {p : Addr} {o u : HO} (h : H p = some u) : Ext (nw H H') (nw H (upd H' p o)) := fun b z q => by
  cases g : H b with
  | none =>
    rw [nw_none g] at q ⊢
    rw [upd_ne (fun y => by rw [y, h] at g; cases g)]
    exact q
  | some _ =>
    rw [nw_some g] at q
    cases q

/-- a list comprehension without a test: its items are new things of which R holds -/
theorem lc_ext {J : It} {n : Nat} {G : Hp → Prop} {Y : Nat → Hp → V → Hp → Prop} (w : Walk J n G Y) {j : Nat} {te : TE} {σ : L2.St} {H1 : Hp} {D : Addr} {Qd : Hp → Prop}
    (R : Nat → V → Hp → Prop) (up : ∀ i v H H', Ext H H' → R i v H → R i v H') (hD : H1 D = none) (hn : n ≤ sizeLine) 
    (hG : ∀ H, Ext H1 H → G H)
    (hs : ∀ i x H H', i < n → Ext H1 H → Y i H x H' → Ext H H' ∧ ∀ Q : VK, (∀ y H4, Ext H' H4 → R i y (nw H' H4) → Q y H4) → te ((wipe σ [j]).set j (some x)) H' Q)
    (hd : ∀ H xs, Ext H1 H → H D = some (.lst xs) → xs.length = n → (∀ i y, xs[i]? = some y → R i y (nw H1 H)) → Qd H) :
    ∃ W : Nat → Nat → Hp → Prop, (∃ m, W 0 m (upd H1 D (.lst []))) ∧ ∀ i m H, W i m H →
      (J.stop i H ∧ Qd H) ∨ (J.go i H ∧ ∃ Nx : Hp → Prop, (∀ H', Nx H' → ∃ m', m' < m ∧ W (i + 1) m' H') ∧ ∀ x H', J.yld i H x H' → gName j x (wipe σ [j]) H' fun σ2 H2 => wipe σ2 [j] = wipe σ [j] ∧ tYes σ2 H2 fun b H3 =>
        if b = true then te σ2 H3 fun y H4 => ∃ acc, H4 D = some (.lst acc) ∧ acc.length < sizeLine ∧ Nx (upd H4 D (.lst (acc ++ [y]))) else Nx H3) := by
  let Hs : Hp := upd H1 D (.lst [])
  have hsD : Hs D = some (.lst []) := upd_same
  have e1 : Ext H1 Hs := Ext.new hD
  refine lc_it w (fun i H => ∃ xs, Ext H1 H ∧ H D = some (.lst xs) ∧ xs.length = i ∧ ∀ k y, xs[k]? = some y → R k y (nw Hs H))
    ⟨[], e1, hsD, rfl, fun k y z => by simp at z⟩ (by rintro i H _ ⟨xs, e, _⟩; exact hG H e) ?_ ?_
  · rintro i x H H' hi ⟨xs, e, hx, hl, hr⟩ y
    obtain ⟨e2, ht⟩ := hs i x H H' hi e y
    have hw : wipe ((wipe σ [j]).set j (some x)) [j] = wipe σ [j] := by
      show ((σ.set j none).set j (some x)).set j none = σ.set j none
      rw [List.set_set, List.set_set]
    refine ⟨hw, ?_⟩
    unfold tYes
    dsimp only
    rw [if_pos rfl]
    refine ht _ ?_
    intro v H4 e4 rv
    refine ⟨xs, e4 _ _ (e2 _ _ hx), by omega, xs ++ [v], ?_, upd_same, by rw [List.length_append, hl]; rfl, ?_⟩
    · exact Ext.mut ((e.trans e2).trans e4) hD
    · intro k u hk
      have toN : Ext (nw Hs H4) (nw Hs (upd H4 D (.lst (xs ++ [v])))) := nw_mut hsD
      by_cases hkl : k < xs.length
      · rw [List.getElem?_append_left hkl] at hk
        exact up _ _ _ _ ((nw_up (e2.trans e4)).trans toN) (hr k u hk)
      · have hk2 : k = xs.length := by
          have z := (List.getElem?_eq_some_iff.mp hk).1
          rw [List.length_append] at z
          simp at z
          omega
        subst hk2
        rw [List.getElem?_append_right (Nat.le_refl _), Nat.sub_self] at hk
        have hv : v = u := Option.some.inj hk
        subst hv
        rw [hl]
        have hsub : ∀ b, H' b = none → Hs b = none := by
          intro b q
          have q1 : H b = none := e2.free q
          have z : b ≠ D := fun z => by rw [z, hx] at q1; cases q1
          rw [show Hs b = H1 b from upd_ne z]
          exact e.free q1
        exact up _ _ _ _ ((nw_dom hsub).trans toN) rv
  · rintro H ⟨xs, e, hx, hl, hr⟩
    exact hd H xs e hx hl fun i y z => up _ _ _ _ (nw_base e1) (hr i y z)
end Ol

set_option Elab.async false
set_option linter.all false
set_option maxRecDepth 100000
set_option maxHeartbeats 4000000
namespace Ol
open PySem PySem.Spec PyProof.Rows L2

/-! ### comprehensions that leave the heap but for their list -/
theorem lc_det {J : It} {n : Nat} {G : Hp → Prop} {Y : Nat → Hp → V → Hp → Prop} (w : Walk J n G Y) {j : Nat} {tt : TT} {te : TE} {σ : L2.St} {H1 : Hp} {D : Addr} {Qd : Hp → Prop}
    (f : Nat → V) (p : Nat → Bool) (g : Nat → V) (hD : H1 D = none) (hn : n ≤ sizeLine)
    (hY : ∀ i H x H', i < n → Y i H x H' → H' = H ∧ x = f i) (hG : ∀ H, Ext H1 H → G H)
    (ht : ∀ i H, i < n → Ext H1 H → ∀ Q : Bool → Hp → Prop, Q (p i) H → tt ((wipe σ [j]).set j (some (f i))) H Q)
    (he : ∀ i H, i < n → p i = true → Ext H1 H → ∀ Q : VK, Q (g i) H → te ((wipe σ [j]).set j (some (f i))) H Q)
    (hd : Qd (upd H1 D (.lst (((List.range n).filter p).map g)))) :
    ∃ W : Nat → Nat → Hp → Prop, (∃ m, W 0 m (upd H1 D (.lst []))) ∧ ∀ i m H, W i m H →
      (J.stop i H ∧ Qd H) ∨ (J.go i H ∧ ∃ Nx : Hp → Prop, (∀ H', Nx H' → ∃ m', m' < m ∧ W (i + 1) m' H') ∧ ∀ x H', J.yld i H x H' → gName j x (wipe σ [j]) H' fun σ2 H2 => wipe σ2 [j] = wipe σ [j] ∧ tt σ2 H2 fun b H3 =>
        if b = true then te σ2 H3 fun y H4 => ∃ acc, H4 D = some (.lst acc) ∧ acc.length < sizeLine ∧ Nx (upd H4 D (.lst (acc ++ [y]))) else Nx H3) := by
  have ex : ∀ o, Ext H1 (upd H1 D o) := fun o => Ext.new hD
  refine lc_it w (fun i H => H = upd H1 D (.lst (((List.range i).filter p).map g))) rfl (by rintro i H _ rfl; exact hG _ (ex _)) ?_ (by rintro H rfl; exact hd)
  rintro i x H H' hi rfl y
  obtain ⟨rfl, rfl⟩ := hY i _ _ _ hi y
  have hw : wipe ((wipe σ [j]).set j (some (f i))) [j] = wipe σ [j] := by
    show ((σ.set j none).set j (some (f i))).set j none = σ.set j none
    rw [List.set_set, List.set_set]
  refine ⟨hw, ht i _ hi (ex _) _ ?_⟩
  cases hp : p i with
  | true =>
    rw [if_pos rfl]
    refine he i _ hi hp (ex _) _ ?_
    refine ⟨_, upd_same, ?_, ?_⟩
    · rw [List.length_map]
      have h1 := List.length_filter_le p (List.range i)
      rw [List.length_range] at h1
      omega
    · rw [upd_upd, List.range_succ, List.filter_append, List.map_append]
      rw [show [i].filter p = [i] by rw [List.filter_cons, if_pos hp, List.filter_nil]]
      rfl
  | false =>
    rw [if_neg Bool.false_ne_true, List.range_succ, List.filter_append]
    rw [show [i].filter p = [] by rw [List.filter_cons, if_neg (by rw [hp]; exact Bool.false_ne_true), List.filter_nil]]
    rw [List.append_nil]

/-- sign i of a text -/
def sg (x : Str) (i : Nat) : V := .str ⟨#[x.cps.toList.getD i 0]⟩
theorem its_sg {x : Str} : ∀ (i : Nat) (H : Hp) (v : V) (H' : Hp), i < x.cps.size → (H' = H ∧ ∃ c, x.cps[i]? = some c ∧ v = V.str ⟨#[c]⟩) → H' = H ∧ v = sg x i := by
  rintro i H v H' hi ⟨rfl, c, hc, rfl⟩
  refine ⟨rfl, ?_⟩
  unfold sg
  rw [List.getD_eq_getElem?_getD, Array.getElem?_toList, hc]
  rfl
theorem map_range_getD {α : Type} (h : Nat → α) : ∀ l : List Nat, (List.range l.length).map (fun i => h (l.getD i 0)) = l.map h
  | [] => rfl
  | a :: l => by
    rw [List.length_cons, List.range_succ_eq_map, List.map_cons, List.map_map, List.map_cons]
    congr 1
    exact map_range_getD h l
theorem filter_map_getD (p : Nat → Bool) : ∀ l : List Nat, ((List.range l.length).filter fun i => p (l.getD i 0)).map (fun i => l.getD i 0) = l.filter p
  | [] => rfl
  | a :: l => by
    rw [List.length_cons, List.range_succ_eq_map, List.filter_cons, List.filter_cons, List.filter_map]
    have ih := filter_map_getD p l
    by_cases h : p a = true
    · rw [if_pos h, if_pos (show p ((a :: l).getD 0 0) = true from h), List.map_cons, List.map_map]
      congr 1
    · rw [if_neg h, if_neg (show ¬ p ((a :: l).getD 0 0) = true from h), List.map_map]
      exact ih

/-! ### data, and what the package asks of any value -/
def tyD : PyData → String
  | .none => "NoneType"
  | .bool _ => "bool"
  | .int _ => "int"
  | .str _ => "str"
  | .list _ => "list"
  | .tuple _ => "tuple"
  | .dict _ => "dict"
theorem ty_of {K : PySem.W.Frag} {H : Hp} {v : V} {d : PyData} (h : Dq H v d) : TyX K H v (.type (tyD d)) := by
  cases h with
  | non => exact .base .non
  | bl b => exact .base (.bl b)
  | int i => exact .base (.int i)
  | str x => exact .base (.str x)
  | lst h _ => exact .base (.lst h)
  | tup h _ => exact .base (.tup h)
  | dct h _ => exact .base (.dK h)
def kI : PyData → Bool
  | .int _ => true
  | .bool _ => true
  | _ => false
def kB : PyData → Bool
  | .bool _ => true
  | _ => false
def kS : PyData → Bool
  | .str _ => true
  | _ => false
def kT : PyData → Bool
  | .tuple _ => true
  | _ => false
def kL : PyData → Bool
  | .list _ => true
  | _ => false
def kD : PyData → Bool
  | .dict _ => true
  | _ => false
section
variable {K : PySem.W.Frag}
theorem ki_int (d : PyData) : PySem.W.kitOne K (.type (tyD d)) (.type "int") = some (kI d) := by
  cases d <;> (simp only [tyD, kI]; exact kit_ty (by decide +kernel))
theorem ki_bool (d : PyData) : PySem.W.kitOne K (.type (tyD d)) (.type "bool") = some (kB d) := by
  cases d <;> (simp only [tyD, kB]; exact kit_ty (by decide +kernel))
theorem ki_str (d : PyData) : PySem.W.kitOne K (.type (tyD d)) (.type "str") = some (kS d) := by
  cases d <;> (simp only [tyD, kS]; exact kit_ty (by decide +kernel))
theorem ki_tuple (d : PyData) : PySem.W.kitOne K (.type (tyD d)) (.type "tuple") = some (kT d) := by
  cases d <;> (simp only [tyD, kT]; exact kit_ty (by decide +kernel))
theorem ki_list (d : PyData) : PySem.W.kitOne K (.type (tyD d)) (.type "list") = some (kL d) := by
  cases d <;> (simp only [tyD, kL]; exact kit_ty (by decide +kernel))
theorem ki_dict (d : PyData) : PySem.W.kitOne K (.type (tyD d)) (.type "dict") = some (kD d) := by
  cases d <;> (simp only [tyD, kD]; exact kit_ty (by decide +kernel))
end
def isIntD : PyData → Bool
  | .int _ => true
  | _ => false
theorem isIntD_eq (d : PyData) : isIntD d = (kI d && !kB d) := by cases d <;> rfl
def isNumD : PyData → Bool
  | .int i => decide (0 ≤ i)
  | _ => false
def abc : Str := "abcdefghijklmnopqrstuvwxyz"
def isNameS (x : Str) : Bool := decide (1 ≤ x.length ∧ x.length ≤ 8) && x.cps.toList.all fun c => decide (c ∈ abc.cps.toList)
def isNameD : PyData → Bool
  | .str x => isNameS x
  | _ => false
def isWordS (x : Str) : Bool := decide (x = "close" ∨ x = "ended" ∨ x = "send" ∨ x = "take")
def isWordD : PyData → Bool
  | .str x => isWordS x
  | _ => false
def isElseD : PyData → Bool
  | .str x => decide (x = "else")
  | _ => false
def isArmD : PyData → Bool
  | .tuple [a, b] => isElseD a && isNumD b
  | .tuple [a, b, c] => isWordD a && (isNameD b && isNumD c)
  | _ => false
theorem dq_int {H : Hp} {v : V} {d : PyData} (h : Dq H v d) (e : isIntD d = true) : ∃ i, v = .int i ∧ d = .int i := by
  cases h with
  | int i => exact ⟨i, rfl, rfl⟩
  | _ => cases e
theorem dq_str {H : Hp} {v : V} {d : PyData} (h : Dq H v d) (e : kS d = true) : ∃ x, v = .str x ∧ d = .str x := by
  cases h with
  | str x => exact ⟨x, rfl, rfl⟩
  | _ => cases e
theorem dq_tup {H : Hp} {v : V} {d : PyData} (h : Dq H v d) (e : kT d = true) : ∃ a xs ds, v = .ref a ∧ d = .tuple ds ∧ H a = some (.tup xs) ∧ DqAll H xs ds := by
  cases h with
  | tup h t => exact ⟨_, _, _, rfl, rfl, h, t⟩
  | _ => cases e

/-- a def that tells something of any data (of which C holds) -/
def spPred (C : PyData → Prop) (p : PyData → Bool) : Sp := fun vs H Q _ => ∃ v d, vs = [v] ∧ Dq H v d ∧ C d ∧
  ∀ H', Ext H H' → Q (.bl (p d)) H'
/-- a plain text of bounded length -/
def Tx (x : Str) : Prop := x.length ≤ 1000 ∧ ∀ c ∈ x.cps.toList, c < 128
def Ok1 (d : PyData) : Prop := ∀ x, d = .str x → Tx x
def OkT (d : PyData) : Prop := ∀ ds e, d = .tuple ds → e ∈ ds → Ok1 e
def Any (_ : PyData) : Prop := True

/-- the signs of a text asked one by one -/
theorem signs_all (x : Str) (p : Nat → Bool) : ((List.range x.cps.size).filter (fun _ => true)).map (fun i => V.bl (p (x.cps.toList.getD i 0))) = (x.cps.toList.map p).map V.bl := by
  rw [List.filter_eq_self.mpr (fun _ _ => rfl)]
  have h := map_range_getD (fun c => V.bl (p c)) x.cps.toList
  rw [Array.length_toList] at h
  rw [h, List.map_map]
  rfl
theorem signs_filter (x : Str) (p : Nat → Bool) : ((List.range x.cps.size).filter (fun i => p (x.cps.toList.getD i 0))).map (sg x) = (x.cps.toList.filter p).map fun c => V.str ⟨#[c]⟩ := by
  have h := filter_map_getD p x.cps.toList
  rw [Array.length_toList] at h
  rw [← h, List.map_map]
  rfl
theorem kS_not {d : PyData} (h : (!kS d) = true) : isNameD d = false := by
  cases d with
  | str x => cases h
  | _ => rfl
theorem kS_yes {d : PyData} (h : ¬ (!kS d) = true) : kS d = true := by
  cases e : kS d with
  | true => rfl
  | false => rw [e] at h; exact absurd rfl h
theorem isNameS_short {x : Str} (h : ¬ (1 ≤ x.length ∧ x.length ≤ 8)) : isNameS x = false := by
  unfold isNameS
  rw [decide_eq_false h, Bool.false_and]
theorem isNameS_long {x : Str} (h : 1 ≤ x.length ∧ x.length ≤ 8) : isNameS x = x.cps.toList.all fun c => decide (c ∈ abc.cps.toList) := by
  unfold isNameS
  rw [decide_eq_true h, Bool.true_and]
theorem all_id_map (p : Nat → Bool) : ∀ l : List Nat, (l.map p).all id = l.all p
  | [] => rfl
  | a :: l => by rw [List.map_cons, List.all_cons, List.all_cons, all_id_map p l]; rfl
theorem filter_empty_all (p : Nat → Bool) : ∀ l : List Nat, (l.filter fun c => !p c).isEmpty = l.all p
  | [] => rfl
  | a :: l => by
    rw [List.filter_cons, List.all_cons, ← filter_empty_all p l]
    cases p a <;> rfl
end Ol

set_option Elab.async false
set_option linter.all false
set_option maxRecDepth 100000
set_option maxHeartbeats 4000000
namespace Ol
open PySem PySem.Spec PyProof.Rows L2

/-- a def of the module, found by its name, and its promise -/
structure Ca (P : Program) (w : World) (K : PySem.W.Frag) (mg : Str → Option Value) (base : Heap)
    (k : Nat) (x : Str) (ps : List Str) (sp : Sp) : Prop where
  has : ∃ (f : Addr) (fd : FuncData), FnOk P w K mg base CX0 k f fd ps sp ∧ mg x = some (.ref f) ∧
    PySem.W.keepIn K (.ref f) = true ∧ Binds K fd ps []
/-- the same where no display is under way -/
structure Cg (P : Program) (w : World) (K : PySem.W.Frag) (mg : Str → Option Value) (base : Heap)
    (k : Nat) (x : Str) (ps : List Str) (sp : Sp) : Prop where
  has : ∃ (f : Addr) (fd : FuncData), FnG P w K mg base k f fd ps sp ∧ mg x = some (.ref f) ∧
    PySem.W.keepIn K (.ref f) = true ∧ Binds K fd ps []
section
variable {X : Cx} {k : Nat} {ps : List Str} {sp : Sp} {x : Str} {e : Expr} {es : List Expr} {t : TA} {p pos : Pos}
theorem pe_ca (C : Ca X.prog X.w X.K X.mg X.base k x ps sp) (hr : Room k X.A) (hg : Gl X x) (ha : PA X (e :: es) t)
    (hdb : (x == ("__debug__" : Str)) = false := by decide)
    (he : starEach (e :: es) X.env = (false, eval e X.env) :: starEach es X.env := by rfl)
    (hpl : (backTo pos (starEach es X.env)).any (·.1) = false := by rfl) :
    PE X (.Call (.Name x p) (e :: es) [] pos) (tCall sp [] E0 t) := by
  obtain ⟨f, fd, F, g, kp, b⟩ := C.has
  exact pe_call F hr hg g kp b .nil pass0 ha hdb he hpl
theorem pe_cg (C : Cg X.prog X.w X.K X.mg X.base k x ps sp) (hG : X.A.guards = some []) (hr : Room k X.A) (hg : Gl X x) (ha : PA X (e :: es) t)
    (hdb : (x == ("__debug__" : Str)) = false := by decide)
    (he : starEach (e :: es) X.env = (false, eval e X.env) :: starEach es X.env := by rfl)
    (hpl : (backTo pos (starEach es X.env)).any (·.1) = false := by rfl) :
    PE X (.Call (.Name x p) (e :: es) [] pos) (tCall sp [] E0 t) := by
  obtain ⟨f, fd, F, g, kp, b⟩ := C.has
  exact pe_callG F hG hr hg g kp b ha hdb he hpl
end

/-- == and != of data -/
def rEqQ : R2 := fun x y H Q => ∃ d e, Sys H ∧ Dq H x d ∧ Dq H y e ∧ SeqAt.shaped d = true ∧ SeqAt.shaped e = true ∧ Q (.bl (PyData.eqv d e)) H
def rNeQ : R2 := fun x y H Q => ∃ d e, Sys H ∧ Dq H x d ∧ Dq H y e ∧ SeqAt.shaped d = true ∧ SeqAt.shaped e = true ∧ Q (.bl (!PyData.eqv d e)) H
theorem op_eqQ {X : Cx} {k : Nat} (hr : Room k X.A) : OpR X (compareOp .Eq) rEqQ := by
  intro pins s σ H x y v u Q I rx ry h
  obtain ⟨d, e, S, hd, he, sd, se, q⟩ := h
  obtain ⟨as, r1, _⟩ := Dq.reads I S hd rx
  obtain ⟨bs, r2, _⟩ := Dq.reads I S he ry
  exact SeqAt.compareEq_shaped r1 r2 sd se hr.units ⟨.bl _, H, I, rfl, q⟩
theorem op_neQ {X : Cx} {k : Nat} (hr : Room k X.A) : OpR X (compareOp .NotEq) rNeQ := by
  intro pins s σ H x y v u Q I rx ry h
  obtain ⟨d, e, S, hd, he, sd, se, q⟩ := h
  obtain ⟨as, r1, _⟩ := Dq.reads I S hd rx
  obtain ⟨bs, r2, _⟩ := Dq.reads I S he ry
  exact SeqAt.compareNe_shaped r1 r2 sd se hr.units ⟨.bl _, H, I, rfl, q⟩

/-- data that may be shown -/
structure Fits (d : PyData) : Prop where
  sh : d.showable = true
  dep : d.depth ≤ 40
  len : d.shown.length ≤ sizeLine

/-- f(x, y) of two equal data gives True -/
def spAlike : Sp := fun vs H Q _ => ∃ v u d, vs = [v, u] ∧ Sys H ∧ Dq H v d ∧ Dq H u d ∧ SeqAt.shaped d = true ∧ Fits d ∧
  ∀ H', Ext H H' → Q (.bl true) H'
end Ol

set_option Elab.async false
set_option linter.all false
set_option maxRecDepth 100000
set_option maxHeartbeats 4000000
namespace Ol
open PySem PySem.Spec PyProof.Rows L2

/-- a new bag of a script's cells -/
def spBag0 (K : PySem.W.Frag) : Sp := fun vs H Q _ => ∃ (a : Addr) (ns : List Int), vs = [.ref a] ∧ SqL K H a (ns.map V.int) ∧ ns.length ≤ 1000 ∧
  ∀ (p c : Addr) (cs : List Int) (H' : Hp), H p = none → Ext H H' → H' p = some (.lst (bagL 0 1234567891 0 c)) → H' c = some (.lst (cs.map V.int)) → (∀ n ∈ cs, 0 ≤ n) → c ≠ p → Q (.ref p) H'
def spBag (K : PySem.W.Frag) : Sp := fun vs H Q _ => ∃ (a : Addr) (ns : List Int), vs = [.ref a] ∧ SqL K H a (ns.map V.int) ∧ ns.length ≤ 1000 ∧
  ∀ (p : Addr) (H' : Hp), Ext H H' → Bag H' p → Q (.ref p) H'
section
variable {P : Program} {w : World} {K : PySem.W.Frag} {mg : Str → Option Value} {base : Heap}
theorem hideBag {k : Nat} {f : Addr} {fd : FuncData} {ps : List Str} (F : FnOk P w K mg base CX0 k f fd ps (spBag0 K)) :
    FnOk P w K mg base CX0 k f fd ps (spBag K) := by
  refine ⟨?_, ?_⟩
  · rintro vs H Q E ⟨a, ns, rfl, h1, h2, q⟩
    exact F.len [.ref a] H (fun _ _ => True) E0 ⟨a, ns, rfl, h1, h2, fun _ _ _ _ _ _ _ _ _ _ => trivial⟩
  · rintro A outer s H args us vs Q E hr e0 hb rv ⟨a, ns, rfl, h1, h2, q⟩
    have run := F.run A outer s H args us [.ref a]
      (fun v H' => ∃ (p c : Addr) (cs : List Int), v = .ref p ∧ H p = none ∧ Ext H H' ∧ H' p = some (.lst (bagL 0 1234567891 0 c)) ∧ H' c = some (.lst (cs.map V.int)) ∧ (∀ n ∈ cs, 0 ≤ n) ∧ c ≠ p)
      E hr e0 hb rv ⟨a, ns, rfl, h1, h2, fun p c cs H' g1 g2 g3 g4 g5 g6 => ⟨p, c, cs, rfl, g1, g2, g3, g4, g5, g6⟩⟩
    refine codeAny_mono run ?_
    intro res s' h
    match res, h with
    | .error _, h => exact h.elim
    | .ok .next, h => exact h.elim
    | .ok .brk, h => exact h.elim
    | .ok .cont, h => exact h.elim
    | .ok (.ret u), h =>
      obtain ⟨v, H', os, bare, un, hok', rv', p, c, cs, rfl, g1, g2, g3, g4, g5, g6⟩ := h
      have mu' : Mut (H' p) := by
        rw [g3]
        trivial
      obtain ⟨_, its, n', r', eo'⟩ := hok' p _ g3
      have shape : ∃ y0 y1 y2, its = [.int 0 y0, .int 1234567891 y1, .int 0 y2, .ref c] := by
        cases r' with
        | cons q0 r' => cases r' with
          | cons q1 r' => cases r' with
            | cons q2 r' => cases r' with
              | cons q3 r' =>
                cases r'
                obtain ⟨y0, rfl⟩ := q0
                obtain ⟨y1, rfl⟩ := q1
                obtain ⟨y2, rfl⟩ := q2
                cases q3
                exact ⟨y0, y1, y2, rfl⟩
      obtain ⟨y0, y1, y2, rfl⟩ := shape
      have nw' : ObjOk P w (upd H' p (.ext (bagP p c))) s'.heap p (.ext (bagP p c)) := by
        refine ⟨⟨0, 1234567891, 0, y0, y1, y2, n', eo', by decide, by decide, by decide, by decide⟩, ⟨_, eo'⟩, ?_⟩
        rintro g g' ⟨z0, z1, z2, w0, w1, w2, n2, e2, i2⟩ hk
        exact ⟨z0, z1, z2, w0, w1, w2, n2, hk _ e2, i2⟩
      have ok2 := HOk.write hok' mu' (Or.inl rfl) (fun _ _ _ z => z) ⟨_, eo'⟩ nw'
      have un2 : Un (frs outer) [] H' (upd H' p (.ext (bagP p c))) s'.heap s'.heap := Un.write mu' (Or.inl rfl) (fun _ _ _ z => z) ⟨_, eo'⟩
      refine ⟨.ref p, upd H' p (.ext (bagP p c)), os, bare, un.trans un2, ok2, rv', q p _ (Ext.mut g2 g1) ⟨c, cs, upd_same, ?_, g5⟩⟩
      rw [upd_ne g6]
      exact g4
end

theorem map_range_getI (h : Int → V) : ∀ l : List Int, (List.range l.length).map (fun i => h (l.getD i 0)) = l.map h
  | [] => rfl
  | a :: l => by
    rw [List.length_cons, List.range_succ_eq_map, List.map_cons, List.map_map, List.map_cons]
    congr 1
    exact map_range_getI h l
theorem cut_ints (ns : List Int) (lo hi : Option Int) : ∃ cs : List Int, cutV (ns.map V.int) lo hi = cs.map V.int ∧ cs.length ≤ ns.length := by
  unfold cutV
  refine ⟨(ns.drop (HT.sIx (ns.map V.int).length 0 lo)).take (HT.sIx (ns.map V.int).length (ns.map V.int).length hi - HT.sIx (ns.map V.int).length 0 lo), ?_, ?_⟩
  · rw [List.map_take, List.map_drop]
  · rw [List.length_take, List.length_drop]
    omega
end Ol

set_option Elab.async false
set_option linter.all false
set_option maxRecDepth 100000
set_option maxHeartbeats 4000000
namespace Ol
open PySem PySem.Spec PyProof.Rows L2
open TL (tl joinL join_eq tl_join)

theorem tlen (x : Str) : x.length = (tl x).length := by
  show x.cps.size = x.cps.toList.length
  rw [Array.length_toList]
theorem tl_inj {x y : Str} (h : tl x = tl y) : x = y := by
  obtain ⟨⟨a⟩⟩ := x
  obtain ⟨⟨b⟩⟩ := y
  have h' : a = b := h
  rw [h']
theorem tl_app (x y : Str) : tl (x ++ y) = tl x ++ tl y := by
  show (x.cps ++ y.cps).toList = _
  rw [Array.toList_append]
theorem joinL_nil : ∀ ls : List (List Nat), joinL [] ls = ls.flatten
  | [] => rfl
  | [p] => by show p = [p].flatten; simp
  | p :: q :: r => by
    show p ++ ([] ++ joinL [] (q :: r)) = _
    rw [joinL_nil (q :: r), List.nil_append]
    rfl
def one (c : Nat) : Str := ⟨#[c]⟩
theorem join_signs (cs : List Nat) : tl (Txt.join "" (cs.map one)) = cs := by
  rw [join_eq, tl_join]
  show joinL [] _ = cs
  rw [joinL_nil, List.map_map]
  induction cs with
  | nil => rfl
  | cons a l ih =>
    rw [List.map_cons, List.flatten_cons, ih]
    rfl
theorem ones_len : ∀ cs : List Nat, ((cs.map one).map (·.length)).sum = cs.length
  | [] => rfl
  | a :: l => by
    rw [List.map_cons, List.map_cons, List.sum_cons, ones_len l, List.length_cons]
    show 1 + l.length = l.length + 1
    omega
theorem cut_drop (xs : List V) (t : Nat) : cutV xs (some (t : Int)) none = xs.drop t := by
  unfold cutV
  rw [HT.sIx_none, HT.sIx_nat]
  by_cases h : t ≤ xs.length
  · rw [Nat.min_eq_left h, List.take_of_length_le]
    rw [List.length_drop]
    exact Nat.le_refl _
  · rw [Nat.min_eq_right (by omega), Nat.sub_self, List.take_zero, List.drop_of_length_le (by omega)]
theorem cut_take (xs : List V) (t : Nat) : cutV xs none (some (t : Int)) = xs.take t := by
  unfold cutV
  rw [HT.sIx_none, HT.sIx_nat, Nat.sub_zero, List.drop_zero]
  by_cases h : t ≤ xs.length
  · rw [Nat.min_eq_left h]
  · rw [Nat.min_eq_right (by omega), List.take_of_length_le (Nat.le_refl _), List.take_of_length_le (by omega)]
theorem cutS_drop (z : Str) (t : Nat) : tl (cutS z (some (t : Int)) none) = (tl z).drop t := by
  unfold cutS
  rw [HT.sIx_none, HT.sIx_nat]
  have hl := tlen z
  show List.take _ _ = _
  by_cases h : t ≤ z.length
  · rw [Nat.min_eq_left h, List.take_of_length_le]
    rw [List.length_drop, hl]
    exact Nat.le_refl _
  · rw [Nat.min_eq_right (by omega), Nat.sub_self, List.take_zero, List.drop_of_length_le (by omega)]
theorem cutS_take (z : Str) (t : Nat) : tl (cutS z none (some (t : Int))) = (tl z).take t := by
  unfold cutS
  rw [HT.sIx_none, HT.sIx_nat, Nat.sub_zero]
  have hl := tlen z
  show List.take _ (List.drop 0 _) = _
  rw [List.drop_zero]
  by_cases h : t ≤ z.length
  · rw [Nat.min_eq_left h]
  · rw [Nat.min_eq_right (by omega), List.take_of_length_le (by rw [hl]; exact Nat.le_refl _), List.take_of_length_le (by omega)]

def abcL : List Nat := tl abc
theorem abc_at : ∀ r, r < 26 → abcL[r]? = some (97 + r) := by decide +kernel
theorem abc_mem {r : Nat} (h : r < 26) : 97 + r ∈ abcL := List.mem_of_getElem? (abc_at r h)
theorem abc_low : ∀ c ∈ abcL, c < 128 := by decide +kernel
theorem name_of {x : Str} (h1 : 1 ≤ (tl x).length) (h2 : (tl x).length ≤ 8) (h3 : ∀ c ∈ tl x, c ∈ abcL) : isNameS x = true := by
  rw [isNameS_long (by rw [tlen]; exact ⟨h1, h2⟩), List.all_eq_true]
  exact fun c hc => decide_eq_true (h3 c hc)
theorem name_tl {x : Str} (h : isNameS x = true) : 1 ≤ (tl x).length ∧ (tl x).length ≤ 8 ∧ ∀ c ∈ tl x, c ∈ abcL := by
  unfold isNameS at h
  rw [Bool.and_eq_true] at h
  have h1 := of_decide_eq_true h.1
  rw [tlen] at h1
  exact ⟨h1.1, h1.2, fun c hc => of_decide_eq_true (List.all_eq_true.mp h.2 c hc)⟩
theorem name_tx {x : Str} (h : isNameS x = true) : Tx x := by
  obtain ⟨_, h2, h3⟩ := name_tl h
  exact ⟨by rw [tlen]; omega, fun c hc => abc_low c (h3 c hc)⟩

/-- new names, all different -/
structure Names (ys : List Str) (m : Nat) : Prop where
  len : ys.length = m
  nd : ys.Nodup
  ok : ∀ y ∈ ys, isNameS y = true

def wordsA : Str := "send take ended close else first any step quit server back again where log a b ab ba z"
def wordsB : Str := " stuck seat sticks lane"
def wordL : List Str := ["send", "take", "ended", "close", "else", "first", "any", "step", "quit", "server", "back", "again", "where", "log", "a", "b", "ab", "ba", "z", "stuck", "seat", "sticks", "lane"]
theorem split_words : Txt.split (wordsA ++ wordsB) " " = wordL := by decide +kernel
theorem wordL_ok : ∀ y ∈ wordL, isNameS y = true := by decide +kernel
theorem wordL_rot : ∀ t, t < 20 → (wordL.drop t ++ wordL.take t).Nodup := by decide +kernel
theorem names0 (t m : Nat) (ht : t < 20) (hm : m ≤ 20) : Names ((wordL.drop t ++ wordL.take t).take m) m := by
  refine ⟨?_, (wordL_rot t ht).sublist (List.take_sublist _ _), fun y hy => ?_⟩
  · rw [List.length_take, List.length_append, List.length_drop, List.length_take]
    have e : wordL.length = 23 := rfl
    omega
  · have h := List.mem_of_mem_take hy
    rcases List.mem_append.mp h with h | h
    · exact wordL_ok y (List.mem_of_mem_drop h)
    · exact wordL_ok y (List.mem_of_mem_take h)
def let1 (t k : Nat) : Nat := 97 + (t + 3 * k) % 26
theorem names1 (t m : Nat) (hm : m ≤ 8) : Names ((List.range m).map fun k => one (let1 t k)) m := by
  refine ⟨by rw [List.length_map, List.length_range], ?_, ?_⟩
  · rw [List.nodup_iff_pairwise_ne, List.pairwise_map]
    refine (List.pairwise_lt_range (n := m)).imp_of_mem ?_
    intro a b ha hb hab e
    have ha := List.mem_range.mp ha
    have hb := List.mem_range.mp hb
    have e1 : [let1 t a] = [let1 t b] := congrArg tl e
    have e2 : let1 t a = let1 t b := by injection e1
    unfold let1 at e2
    omega
  · intro y hy
    obtain ⟨k, _, rfl⟩ := List.mem_map.mp hy
    refine name_of (Nat.le_refl 1) (by show 1 ≤ 8; decide) fun c hc => ?_
    have hc' : c ∈ [let1 t k] := hc
    rw [List.mem_singleton] at hc'
    rw [hc']
    exact abc_mem (Nat.mod_lt _ (by decide))
/-- the names of the third style, as texts with these signs -/
theorem names2 (cs : List Nat) (at_ t m : Nat) (f : Nat → Str) (hc1 : 1 ≤ cs.length) (hc7 : cs.length ≤ 7) (hc : ∀ c ∈ cs, c ∈ abcL) (hm : m ≤ 8) (ha : at_ ≤ cs.length)
    (hf : ∀ k, k < m → tl (f k) = cs.take at_ ++ [let1 t k] ++ cs.drop at_) : Names ((List.range m).map f) m := by
  refine ⟨by rw [List.length_map, List.length_range], ?_, ?_⟩
  · rw [List.nodup_iff_pairwise_ne, List.pairwise_map]
    refine (List.pairwise_lt_range (n := m)).imp_of_mem ?_
    intro a b ha hb hab e
    have ha := List.mem_range.mp ha
    have hb := List.mem_range.mp hb
    have e1 := congrArg tl e
    rw [hf a ha, hf b hb, List.append_assoc, List.append_assoc] at e1
    have e2 := List.append_cancel_left e1
    have e3 : let1 t a = let1 t b := by
      simp only [List.cons_append, List.nil_append, List.cons.injEq] at e2
      exact e2.1
    unfold let1 at e3
    omega
  · intro y hy
    obtain ⟨k, hk, rfl⟩ := List.mem_map.mp hy
    have hk := List.mem_range.mp hk
    refine name_of ?_ ?_ fun c hc' => ?_
    · rw [hf k hk]
      simp
      omega
    · rw [hf k hk]
      simp
      omega
    · rw [hf k hk] at hc'
      simp only [List.mem_append, List.mem_singleton] at hc'
      rcases hc' with (h | h) | h
      · exact hc c (List.mem_of_mem_take h)
      · rw [h]
        exact abc_mem (Nat.mod_lt _ (by decide))
      · exact hc c (List.mem_of_mem_drop h)
/-- texts of one sign each -/
theorem ones_of {n : Nat} {xs : List V} (h : xs.length = n) (hr : ∀ (i : Nat) (y : V), xs[i]? = some y → ∃ c, c ∈ abcL ∧ y = .str (one c)) :
    ∃ cs : List Nat, xs = (cs.map one).map V.str ∧ cs.length = n ∧ ∀ c ∈ cs, c ∈ abcL := by
  induction xs generalizing n with
  | nil => exact ⟨[], rfl, h, fun _ z => by cases z⟩
  | cons v xs ih =>
    obtain ⟨cs, e, hl, hc⟩ := ih (n := xs.length) rfl fun i y z => hr (i + 1) y (by rw [List.getElem?_cons_succ]; exact z)
    obtain ⟨c, hm, rfl⟩ := hr 0 v rfl
    refine ⟨c :: cs, by rw [e]; rfl, by rw [← h, List.length_cons, List.length_cons, hl], fun x hx => ?_⟩
    rcases List.mem_cons.mp hx with z | z
    · rw [z]
      exact hm
    · exact hc x z
/-- names drawn from a bag -/
def spNames : Sp := fun vs H Q _ => ∃ (a : Addr) (m : Int), vs = [.ref a, .int m] ∧ Bag H a ∧ 1 ≤ m ∧ m ≤ 8 ∧
  ∀ (p : Addr) (ys : List Str) (H' : Hp), Ext H H' → H p = none → H' p = some (.lst (ys.map V.str)) → Names ys m.toNat → Q (.ref p) H'
end Ol

set_option Elab.async false
set_option linter.all false
set_option maxRecDepth 100000
set_option maxHeartbeats 4000000
namespace Ol
open PySem PySem.Spec PyProof.Rows L2
open TL (tl)

/-! ### s * n, n small -/
def repS (z : Str) (n : Nat) : Str := if n = 0 then Str.empty else if n = 1 then z else ⟨(List.replicate n z.cps).foldl (· ++ ·) #[]⟩
def rRepS : R2 := fun x y H Q => ∃ (z : Str) (n : Nat), x = .str z ∧ y = .int (n : Int) ∧ n ≤ 1000 ∧ z.length = 1 ∧ (repS z n).length ≤ sizeLine ∧ Q (.str (repS z n)) H
theorem op_repS {X : Cx} : OpR X (binaryOp .Mult) rRepS := by
  intro pins s σ H x y v u Q I rx ry h
  obtain ⟨z, n, rfl, rfl, hn, hz, hl, q⟩ := h
  obtain ⟨t, rfl⟩ := rx
  obtain ⟨t', rfl⟩ := ry
  have tl0 : ¬ (n : Int) < 1 → ((n : Int) == 1 || z.length == 0) = false → Builtin.Str.tooLong (z.length * (n : Int).toNat) = false := by
    intro _ _
    unfold Builtin.Str.tooLong
    exact decide_eq_false (by rw [hz]; show ¬ _ > 2 ^ 24; omega)
  refine PySem.P.mul_str ?_ ?_ tl0 ?_
  · rw [decide_eq_false (by omega), decide_eq_false (by omega)]
    rfl
  · intro h1 h2 h3
    have h4 : 0 < (n : Int) := by omega
    have h5 : ((2 : Int) ^ 63 - 1) / n ≥ 1 := Int.le_ediv_of_mul_le h4 (by omega)
    rw [hz] at h3
    omega
  · by_cases h0 : n = 0
    · subst h0
      exact ⟨by decide, .str Str.empty, H, I.tok _, ⟨_, rfl⟩, q⟩
    · rw [if_neg (by omega)]
      by_cases h1 : n = 1
      · subst h1
        rw [if_pos (show (((1 : Nat) : Int) == 1 || z.length == 0) = true from rfl)]
        exact ⟨.str z, H, I, ⟨_, rfl⟩, q⟩
      · have hf : ((n : Int) == 1 || z.length == 0) = false := by
          rw [hz, Bool.or_eq_false_iff]
          exact ⟨beq_eq_false_iff_ne.mpr (by omega), rfl⟩
        rw [hf, if_neg Bool.false_ne_true]
        have e : repS z n = ⟨(List.replicate (n : Int).toNat z.cps).foldl (· ++ ·) #[]⟩ := by
          unfold repS
          rw [if_neg h0, if_neg h1]
          rfl
        rw [e] at q hl
        exact ⟨hl, .str _, H, I.tok _, ⟨_, rfl⟩, q⟩

def far (n : Nat) : Str := "1" ++ repS "0" n
theorem far_int : ∀ n, n < 40 → PySem.intText? (far n) = some (10 ^ n) := by decide +kernel
theorem far_len : ∀ n, n < 40 → (far n).length ≤ 640 ∧ (repS "0" n).length ≤ 1000 := by decide +kernel
theorem pow_fit : ∀ n, n < 40 → ((10 : Int) ^ n).natAbs.log2 < 1920 ∧ (-(10 : Int) ^ n).natAbs.log2 < 1920 := by decide +kernel
theorem pow_len : ∀ n, n < 40 → ((toString ((10 : Int) ^ n) : String) : Str).length ≤ 200 ∧ ((toString (-(10 : Int) ^ n) : String) : Str).length ≤ 200 := by decide +kernel

/-! ### sizes of what is shown -/
theorem pile_le {B : Nat} : ∀ ts : List Str, (∀ t ∈ ts, t.length ≤ B) → piled ts ≤ ts.length * (B + 2)
  | [], _ => Nat.zero_le _
  | t :: ts, h => by
    rw [piled_cons, List.length_cons, Nat.succ_mul]
    have h1 := h t List.mem_cons_self
    have h2 := pile_le ts fun x hx => h x (List.mem_cons_of_mem _ hx)
    omega
theorem join_le (ts : List Str) : (Str.join ", " ts).length ≤ piled ts := by
  by_cases h : ts = []
  · subst h
    exact Nat.zero_le _
  · have := join_length_add ts h
    omega
theorem listText_le (ts : List Str) : (listText ts).length ≤ piled ts + 2 := by
  have e1 : ((("[" : String) : Str)).length = 1 := rfl
  have e2 : ((("]" : String) : Str)).length = 1 := rfl
  rw [listText_eq_join, strLen_append, strLen_append, e1, e2]
  have := join_le ts
  omega
theorem tupleText_le (ts : List Str) : (tupleText ts).length ≤ piled ts + 3 := by
  have e3 : (((if ts.length == 1 then ",)" else ")" : String) : Str)).length ≤ 2 := by split <;> decide +kernel
  have e1 : ((("(" : String) : Str)).length = 1 := rfl
  unfold tupleText
  rw [strLen_append, strLen_append, e1]
  have := join_le ts
  omega
theorem dictText_le (ts : List Str) : (dictText ts).length ≤ piled ts + 2 := by
  have e1 : ((("{" : String) : Str)).length = 1 := rfl
  have e2 : ((("}" : String) : Str)).length = 1 := rfl
  unfold dictText
  rw [strLen_append, strLen_append, e1, e2]
  have := join_le ts
  omega

/-! ### data as a law draws it: how deep, how long when shown -/
structure Gd (n : Nat) (d : PyData) : Prop where
  sh : d.showable = true
  dep : d.depth ≤ n + 1
  len : d.shown.length ≤ 200 * 8 ^ n
  ok1 : Ok1 d
  okt : OkT d
theorem Gd.up {n m : Nat} {d : PyData} (g : Gd n d) (h : n ≤ m) : Gd m d :=
  ⟨g.sh, Nat.le_trans g.dep (by omega), Nat.le_trans g.len (Nat.mul_le_mul_left _ (Nat.pow_le_pow_right (by decide) h)), g.ok1, g.okt⟩
theorem Gd.fits {n : Nat} {d : PyData} (g : Gd n d) (h : n ≤ 5) : Fits d :=
  ⟨g.sh, Nat.le_trans g.dep (by omega), Nat.le_trans (g.up h).len (by decide)⟩
theorem nope1 {d : PyData} (h : kS d = false) : Ok1 d := fun x e => by rw [e] at h; cases h
theorem nopeT {d : PyData} (h : kT d = false) : OkT d := fun ds e z _ => by rw [z] at h; cases h
theorem gd_non : Gd 0 .none := ⟨by simp [PyData.showable], by simp [PyData.depth], by decide +kernel, nope1 rfl, nopeT rfl⟩
theorem gd_bl (b : Bool) : Gd 0 (.bool b) := ⟨by simp [PyData.showable], by simp [PyData.depth], by cases b <;> decide +kernel, nope1 rfl, nopeT rfl⟩
theorem gd_int (i : Int) (h1 : i.natAbs.log2 < 1920) (h2 : ((toString i : String) : Str).length ≤ 200) : Gd 0 (.int i) :=
  ⟨by simpa [PyData.showable] using h1, by simp [PyData.depth], by simpa [PyData.shown] using h2, nope1 rfl, nopeT rfl⟩
theorem gd_str (x : Str) (h1 : x.length ≤ 19) (h2 : ∀ c ∈ tl x, c < 128) : Gd 0 (.str x) := by
  refine ⟨by simp [PyData.showable], by simp [PyData.depth], ?_, fun y e => ?_, nopeT rfl⟩
  · simp only [PyData.shown]
    have h := StrLaws.reprText_len x fun c hc => Nat.lt_of_lt_of_le (h2 c hc) (by decide)
    omega
  · cases e
    exact ⟨by omega, h2⟩
theorem pow8 (n : Nat) : 200 ≤ 200 * 8 ^ n := Nat.le_mul_of_pos_right _ (Nat.pow_pos (by decide))
theorem all_sh {n : Nat} : ∀ {ds : List PyData}, (∀ d ∈ ds, Gd n d) → PyData.showableAll ds = true ∧ PyData.depthAll ds ≤ n + 1 ∧ (∀ t ∈ PyData.shownAll ds, t.length ≤ 200 * 8 ^ n) ∧ (PyData.shownAll ds).length = ds.length
  | [], _ => ⟨by simp [PyData.showableAll], by simp [PyData.depthAll], fun t h => by simp [PyData.shownAll] at h, by simp [PyData.shownAll]⟩
  | d :: ds, h => by
    have g := h d List.mem_cons_self
    obtain ⟨h1, h2, h3, h4⟩ := all_sh fun x hx => h x (List.mem_cons_of_mem _ hx)
    refine ⟨by simp [PyData.showableAll, g.sh, h1], ?_, fun t ht => ?_, by simp [PyData.shownAll, h4]⟩
    · simp only [PyData.depthAll]
      exact Nat.max_le.mpr ⟨g.dep, h2⟩
    · simp only [PyData.shownAll] at ht
      rcases List.mem_cons.mp ht with e | e
      · rw [e]
        exact g.len
      · exact h3 t e
theorem gd_size {n : Nat} {ds : List PyData} (h : ∀ d ∈ ds, Gd n d) (h5 : ds.length ≤ 5) : piled (PyData.shownAll ds) + 3 ≤ 200 * 8 ^ (n + 1) := by
  obtain ⟨_, _, h3, h4⟩ := all_sh h
  have z := pile_le _ h3
  have p := pow8 n
  rw [h4] at z
  have z2 : ds.length * (200 * 8 ^ n + 2) ≤ 5 * (200 * 8 ^ n + 2) := Nat.mul_le_mul_right _ h5
  rw [Nat.pow_succ]
  omega
theorem gd_list {n : Nat} {ds : List PyData} (h : ∀ d ∈ ds, Gd n d) (h5 : ds.length ≤ 5) : Gd (n + 1) (.list ds) := by
  obtain ⟨h1, h2, _, _⟩ := all_sh h
  have z := gd_size h h5
  refine ⟨by simpa [PyData.showable] using h1, by simp only [PyData.depth]; omega, ?_, nope1 rfl, nopeT rfl⟩
  simp only [PyData.shown]
  have := listText_le (PyData.shownAll ds)
  omega
theorem gd_tuple {n : Nat} {ds : List PyData} (h : ∀ d ∈ ds, Gd n d) (h5 : ds.length ≤ 5) : Gd (n + 1) (.tuple ds) := by
  obtain ⟨h1, h2, _, _⟩ := all_sh h
  have z := gd_size h h5
  refine ⟨by simpa [PyData.showable] using h1, by simp only [PyData.depth]; omega, ?_, nope1 rfl, fun es e he hm => ?_⟩
  · simp only [PyData.shown]
    have := tupleText_le (PyData.shownAll ds)
    omega
  · cases he
    exact (h e hm).ok1
theorem gd_nil : Gd 0 (.list []) := ⟨by simp [PyData.showable, PyData.showableAll], by simp [PyData.depth, PyData.depthAll], by decide +kernel, nope1 rfl, nopeT rfl⟩
theorem gd_tnil : Gd 0 (.tuple []) := ⟨by simp [PyData.showable, PyData.showableAll], by simp [PyData.depth, PyData.depthAll], by decide +kernel, nope1 rfl, fun ds e he hm => by cases he; cases hm⟩
theorem gd_dnil : Gd 0 (.dict []) := ⟨by simp [PyData.showable, PyData.showableKv], by simp [PyData.depth, PyData.depthKv], by decide +kernel, nope1 rfl, nopeT rfl⟩
theorem gd_dict1 {n : Nat} {d : PyData} (g : Gd n d) : Gd (n + 1) (.dict [(.str "a", d)]) := by
  refine ⟨by simp [PyData.showable, PyData.showableKv, g.sh], ?_, ?_, nope1 rfl, nopeT rfl⟩
  · simp only [PyData.depth, PyData.depthKv]
    have := g.dep
    omega
  · simp only [PyData.shown, PyData.shownKv]
    have h1 := dictText_le [reprText "a" ++ ": " ++ d.shown]
    have h2 : piled [reprText "a" ++ ": " ++ d.shown] = (reprText "a" ++ ": " ++ d.shown).length + 2 := by simp [piled]
    have h3 : (reprText "a" ++ ": " ++ d.shown).length = 5 + d.shown.length := by
      rw [strLen_append, strLen_append]
      have e : (reprText "a").length = 3 := by decide +kernel
      have e2 : ((": " : Str)).length = 2 := rfl
      omega
    have h4 := g.len
    have p := pow8 n
    rw [Nat.pow_succ]
    omega
/-- a value that stands for such data -/
def Th (n : Nat) (v : V) (H : Hp) : Prop := ∃ d, Dq H v d ∧ Gd n d
theorem Th.up {n m : Nat} {v : V} {H H' : Hp} (h : Th n v H) (e : Ext H H') (hn : n ≤ m) : Th m v H' := by
  obtain ⟨d, h1, h2⟩ := h
  exact ⟨d, h1.up e, h2.up hn⟩
/-- a list of such values -/
theorem th_all {n : Nat} {H : Hp} : ∀ {xs : List V}, (∀ x ∈ xs, Th n x H) → ∃ ds, DqAll H xs ds ∧ (∀ d ∈ ds, Gd n d) ∧ ds.length = xs.length
  | [], _ => ⟨[], .nil, (fun _ h => nomatch h), rfl⟩
  | x :: xs, h => by
    obtain ⟨d, h1, h2⟩ := h x List.mem_cons_self
    obtain ⟨ds, h3, h4, h5⟩ := th_all fun y hy => h y (List.mem_cons_of_mem _ hy)
    refine ⟨d :: ds, .cons h1 h3, fun e he => ?_, by rw [List.length_cons, List.length_cons, h5]⟩
    rcases List.mem_cons.mp he with z | z
    · rw [z]
      exact h2
    · exact h4 e z
theorem th_list {n : Nat} {H : Hp} {p : Addr} {xs : List V} (hp : H p = some (.lst xs)) (h : ∀ x ∈ xs, Th n x H) (h5 : xs.length ≤ 5) : Th (n + 1) (.ref p) H := by
  obtain ⟨ds, h1, h2, h3⟩ := th_all h
  exact ⟨_, .lst hp h1, gd_list h2 (by omega)⟩
theorem th_tuple {n : Nat} {H : Hp} {p : Addr} {xs : List V} (hp : H p = some (.tup xs)) (h : ∀ x ∈ xs, Th n x H) (h5 : xs.length ≤ 5) : Th (n + 1) (.ref p) H := by
  obtain ⟨ds, h1, h2, h3⟩ := th_all h
  exact ⟨_, .tup hp h1, gd_tuple h2 (by omega)⟩
/-- a text drawn from a bag -/
def spText : Sp := fun vs H Q _ => ∃ (a : Addr), vs = [.ref a] ∧ Bag H a ∧ ∀ (x : Str) (H' : Hp), Ext H H' → x.length ≤ 19 → (∀ c ∈ tl x, c < 128) → Q (.str x) H'
/-- a value drawn from a bag, so deep -/
def spPart (n : Nat) : Sp := fun vs H Q _ => ∃ (a : Addr), vs = [.ref a, .int (n : Int)] ∧ Bag H a ∧ ∀ (v : V) (H' : Hp), Ext H H' → Th (2 * n) v (nw H H') → Q v H'
def spThing : Sp := fun vs H Q _ => ∃ (a : Addr), vs = [.ref a] ∧ Bag H a ∧ ∀ (v : V) (H' : Hp), Ext H H' → Th 5 v H' → Q v H'
end Ol

set_option Elab.async false
set_option linter.all false
set_option maxRecDepth 100000
set_option maxHeartbeats 4000000
namespace Ol
open PySem PySem.Spec PyProof.Rows L2

/-- one statement of several -/
theorem cutW {X : Cx} {s : Stmt} {r : List Stmt} {D : Ends} (U W : L2.St → Hp → Prop)
    (h1 : ∃ t1, PS X s t1 ∧ ∀ nx : L2.St → Hp → Prop, (∀ σ' H', W σ' H' → nx σ' H') → ∀ σ H, U σ H → t1 { D with nx := nx } σ H)
    (h2 : ∃ t2, PSs X r t2 ∧ ∀ σ H, W σ H → t2 D σ H) : ∃ t, PSs X (s :: r) t ∧ ∀ σ H, U σ H → t D σ H := by
  obtain ⟨t2, d2, k2⟩ := h2
  obtain ⟨t1, d1, k1⟩ := h1
  exact ⟨_, pss_cons d1 d2, fun σ H u => k1 _ k2 σ H u⟩
theorem tyes {σ : L2.St} {H : Hp} {A B : Hp → Prop} (h : A H) : tYes σ H (fun b H3 => if b = true then A H3 else B H3) := by
  unfold tYes
  dsimp only
  rw [if_pos rfl]
  exact h
/-- any list comprehension of one clause: P holds of the turn, the list so far, and what is new -/
theorem lc_acc {J : It} {n : Nat} {G : Hp → Prop} {Y : Nat → Hp → V → Hp → Prop} (w : Walk J n G Y) {g : TG} {tt : TT} {te : TE} {vs : List Nat} {σ : L2.St} {H1 : Hp} {D : Addr} {Qd : Hp → Prop}
    (P : Nat → List V → Hp → Prop) (up : ∀ i xs H H', Ext H H' → P i xs H → P i xs H') (h0 : P 0 [] (fun _ => none)) (hD : H1 D = none)
    (hlen : ∀ i xs H, P i xs H → xs.length ≤ i) (hn : n ≤ sizeLine) (hG : ∀ H, Ext H1 H → G H)
    (hs : ∀ i x H H' xs, i < n → Ext H1 H → Y i H x H' → P i xs (nw (upd H1 D (.lst [])) H) →
      ∀ (QY : V → Hp → Prop) (QN : Hp → Prop),
        (∀ y H4, Ext H H4 → ((∀ Hz, Ext (nw H H4) Hz → P i xs Hz → P (i + 1) (xs ++ [y]) Hz)) → QY y H4) →
        (∀ H4, Ext H H4 → (∀ Hz, P i xs Hz → P (i + 1) xs Hz) → QN H4) →
        g x (wipe σ vs) H' fun σ2 H2 => wipe σ2 vs = wipe σ vs ∧ tt σ2 H2 fun b H3 => if b = true then te σ2 H3 QY else QN H3)
    (hd : ∀ H xs, Ext H1 H → H D = some (.lst xs) → P n xs (nw H1 H) → Qd H) :
    ∃ W : Nat → Nat → Hp → Prop, (∃ m, W 0 m (upd H1 D (.lst []))) ∧ ∀ i m H, W i m H →
      (J.stop i H ∧ Qd H) ∨ (J.go i H ∧ ∃ Nx : Hp → Prop, (∀ H', Nx H' → ∃ m', m' < m ∧ W (i + 1) m' H') ∧ ∀ x H', J.yld i H x H' → g x (wipe σ vs) H' fun σ2 H2 => wipe σ2 vs = wipe σ vs ∧ tt σ2 H2 fun b H3 =>
        if b = true then te σ2 H3 fun y H4 => ∃ acc, H4 D = some (.lst acc) ∧ acc.length < sizeLine ∧ Nx (upd H4 D (.lst (acc ++ [y]))) else Nx H3) := by
  let Hs : Hp := upd H1 D (.lst [])
  have hsD : Hs D = some (.lst []) := upd_same
  have e1 : Ext H1 Hs := Ext.new hD
  refine lc_it w (fun i H => ∃ xs, Ext H1 H ∧ H D = some (.lst xs) ∧ P i xs (nw Hs H))
    ⟨[], e1, hsD, up 0 [] _ _ (fun _ o z => by have z' : (none : Option HO) = some o := z; cases z') h0⟩ (by rintro i H _ ⟨xs, e, _⟩; exact hG H e) ?_ ?_
  · rintro i x H H' hi ⟨xs, e, hx, hp⟩ y
    have dom : ∀ b, H b = none → Hs b = none := by
      intro b q
      have z : b ≠ D := fun z => by rw [z, hx] at q; cases q
      rw [show Hs b = H1 b from upd_ne z]
      exact e.free q
    refine hs i x H H' xs hi e y hp _ _ ?_ ?_
    · intro v H4 e4 k
      refine ⟨xs, e4 _ _ hx, by have := hlen _ _ _ hp; omega, xs ++ [v], Ext.mut (e.trans e4) hD, upd_same, ?_⟩
      have toN : Ext (nw Hs H4) (nw Hs (upd H4 D (.lst (xs ++ [v])))) := nw_mut hsD
      exact k _ ((nw_dom dom).trans toN) (up _ _ _ _ ((nw_up e4).trans toN) hp)
    · intro H4 e4 k
      exact ⟨xs, e.trans e4, e4 _ _ hx, k _ (up _ _ _ _ (nw_up e4) hp)⟩
  · rintro H ⟨xs, e, hx, hp⟩
    exact hd H xs e hx (up _ _ _ _ (nw_base e1) hp)
end Ol

set_option Elab.async false
set_option linter.all false
set_option maxRecDepth 100000
set_option maxHeartbeats 4000000
namespace Ol
open PySem PySem.Spec PyProof.Rows L2

/-- x in o, o an instance of a class with its own __contains__ -/
def rInO (C : Addr) (sp : Sp) : R2 := fun x y H Q => ∃ (a dx : Addr) (fs : List (Str × V)), y = .ref a ∧ H a = some (.ins C dx fs) ∧
  sp [.ref a, x] H (fun v H' => ∃ b, v = .bl b ∧ Q (.bl b) H') E0
def rNotInO (C : Addr) (sp : Sp) : R2 := fun x y H Q => ∃ (a dx : Addr) (fs : List (Str × V)), y = .ref a ∧ H a = some (.ins C dx fs) ∧
  sp [.ref a, x] H (fun v H' => ∃ b, v = .bl b ∧ Q (.bl (!b)) H') E0
section
variable {X : Cx} {k : Nat} {C f : Addr} {fd : FuncData} {ps : List Str} {sp : Sp}
theorem op_inO (F : FnOk X.prog X.w X.K X.mg X.base CX0 k f fd ps sp) (hr : Room k X.A) (hs : PySem.W.findIn X.K (.ref C) "__contains__" = some (some (.ref f)))
    (hf : PySem.W.isFn X.K (.ref f) = true) (b : Binds X.K fd ps []) : OpR X (compareOp .In) (rInO C sp) := by
  intro pins s σ H x y v u Q I rx ry h
  obtain ⟨a, dx, fs, rfl, ho, h⟩ := h
  cases ry
  obtain ⟨mA, O, _⟩ := ins_get I.hok ho
  obtain ⟨od, J, _⟩ := O.look
  obtain ⟨m, fr⟩ := I.fr
  refine PySem.W.in_K fr I.ok.mod.kin J hs hf ?_
  refine wpAny_mono (run_fn (us := [.ref a, v]) (vs := [.ref a, x]) (E := E0) F hr b .nil pass0 I (.cons rfl (.cons rx .nil)) h) ?_ (fun _ _ z => z)
  rintro r s' ⟨w, H', I', rw', b', rfl, q⟩
  cases rw'
  exact wpAny_truthy_bool ⟨.bl b', H', I', rfl, q⟩
theorem op_notInO (F : FnOk X.prog X.w X.K X.mg X.base CX0 k f fd ps sp) (hr : Room k X.A) (hs : PySem.W.findIn X.K (.ref C) "__contains__" = some (some (.ref f)))
    (hf : PySem.W.isFn X.K (.ref f) = true) (b : Binds X.K fd ps []) : OpR X (compareOp .NotIn) (rNotInO C sp) := by
  intro pins s σ H x y v u Q I rx ry h
  obtain ⟨a, dx, fs, rfl, ho, h⟩ := h
  cases ry
  obtain ⟨mA, O, _⟩ := ins_get I.hok ho
  obtain ⟨od, J, _⟩ := O.look
  obtain ⟨m, fr⟩ := I.fr
  refine PySem.W.notIn_K fr I.ok.mod.kin J hs hf ?_
  refine wpAny_mono (run_fn (us := [.ref a, v]) (vs := [.ref a, x]) (E := E0) F hr b .nil pass0 I (.cons rfl (.cons rx .nil)) h) ?_ (fun _ _ z => z)
  rintro r s' ⟨w, H', I', rw', b', rfl, q⟩
  cases rw'
  exact wpAny_truthy_bool ⟨.bl (!b'), H', I', rfl, q⟩
end
end Ol

set_option Elab.async false
set_option linter.all false
set_option maxRecDepth 100000
set_option maxHeartbeats 4000000
namespace Ol
open PySem PySem.Spec PyProof.Rows L2

/-! ### enumerate(t), t a tuple -/
theorem meets_enumerate_new1 {v : Value} {o : Obj} {H : Heap → Prop} (B : Begins v o H) :
    Meets (Builtin.«enumerate.__new__» ⟨[.type "enumerate", v], []⟩) (fun _ R s => H s.heap ∧
      R (.ok (.ret (.ref (s.heap.push o).objs.size))) { s with heap := (s.heap.push o).push { cls := .type "enumerate", data := .fields #[.none, .bool false, .ref s.heap.objs.size, rawInt 0, .none, .none] } }) :=
  .of_wp fun prog w A R s h => by
    obtain ⟨hp, g, d, tk, os⟩ := s
    obtain ⟨h1, h⟩ := h
    have hsub := sub_enumerate
    have q1 : ∀ {A' : Around} {E : Value → Shared → Prop} {Q : Value → Shared → Prop}, Q (.ref hp.objs.size) ⟨hp.push o, g, d, tk, os⟩ → wpAny (model prog w) A' (pyIter v) Q E ⟨hp, g, d, tk, os⟩ :=
      fun q => B.iter prog w _ _ ⟨hp, g, d, tk, os⟩ _ h1 q
    wp_walk using q1
    refine wpAny_stack_any fun st => wpAny_pure ?_
    split
    · rename_i c _ _ _ _ _
      cases (c == Value.type "enumerate")
      · wp_walk using q1
        exact ⟨_, rfl, h⟩
      · wp_walk using q1
        exact ⟨_, rfl, h⟩
    · wp_walk using q1
      exact ⟨_, rfl, h⟩
section
variable {prog : Program} {w : World} {A : Around} {E : Value → Shared → Prop} {s : Shared}
theorem enum_begins1 {v : Value} {o : Obj} {H : Heap → Prop} {Q : Value → Shared → Prop} (B : Begins v o H) (h1 : H s.heap)
    (h : ∀ h', IsEnum h' (s.heap.objs.size + 1) s.heap.objs.size 0 .none → h'.get? s.heap.objs.size = some o → h'.objs.size = s.heap.objs.size + 2 →
      (∀ b o, s.heap.get? b = some o → h'.get? b = some o) → Q (.ref (s.heap.objs.size + 1)) { s with heap := h' }) :
    wpAny (model prog w) A (call (.type "enumerate") [v]) Q E s := by
  refine callType_new F.called_enumerate (by decide) (F.typeCall_enumerate_1 _) (F.newCall_enumerate_1 _) (fun obj => F.args_object_init_2 obj _) F.entry_enumerate_new
    (meets_enumerate_new1 B) ⟨h1, ?_⟩
  have hz : (s.heap.push o).objs.size = s.heap.objs.size + 1 := Heap.size_push ..
  show _ ∧ _
  rw [hz]
  have he : IsEnum ((s.heap.push o).push { cls := .type "enumerate", data := .fields #[.none, .bool false, .ref s.heap.objs.size, rawInt 0, .none, .none] }) (s.heap.objs.size + 1) s.heap.objs.size 0 .none := by
    have := Heap.get?_push_size (s.heap.push o) (o := { cls := .type "enumerate", data := .fields #[.none, .bool false, .ref s.heap.objs.size, rawInt 0, .none, .none] }) rfl
    rw [hz] at this; exact this
  refine ⟨⟨_, he, rfl⟩, h _ he (Heap.get?_push_of_some _ (Heap.get?_push_size _ B.free)) (by rw [Heap.size_push, hz]) fun b o x => Heap.get?_push_of_some _ (Heap.get?_push_of_some _ x)⟩
end
/-- the tuple at a as it stands, each item with its place in a new pair -/
def IteT (K : PySem.W.Frag) (a : Addr) : It :=
  ⟨fun i H => ∃ (xs : List V) (x : V), SqT K H a xs ∧ xs[i]? = some x, fun i H v H' => ∃ T x, v = .ref T ∧ H T = none ∧ H' = upd H T (.tup [.int (i : Nat), x]) ∧ ∀ xs, SqT K H a xs → xs[i]? = some x, fun i H => ∃ xs : List V, SqT K H a xs ∧ xs.length ≤ i⟩
theorem turn_enumT {P : Program} {w : World} {K : PySem.W.Frag} {elts : List Expr} {kk : Nat} {tpos : Pos} (a e it : Addr) :
    Turn P w K (.Tuple elts kk tpos) (IteT K a) [e, it] e (fun i h => (∃ old, IsEnum h e it ((i : Nat) : Int) old) ∧ h.IsTupleIter it a i ∧ e ≠ it ∧ a ≠ it ∧ e ≠ a) where
  mem := by simp
  obj := fun i h st b hb => by
    obtain ⟨⟨old, he⟩, ⟨o, ho, hc, hd⟩, _⟩ := st
    have e' : b = e ∨ b = it := by simpa using hb
    rcases e' with z | z
    · rw [z]; exact ⟨_, he, fun v q => nomatch q⟩
    · rw [z]; exact ⟨o, ho, fun v q => by rw [hd] at q; cases q⟩
  keep := fun i h h' st k => let ⟨⟨old, he⟩, hi, hne⟩ := st; ⟨⟨old, k e (by simp) _ he⟩, hi.at fun o q => k it (by simp) o q, hne⟩
  item := by
    intro X hP hw hK hc i pins s σ H E I hf st hg
    subst hP hw hK
    obtain ⟨⟨old, he⟩, hit, hne, hai, hea⟩ := st
    obtain ⟨xs, x, hq, hx⟩ := hg
    obtain ⟨its, rv, p, hz⟩ := I.tuple hq
    obtain ⟨u, hu, ru⟩ := rv.get hx
    have hel : e < s.heap.objs.size := Heap.lt_size he
    have hil : it < s.heap.objs.size := by obtain ⟨_, q, _⟩ := hit; exact Heap.lt_size q
    have hlt : i < its.toArray.size := by have := rv.length; have := (List.getElem?_eq_some_iff.mp hx).1; simp; omega
    refine wpAny_pyNext_enum_itemD (Draws.tuple (A := X.A.in1) (show X.A.in1.handled = none from I.ok.hd hc) it a hai its.toArray) he ⟨hit, p⟩ hlt hne (by simp [hne, hea]) fun u' h' tk hu' ho st' hT hsz hk => ?_
    have eu : u' = u := by
      have z : its.toArray[i]? = some u := by simpa using hu
      rw [z] at hu'
      exact (Option.some.inj hu').symm
    subst eu
    refine ⟨_, rfl, wpAny_letOwnedTupleGo_enum (s := { s with heap := h', toks := tk + 1 }) ho fun h'' he' sb => ?_⟩
    have hT2 : h''.get? s.heap.objs.size = some { cls := .type "tuple", data := .seq #[.int i tk, u'] } := (sb.2 _ (Nat.ne_of_gt hel)).trans hT
    have new : ObjOk X.prog X.w (upd H s.heap.objs.size (.tup [.int (i : Nat), x])) h'' s.heap.objs.size (.tup [.int (i : Nat), x]) :=
      ⟨by show 2 ≤ sizeLine; decide, [.int i tk, u'], .cons ⟨_, rfl⟩ (.cons ru .nil), ⟨_, hT2, rfl, _, rfl⟩⟩
    have I1 : Inv X pins σ (upd H s.heap.objs.size (.tup [.int (i : Nat), x])) { s with heap := h'', toks := tk + 1 } :=
      I.turnedNew (ch := [e, it]) (fun b ob hb q => (sb.2 b (fun z => hb (by simp [z]))).trans (hk b ob (fun z => hb (by simp [z])) (fun z => hb (by simp [z])) q)) hf (Nat.le_refl _) new
    refine ⟨.ref s.heap.objs.size, _, I1, rfl, ⟨_, x, rfl, I.hok.fresh (Nat.le_refl _), rfl, fun ys hy => by rw [I.tuple_inj hy hq]; exact hx⟩, ⟨⟨u', ?_⟩, st'.1.at fun o q => (sb.2 it (Ne.symm hne)).trans q, hne, hai, hea⟩, fun b hb => ?_⟩
    · have e1 : ((i + 1 : Nat) : Int) = (i : Int) + 1 := by omega
      rw [e1]; exact he'
    · have hb' : b < s.heap.objs.size := by
        have e' : b = e ∨ b = it := by simpa using hb
        rcases e' with z | z
        · rw [z]; exact hel
        · rw [z]; exact hil
      rw [upd_ne (Nat.ne_of_lt hb')]
      exact (hf b hb).1
  done := by
    intro X hP hw hK hc i pins s σ H E I hf st hg
    subst hP hw hK
    obtain ⟨⟨old, he⟩, hit, hne, hai, hea⟩ := st
    obtain ⟨xs, hq, hx⟩ := hg
    obtain ⟨its, rv, p, hz⟩ := I.tuple hq
    obtain ⟨f0, f1, f2, f3, f4, f5⟩ := hf it (by simp)
    have hl := rv.length
    have hT : s.TypeIs (.ref e) "enumerate" := ⟨_, he, rfl⟩
    unfold pyNext
    refine wpAny_bind (wpAny_attempt (wpAny_callSpecial?_slot (name := Str.ofString "__next__") hT F.slot_enumerate_next
      (wpAny_call_entry F.slot_enumerate_next hT F.entry_enumerate_next ?_ (F.args_enumerate_next_1 _))))
    show wpAny _ _ (field (.ref e) 2 >>= _) _ _ _
    refine wpAny_bind (wpAny_field he rfl (x := .ref it) rfl ?_)
    refine wpAny_bind (wpAny_nextOf_tuple_end (I.ok.hd hc) hit p (by simp; omega) fun h' x he' hx' => ?_)
    obtain ⟨o, ho, hcl⟩ := hx'
    refine wpAny_bind (wpAny_isInstance (T := "StopIteration") (b := true) ⟨o, ho, hcl⟩ isSubtype_stop ?_)
    exact wpAny_pure ⟨rfl, I.turned (t' := s.toks) (fun b o hb q => he' b o hb q) f0 f1 f3 f4 f5⟩
  self := fun A i s Q E st h => let ⟨⟨_, he⟩, _⟩ := st; wpAny_pyIter_enum he h
def iEnumT (K : PySem.W.Frag) (ta : TA) : TI := fun σ H R => ta σ H fun vs H1 => ∃ a xs, vs = [.ref a] ∧ SqT K H1 a xs ∧ R (IteT K a) H1
theorem pi_enumT {X : Cx} {e : Expr} {ta : TA} {p pos tpos : Pos} {elts : List Expr} {kk : Nat} (hg : Gl X "enumerate") (hm : X.mg "enumerate" = none) (ha : PA X [e] ta) (hs : starEach [e] X.env = [(false, eval e X.env)] := by rfl) :
    PI X (.Tuple elts kk tpos) (.Call (.Name "enumerate" p) [e] [] pos) (iEnumT X.K ta) := by
  refine ⟨fun pins s σ H R I h => ?_⟩
  refine Call_ (ld_blt I hg hm boot_enumerate (PyProof.Rows.callWith_type1 (thn (ha.run pos pins s σ H _ I h) fun us s1 ⟨vs, H1, I1, r1, q1⟩ => ?_) hs rfl))
  obtain ⟨a, xs, ex, hq, q⟩ := q1
  subst ex
  cases r1 with
  | cons r rr =>
    cases rr
    cases r
    obtain ⟨its, rv, p', hz⟩ := I1.tuple hq
    have hal : a < s1.heap.objs.size := by obtain ⟨_, q, _⟩ := p'; exact Heap.lt_size q
    refine enum_begins1 (begins_tuple a its.toArray) p' fun h' he hit hsz hk => wpAny_pyIter_enum he ?_
    have I2 : Inv X pins σ H1 { s1 with heap := h' } := I1.kept (t' := s1.toks) hk
    refine ⟨s1.heap.objs.size + 1, [s1.heap.objs.size + 1, s1.heap.objs.size], _, _, H1, rfl, I2, turn_enumT a (s1.heap.objs.size + 1) s1.heap.objs.size, ⟨⟨.none, he⟩, ⟨_, hit, rfl, rfl⟩, Nat.succ_ne_self _, Nat.ne_of_lt hal, Nat.ne_of_gt (Nat.lt_succ_of_lt hal)⟩, fun b hb => ?_, q⟩
    have e' : b = s1.heap.objs.size + 1 ∨ b = s1.heap.objs.size := by simpa using hb
    have hle : s1.heap.objs.size ≤ b := by
      rcases e' with z | z
      · rw [z]; exact Nat.le_add_right _ _
      · rw [z]; exact Nat.le_refl _
    exact I1.fpOk hle (I1.hok.fresh hle)
theorem walk_enumT {K : PySem.W.Frag} {a : Addr} {xs : List V} : Walk (IteT K a) xs.length (fun H => SqT K H a xs) (YPair (fun i => some (.int (i : Nat))) (fun i => xs[i]?)) := by
  refine ⟨fun i _ hi q => ⟨xs, xs[i], q, by simp [hi]⟩, fun _ q => ⟨xs, q, Nat.le_refl _⟩, fun i H v H' _ q y => ?_⟩
  obtain ⟨T, x, h1, h2, h3, h4⟩ := y
  exact ⟨T, .int (i : Nat), x, h1, h2, h3, rfl, h4 xs q⟩
end Ol

set_option Elab.async false
set_option linter.all false
set_option maxRecDepth 100000
set_option maxHeartbeats 4000000
namespace Ol
open PySem PySem.Spec PyProof.Rows L2

/-- a dict comprehension over any walk -/
theorem dc_it {J : It} {n : Nat} {G : Hp → Prop} {Y : Nat → Hp → V → Hp → Prop} (w : Walk J n G Y) {g : TG} {tt : TT} {tk tv : TE} {vs : List Nat} {σ : L2.St} {H1 : Hp} {D : Addr} {Qd : Hp → Prop} (Pv : Nat → Hp → Prop)
    (h0 : Pv 0 (upd H1 D (.dK []))) (hG : ∀ i H, i ≤ n → Pv i H → G H)
    (hs : ∀ i x H H', i < n → Pv i H → Y i H x H' → g x (wipe σ vs) H' fun σ2 H2 => wipe σ2 vs = wipe σ vs ∧ tt σ2 H2 fun b H3 =>
      if b = true then tk σ2 H3 fun y H4 => tv σ2 H4 fun z H5 => ∃ kvs k, y = kV k ∧ H5 D = some (.dK kvs) ∧ kvs.length < sizeLine ∧ Pv (i + 1) (upd H5 D (.dK (putK kvs k z))) else Pv (i + 1) H3) (hd : ∀ H, Pv n H → Qd H) :
    ∃ W : Nat → Nat → Hp → Prop, (∃ m, W 0 m (upd H1 D (.dK []))) ∧ ∀ i m H, W i m H →
      (J.stop i H ∧ Qd H) ∨ (J.go i H ∧ ∃ Nx : Hp → Prop, (∀ H', Nx H' → ∃ m', m' < m ∧ W (i + 1) m' H') ∧ ∀ x H', J.yld i H x H' → g x (wipe σ vs) H' fun σ2 H2 => wipe σ2 vs = wipe σ vs ∧ tt σ2 H2 fun b H3 =>
        if b = true then tk σ2 H3 fun y H4 => tv σ2 H4 fun z H5 => ∃ kvs k, y = kV k ∧ H5 D = some (.dK kvs) ∧ kvs.length < sizeLine ∧ Nx (upd H5 D (.dK (putK kvs k z))) else Nx H3) := by
  refine ⟨fun i m H => m = n - i ∧ i ≤ n ∧ Pv i H, ⟨n, by simp, Nat.zero_le _, h0⟩, ?_⟩
  rintro i m H ⟨rfl, hi, p⟩
  have q := hG i H hi p
  by_cases hlt : i < n
  · exact .inr ⟨w.goes i H hlt q, Pv (i + 1), fun H' p' => ⟨n - (i + 1), by omega, rfl, hlt, p'⟩, fun x H' y => hs i x H H' hlt p (w.yields i H x H' hlt q y)⟩
  · have e : i = n := by omega
    subst e
    exact .inl ⟨w.stops H q, hd H p⟩

/-- names and their places, as a dict holds them -/
def spots (ns : List Str) : List (Key × V) := ns.zipIdx.map fun p => (.inr p.1, .int (p.2 : Int))
theorem spots_len (ns : List Str) : (spots ns).length = ns.length := by unfold spots; rw [List.length_map, List.length_zipIdx]
theorem spots_snoc (ns : List Str) (x : Str) : spots (ns ++ [x]) = spots ns ++ [(.inr x, .int (ns.length : Int))] := by
  unfold spots
  rw [List.zipIdx_append, List.map_append]
  simp
theorem valV_none {kvs : List (Key × V)} {k : Key} (h : ∀ p ∈ kvs, p.1 ≠ k) : valV kvs k = none := by
  induction kvs with
  | nil => rfl
  | cons p r ih => rw [valV_neg (h p List.mem_cons_self), ih fun q hq => h q (List.mem_cons_of_mem _ hq)]
theorem putK_new {kvs : List (Key × V)} {k : Key} {v : V} (h : valV kvs k = none) : putK kvs k v = kvs ++ [(k, v)] := by
  unfold putK
  rw [valV_any, h]
  rfl
theorem spots_key (ns : List Str) : (spots ns).map (·.1) = ns.map Sum.inr := by
  unfold spots
  rw [List.map_map]
  have h : ∀ (l : List Str) (k : Nat), (l.zipIdx k).map ((fun p : Key × V => p.1) ∘ fun p => (Sum.inr p.1, V.int (p.2 : Int))) = l.map Sum.inr := by
    intro l
    induction l with
    | nil => intro k; rfl
    | cons a l ih =>
      intro k
      rw [List.zipIdx_cons, List.map_cons, ih]
      rfl
  exact h ns 0
theorem spots_none {ns : List Str} {x : Str} (h : x ∉ ns) : valV (spots ns) (.inr x) = none := by
  refine valV_none fun p hp e => h ?_
  have z : p.1 ∈ (spots ns).map (·.1) := List.mem_map_of_mem hp
  rw [spots_key, e] at z
  obtain ⟨y, hy, ey⟩ := List.mem_map.mp z
  cases ey
  exact hy
theorem spots_val {ns : List Str} (hd : ns.Nodup) {i : Nat} (hi : i < ns.length) : valV (spots ns) (.inr ns[i]) = some (.int (i : Int)) := by
  unfold spots
  have h : ∀ (l : List Str) (k i : Nat) (hi : i < l.length), l.Nodup → valV ((l.zipIdx k).map fun p => ((.inr p.1, .int (p.2 : Int)) : Key × V)) (.inr l[i]) = some (.int ((k + i : Nat) : Int)) := by
    intro l
    induction l with
    | nil => intro k i hi; cases hi
    | cons a l ih =>
      intro k i hi hn
      rw [List.zipIdx_cons, List.map_cons]
      cases i with
      | zero => exact valV_pos rfl
      | succ i =>
        rw [List.nodup_cons] at hn
        have hi' : i < l.length := by simpa using hi
        rw [valV_neg]
        · show valV _ (Sum.inr l[i]) = _
          rw [ih (k + 1) i hi' hn.2]
          rw [show k + 1 + i = k + (i + 1) by omega]
        · intro z
          have z' : a = l[i] := Sum.inr.inj z
          exact hn.1 (z' ▸ List.getElem_mem hi')
  have z := h ns 0 i hi hd
  rw [Nat.zero_add] at z
  exact z
end Ol

set_option Elab.async false
set_option linter.all false
set_option maxRecDepth 100000
set_option maxHeartbeats 8000000
namespace Ol
open PySem PySem.Spec PyProof.Rows L2
/-! ### {k: v for t0 in i0 if .. for t1 in i1 if ..} -/
abbrev DC2 (kx vx t0 i0 : Expr) (f0 : List Expr) (t1 i1 : Expr) (f1 : List Expr) (scope : Scope) (pos : Pos) : Expr := .DictComp kx vx [⟨t0, i0, f0, 0⟩, ⟨t1, i1, f1, 0⟩] scope pos
/-- a clause's tests, one after the other -/
abbrev Asks (fs : List Expr) (env : Env) : Sem Bool := forIn fs true fun c r => if r = true then do let ok ← isTrue c env (eval c env); pure (ForInStep.yield ok) else pure (ForInStep.yield r)
section
variable {kx vx t0 i0 t1 i1 : Expr} {f0 f1 : List Expr} {scope : Scope} {pos : Pos} {env : Env}
theorem first_turn (it : Value) (D : Addr) : compTurn (DC2 kx vx t0 i0 f0 t1 i1 f1 scope pos) 0 it (.ref D) env = (do
    standAt i0.pos
    match ← pyNext it with
    | none => pure (.done .next)
    | some v =>
      letOwnedTupleGo t0 it v
      assign t0 env v
      let mut ok := true
      for c in f0 do
        if ok then ok ← isTrue c env (eval c env)
      if ok then
        let x ← eval i1 env
        standAt i1.pos
        let x ← foldedSetIterable i1 env x
        let _ ← runOwn (.compStart (DC2 kx vx t0 i0 f0 t1 i1 f1 scope pos) 1 (← holding [x] (pyIter x)) (.ref D) env) env
      again (.compLoop (DC2 kx vx t0 i0 f0 t1 i1 f1 scope pos) 0 it (.ref D) env)) := by rfl
theorem second_turn (it : Value) (D : Addr) : compTurn (DC2 kx vx t0 i0 f0 t1 i1 f1 scope pos) 1 it (.ref D) env = (do
    standAt i1.pos
    match ← pyNext it with
    | none => pure (.done .next)
    | some v =>
      letOwnedTupleGo t1 it v
      assign t1 env v
      let mut ok := true
      for c in f1 do
        if ok then ok ← isTrue c env (eval c env)
      if ok then
        (do
          let kv ← eval kx env
          let vv ← holding [kv] (eval vx env)
          standAt { kx.pos with endLine := vx.pos.endLine, endCol := vx.pos.endCol }
          holding [kv, vv] (dictSet D kv vv))
      again (.compLoop (DC2 kx vx t0 i0 f0 t1 i1 f1 scope pos) 1 it (.ref D) env)) := by rfl
variable {prog : Program} {w : World} {A : Around} {R : Result → Shared → Prop} {s : Shared} {it : Value} {D : Addr}
/-- where an error of the block goes -/
abbrev Bad (prog : Program) (w : World) (A : Around) (env : Env) (R : Result → Shared → Prop) : Value → Shared → Prop := notedBy (model prog w) A env fun e s2 => R (.error e) s2
theorem first_loop (plain : ∀ x, foldedSetIterable i1 env x = pure x) (St : Nat → Shared → Prop)
    (turn : ∀ n s, St n s → wpAny (model prog w) A (pyNext it) (fun got s1 => match got with
      | none => R (.ok .next) s1
      | some v => wpAny (model prog w) A (letOwnedTupleGo t0 it v) (fun _ s2 => wpAny (model prog w) A (assign t0 env v) (fun _ s3 =>
          wpAny (model prog w) A (Asks f0 env) (fun ok s4 =>
            if ok = true then
              wpAny (model prog w) A (eval i1 env) (fun x s5 => wpAny (model prog w) A (pyIter x) (fun it1 s6 =>
                codeAny (model prog w) A (.compStart (DC2 kx vx t0 i0 f0 t1 i1 f1 scope pos) 1 it1 (.ref D) env) (fun r s7 => match r with
                  | .ok _ => ∃ m, m < n ∧ St m s7
                  | .error _ => False) s6) (Bad prog w A env R) s5) (Bad prog w A env R) s4
            else ∃ m, m < n ∧ St m s4) (Bad prog w A env R) s3) (Bad prog w A env R) s2) (Bad prog w A env R) s1) (Bad prog w A env R) s)
    (n : Nat) (start : St n s) : codeAny (model prog w) A (.compLoop (DC2 kx vx t0 i0 f0 t1 i1 f1 scope pos) 0 it (.ref D) env) R s := by
  refine codeAny_loop rfl St ?_ n start
  intro n s now
  show wpAny _ A ((compTurn (DC2 kx vx t0 i0 f0 t1 i1 f1 scope pos) 0 it (.ref D) env).onRaise (fun x => do noteFrame x env; theTreesLotGoes x)) _ _ s
  apply wpAny_noted
  rw [first_turn]
  apply wpAny_bind; apply wpAny_standAt; apply wpAny_bind
  apply wpAny_mono (turn n s now) _ (fun _ _ z => z)
  intro got s1 q1
  cases got with
  | none => exact wpAny_pure q1
  | some v =>
    apply wpAny_bind; apply wpAny_mono q1 _ (fun _ _ z => z); intro _ s2 q2
    apply wpAny_bind; apply wpAny_mono q2 _ (fun _ _ z => z); intro _ s3 q3
    apply wpAny_bind; apply wpAny_mono q3 _ (fun _ _ z => z); intro ok s4 q4
    cases ok with
    | false => exact wpAny_pure ⟨rfl, q4⟩
    | true =>
      apply wpAny_bind; apply wpAny_mono q4 _ (fun _ _ z => z); intro x s5 q5
      apply wpAny_bind; apply wpAny_standAt; apply wpAny_bind; apply wpAny_of_eq (plain x)
      apply wpAny_bind; apply wpAny_holding; apply wpAny_mono q5 _ (fun _ _ z => z); intro it1 s6 q6
      refine wpAny_bind (wpAny_runOwn ?_)
      rw [Around.mark_none]
      apply codeAny_mono q6
      intro r s7 q7
      cases r with
      | error e => exact q7.elim
      | ok f => first | exact wpAny_pure ⟨rfl, q7⟩ | exact wpAny_bind (wpAny_pure (wpAny_pure ⟨rfl, q7⟩))
theorem second_loop (St : Nat → Shared → Prop)
    (turn : ∀ n s, St n s → wpAny (model prog w) A (pyNext it) (fun got s1 => match got with
      | none => R (.ok .next) s1
      | some v => wpAny (model prog w) A (letOwnedTupleGo t1 it v) (fun _ s2 => wpAny (model prog w) A (assign t1 env v) (fun _ s3 =>
          wpAny (model prog w) A (Asks f1 env) (fun ok s4 =>
            if ok = true then
              wpAny (model prog w) A (eval kx env) (fun kv s5 => wpAny (model prog w) A (eval vx env) (fun vv s6 =>
                wpAny (model prog w) A (dictSet D kv vv) (fun _ s7 => ∃ m, m < n ∧ St m s7) (Bad prog w A env R) s6) (Bad prog w A env R) s5) (Bad prog w A env R) s4
            else ∃ m, m < n ∧ St m s4) (Bad prog w A env R) s3) (Bad prog w A env R) s2) (Bad prog w A env R) s1) (Bad prog w A env R) s)
    (n : Nat) (start : St n s) : codeAny (model prog w) A (.compLoop (DC2 kx vx t0 i0 f0 t1 i1 f1 scope pos) 1 it (.ref D) env) R s := by
  refine codeAny_loop rfl St ?_ n start
  intro n s now
  show wpAny _ A ((compTurn (DC2 kx vx t0 i0 f0 t1 i1 f1 scope pos) 1 it (.ref D) env).onRaise (fun x => do noteFrame x env; theTreesLotGoes x)) _ _ s
  apply wpAny_noted
  rw [second_turn]
  apply wpAny_bind; apply wpAny_standAt; apply wpAny_bind
  apply wpAny_mono (turn n s now) _ (fun _ _ z => z)
  intro got s1 q1
  cases got with
  | none => exact wpAny_pure q1
  | some v =>
    apply wpAny_bind; apply wpAny_mono q1 _ (fun _ _ z => z); intro _ s2 q2
    apply wpAny_bind; apply wpAny_mono q2 _ (fun _ _ z => z); intro _ s3 q3
    apply wpAny_bind; apply wpAny_mono q3 _ (fun _ _ z => z); intro ok s4 q4
    cases ok with
    | false => exact wpAny_pure ⟨rfl, q4⟩
    | true =>
      apply wpAny_bind; apply wpAny_bind; apply wpAny_mono q4 _ (fun _ _ z => z); intro kv s5 q5
      apply wpAny_bind; apply wpAny_holding; apply wpAny_mono q5 _ (fun _ _ z => z); intro vv s6 q6
      apply wpAny_bind; apply wpAny_standAt; apply wpAny_holding; apply wpAny_mono q6 _ (fun _ _ z => z); intro _ s7 q7
      exact wpAny_pure ⟨rfl, q7⟩
/-- the second clause begins -/
theorem second_start (own : codeAny (model prog w) A (.compLoop (DC2 kx vx t0 i0 f0 t1 i1 f1 scope pos) 1 it (.ref D) env) R s)
    (anew : wpAny (model prog w) A (pyIter it) (fun it2 s2 => codeAny (model prog w) A (.compLoop (DC2 kx vx t0 i0 f0 t1 i1 f1 scope pos) 1 it2 (.ref D) env) R s2) (Bad prog w A env R) s) :
    codeAny (model prog w) A (.compStart (DC2 kx vx t0 i0 f0 t1 i1 f1 scope pos) 1 it (.ref D) env) R s := by
  apply codeAny_of_tree
  show wpAny _ _ ((compStart (DC2 kx vx t0 i0 f0 t1 i1 f1 scope pos) 1 it (.ref D) env).onRaise (fun x => do noteFrame x env; standAt theWindowsPlace)) _ _ s
  apply wpAny_notedAt
  unfold compStart
  show wpAny _ _ (ask >>= _) _ _ s
  apply wpAny_bind; apply wpAny_askSetting; apply wpAny_ite
  split
  · first
      | exact wpAny_bind (wpAny_pure (wpAny_pure ⟨rfl, own⟩))
      | exact wpAny_pure ⟨rfl, own⟩
  · apply wpAny_bind; apply wpAny_rule
    show wpAny _ _ (standAt i1.pos >>= _) _ _ s
    apply wpAny_bind; apply wpAny_standAt; apply wpAny_bind
    apply wpAny_mono anew _ (fun _ _ z => z)
    intro it2 s2 q2
    exact wpAny_pure ⟨rfl, q2⟩
end
end Ol

set_option Elab.async false
set_option linter.all false
set_option maxRecDepth 100000
set_option maxHeartbeats 16000000
namespace Ol
open PySem PySem.Spec PyProof.Rows L2
/-- a dict comprehension of two clauses: the outer walk's measure W, for each of its things the inner walk's V; keys are ints or texts -/
def tDc2 (wi : TI) (g : TG) (tt : TT) (wi1 : TI) (g1 : TG) (tt1 : TT) (tk tv : TE) (vs vs1 : List Nat) : TE := fun σ H Q => wi σ H fun J Ha => ∀ D, Ha D = none → ∃ W : Nat → Nat → Hp → Prop, (∃ m, W 0 m (upd Ha D (.dK []))) ∧ ∀ i m Hb, W i m Hb →
  (J.stop i Hb ∧ Q (.ref D) Hb) ∨ (J.go i Hb ∧ ∃ On : Hp → Prop, (∀ Hc, On Hc → ∃ m2, m2 < m ∧ W (i + 1) m2 Hc) ∧ ∀ x Hc, J.yld i Hb x Hc → g x (wipe σ vs) Hc fun σ2 Hd => wipe σ2 vs = wipe σ vs ∧ tt σ2 Hd fun b He =>
    if b = true then wi1 σ2 He fun J1 Hf => ∃ V1 : Nat → Nat → Hp → Prop, (∃ k, V1 0 k Hf) ∧ ∀ j k Hg, V1 j k Hg →
      (J1.stop j Hg ∧ On Hg) ∨ (J1.go j Hg ∧ ∃ On1 : Hp → Prop, (∀ Hh, On1 Hh → ∃ k2, k2 < k ∧ V1 (j + 1) k2 Hh) ∧ ∀ y Hh, J1.yld j Hg y Hh → g1 y (wipe σ2 vs1) Hh fun σ3 Hi => wipe σ3 vs1 = wipe σ2 vs1 ∧ tt1 σ3 Hi fun b1 Hj =>
        if b1 = true then tk σ3 Hj fun key Hk => tv σ3 Hk fun val Hl => ∃ kvs k, key = kV k ∧ Hl D = some (.dK kvs) ∧ kvs.length < sizeLine ∧ On1 (upd Hl D (.dK (putK kvs k val))) else On1 Hj)
    else On He)
theorem wipe_apart {σ : L2.St} {vs vs1 : List Nat} (sub : ∀ i ∈ vs1, i ∈ vs) {j : Nat} {v : V} (h : (wipe σ vs)[j]? = some (some v)) : (wipe σ vs1)[j]? = some (some v) := by
  obtain ⟨e, out⟩ := wipe_some h
  rw [wipe_out fun z => out (sub j z)]
  exact e
section
variable {X : Cx}
theorem dc2_core {pins : List (Addr × Obj)} {s : Shared} {σ : L2.St} {H : Hp} {Q : VK} {kx vx t0 i0 t1 i1 : Expr} {f0 f1 : List Expr} {scope : Scope} {own : List (Str × Nat)} {vs1 : List Nat} {pos at_ : Pos} {wi wi1 : TI} {g g1 : TG} {tt tt1 : TT} {tk tv : TE} {use : Option (Value → Sem Unit)} {Qf : Value → Shared → Prop}
    (calm : X.calm = true) (nd : X.N.Nodup) (I : Inv X pins σ H s) (src : PI X t0 i0 wi) (ok : BlkOk X.N X.env.scope scope own) (sub : ∀ i ∈ vs1, i ∈ own.map (·.2))
    (pg : ∀ (s : Shared) (H : Hp) (C : Addr) (cl : List (Str × Addr)) (fp : List Addr), PG (X.blk s H scope (compEnvC scope cl C X.env) fp) t0 g)
    (pt : ∀ (s : Shared) (H : Hp) (C : Addr) (cl : List (Str × Addr)) (fp : List Addr), PTs (X.blk s H scope (compEnvC scope cl C X.env) fp) f0 tt)
    (src1 : ∀ (s : Shared) (H : Hp) (C : Addr) (cl : List (Str × Addr)) (fp : List Addr), PI (X.blk s H scope (compEnvC scope cl C X.env) fp) t1 i1 wi1)
    (pg1 : ∀ (s : Shared) (H : Hp) (C : Addr) (cl : List (Str × Addr)) (fp : List Addr), PG (X.blk s H scope (compEnvC scope cl C X.env) fp) t1 g1)
    (pt1 : ∀ (s : Shared) (H : Hp) (C : Addr) (cl : List (Str × Addr)) (fp : List Addr), PTs (X.blk s H scope (compEnvC scope cl C X.env) fp) f1 tt1)
    (pk : ∀ (s : Shared) (H : Hp) (C : Addr) (cl : List (Str × Addr)) (fp : List Addr), PE (X.blk s H scope (compEnvC scope cl C X.env) fp) kx tk)
    (pw : ∀ (s : Shared) (H : Hp) (C : Addr) (cl : List (Str × Addr)) (fp : List Addr), PE (X.blk s H scope (compEnvC scope cl C X.env) fp) vx tv)
    (plain : ∀ x, foldedSetIterable i0 X.env x = pure x) (plain1 : ∀ env x, foldedSetIterable i1 env x = pure x)
    (h : tDc2 wi g tt wi1 g1 tt1 tk tv (own.map (·.2)) vs1 σ H Q)
    (done : ∀ D C s2 ns H2, Inv X pins σ H2 s2 → Q (.ref D) H2 → s2.heap.Ns C ns → FpOk X pins H2 C → compPost (model X.prog X.w) X.A X.xe use Qf (.ref D) C (.ok .next) s2) :
    wpAny (model X.prog X.w) X.A (comprehension (DC2 kx vx t0 i0 f0 t1 i1 f1 scope pos) scope X.env at_ newDict false (eval i0 X.env) use) Qf X.xe s := by
  have cells : ∀ y ∈ scope.names, y.2 = .free → ∃ c, X.env.cells.lookup y.1 = some c := by
    intro y my free
    exact I.ok.has _ (ok.free y my free)
  apply wpAny_comprehension_free (use := use) rfl plain (closure_ok cells) ok.kind (fun y my free => by rw [ok.uniq y my, free])
  apply thn (src.run pins s σ H _ I h)
  intro seen sa at_src
  apply thn at_src
  rintro itv s2 ⟨it, fp, tn, J, H2, rfl, I2, T, place, foot, q⟩
  refine wpAny_newObj_type (newEnv_comp ?_)
  generalize atD : s2.heap.objs.size = D
  obtain ⟨W, ⟨m0, w0⟩, go_on⟩ := q D (I2.hok.fresh (Nat.le_of_eq atD))
  -- the dict, empty
  generalize made : ({ s2 with heap := s2.heap.push { cls := .type "dict", data := .dict #[] } } : Shared) = s3
  have heap3 : s3.heap = s2.heap.push { cls := .type "dict", data := .dict #[] } := by rw [← made]
  have stays : ∀ b o, s2.heap.get? b = some o → s3.heap.get? b = some o := fun b o z => by
    rw [heap3]
    exact Heap.get?_push_of_some _ z
  have I3 : Inv X pins σ (upd H2 D (.dK [])) s3 := by
    rw [← made]
    apply I2.laid (t' := s2.toks) (fun b o z => Heap.get?_push_of_some _ z) (Nat.le_of_eq atD)
    rw [← atD]
    exact dk_empty s2.heap I2.big
  have foot3 : ∀ b ∈ fp, FpOk X pins (upd H2 D (.dK [])) b ∧ b < s3.heap.objs.size := by
    intro b mb
    obtain ⟨o, got, _⟩ := T.obj _ _ place b mb
    have lt := Heap.lt_size got
    have ne : b ≠ D := atD ▸ Nat.ne_of_lt lt
    constructor
    · exact ⟨by rw [upd_ne ne]; exact (foot b mb).1, (foot b mb).2⟩
    · rw [heap3, Heap.size_push]
      exact Nat.lt_succ_of_lt lt
  have place3 : tn 0 s3.heap := T.keep _ _ _ place fun b _ o z => stays b o z
  have I4 := block_start I3 ok nd foot3
  generalize ecl : cellsFrom (s3.heap.objs.size + 1) scope.names (cloFrom X.env.cells scope.names []) = cl at I4
  have pg := pg s3 (upd H2 D (.dK [])) s3.heap.objs.size cl fp
  have pt := pt s3 (upd H2 D (.dK [])) s3.heap.objs.size cl fp
  have src1 := src1 s3 (upd H2 D (.dK [])) s3.heap.objs.size cl fp
  have pg1 := pg1 s3 (upd H2 D (.dK [])) s3.heap.objs.size cl fp
  have pt1 := pt1 s3 (upd H2 D (.dK [])) s3.heap.objs.size cl fp
  have pk := pk s3 (upd H2 D (.dK [])) s3.heap.objs.size cl fp
  have pw := pw s3 (upd H2 D (.dK [])) s3.heap.objs.size cl fp
  show codeAny _ _ (.compStart (DC2 kx vx t0 i0 f0 t1 i1 f1 scope pos) 0 (.ref it) (.ref D) (compEnvC scope cl s3.heap.objs.size X.env)) (compPost (model X.prog X.w) X.A X.xe use Qf (.ref D) s3.heap.objs.size) { s3 with heap := pushCells (s3.heap.push { cls := .type "dict", data := .dict #[] }) scope.names }
  have blank : ∀ b ∈ fp, (upd H2 D (.dK [])) b = none := fun b mb => (foot3 b mb).1.1
  generalize ece : compEnvC scope cl s3.heap.objs.size X.env = ce at I4 pg pt src1 pg1 pt1 pk pw ⊢
  have here : ce.locals = s3.heap.objs.size := by subst ece; rfl
  generalize e3 : upd H2 D (.dK []) = H3 at I3 I4 pg pt src1 pg1 pt1 pk pw w0 blank foot3
  generalize e4 : ({ s3 with heap := pushCells (s3.heap.push { cls := .type "dict", data := .dict #[] }) scope.names } : Shared) = s4 at I4 ⊢
  have place4 : tn 0 s4.heap := T.keep _ _ _ place3 fun b _ o z => by
    rw [← e4]
    exact pushCells_keeps _ _ _ _ (Heap.get?_push_of_some _ z)
  have foots : ∀ {σ' : L2.St} {H' : Hp} {s' : Shared}, Inv (X.blk s3 H3 scope ce fp) [] σ' H' s' → (∀ b ∈ fp, H' b = none) → ∀ b ∈ fp, FpOk (X.blk s3 H3 scope ce fp) [] H' b := by
    intro σ' H' s' I' no b mb
    have ex := I'.ok.exf b mb
    refine ⟨no b mb, ex.1, I'.ok.exfs b mb, .inl mb, fun x c z => ex.2 x c z, ?_⟩
    intro p mp
    have mp' : p ∈ ([] : List (Addr × Obj)) ++ [] := mp
    simp at mp'
  have whole : codeAny (model X.prog X.w) X.A (.compLoop (DC2 kx vx t0 i0 f0 t1 i1 f1 scope pos) 0 (.ref it) (.ref D) ce) (compPost (model X.prog X.w) X.A X.xe use Qf (.ref D) s3.heap.objs.size) s4 := by
    refine first_loop (plain1 ce) (fun n s' => ∃ i H', Inv (X.blk s3 H3 scope ce fp) [] (wipe σ (own.map (·.2))) H' s' ∧ tn i s'.heap ∧ (∀ b ∈ fp, H' b = none) ∧ W i n H') ?_ m0 ⟨0, H3, I4, place4, blank, w0⟩
    rintro n s5 ⟨i, H5, I5, p5, b5, w5⟩
    rcases go_on i n H5 w5 with ⟨stop, fin⟩ | ⟨go, On, next, step⟩
    · apply thnF (T.done (X.blk s3 H3 scope ce fp) rfl rfl rfl calm i [] s5 _ H5 (fun _ _ => False) I5 (foots I5 b5) p5 stop)
      rintro got s6 ⟨rfl, I6⟩
      have I7 : Inv X pins σ H5 s6 := I3.call' (ch := fp) I6.os I6.base I6.hok I6.bare fun b mb =>
        let z := (foot3 b mb).1.2
        ⟨z.2.2.1, z.1, z.2.2.2.1, z.2.2.2.2⟩
      have none_here : H5 s3.heap.objs.size = none := by
        have z : H5 ce.locals = none := I6.free
        exact here ▸ z
      obtain ⟨ns, at_ns, _⟩ := I6.loc
      have at_ns : s6.heap.Ns ce.locals ns := at_ns
      rw [here] at at_ns
      exact done D s3.heap.objs.size s6 ns H5 I7 fin at_ns (I3.fpOk (Nat.le_refl _) none_here)
    · apply thnF (T.item (X.blk s3 H3 scope ce fp) rfl rfl rfl calm i [] s5 _ H5 (fun _ _ => False) I5 (foots I5 b5) p5 go)
      rintro got s6 ⟨u, rfl, at_u⟩
      apply thnF at_u
      rintro _ s7 ⟨x, H7, I7, rx, y7, p7, b7⟩
      apply thnF (pg.run _ s7 _ H7 x u _ (I7.pinned (foots I7 b7) (T.obj _ _ p7)) rx (step x H7 y7))
      rintro _ s8 ⟨σ8, H8, I8, hw, q8⟩
      apply thnF (pt.run _ s8 σ8 H8 _ I8 q8)
      rintro b s9 ⟨H9, I9, q9⟩
      -- back at the outer walk
      have back : ∀ {σ9 : L2.St} {s' : Shared} {H' : Hp}, Inv (X.blk s3 H3 scope ce fp) ([] ++ pinsAt fp s7.heap) σ9 H' s' → (wipe σ (own.map (·.2))).length = σ9.length →
          (∀ (j : Nat) v, (wipe σ (own.map (·.2)))[j]? = some (some v) → σ9[j]? = some (some v)) → On H' → ∃ m, m < n ∧ ∃ i H', Inv (X.blk s3 H3 scope ce fp) [] (wipe σ (own.map (·.2))) H' s' ∧ tn i s'.heap ∧ (∀ b ∈ fp, H' b = none) ∧ W i m H' := by
        intro σ9 s' H' I' len know on
        obtain ⟨m, lt, w'⟩ := next H' on
        have pinned : ∀ c ∈ fp, ∀ o, s7.heap.get? c = some o → s'.heap.get? c = some o ∧ H' c = none := by
          intro c mc o got
          have z := I'.pin (c, o) (List.mem_append_right _ (List.mem_append_right _ (mem_pinsAt mc got)))
          exact ⟨z.1, z.2.1⟩
        refine ⟨m, lt, i + 1, H', (I'.unpinned (pins := [])).weak len know, T.keep _ _ _ p7 (fun c mc o got => (pinned c mc o got).1), ?_, w'⟩
        intro c mc
        obtain ⟨o, got, _⟩ := T.obj _ _ p7 c mc
        exact (pinned c mc o got).2
      have len8 : (wipe σ (own.map (·.2))).length = σ8.length := hw ▸ wipe_length σ8 _
      have know8 : ∀ (j : Nat) v, (wipe σ (own.map (·.2)))[j]? = some (some v) → σ8[j]? = some (some v) := by
        intro j v z
        rw [← hw] at z
        exact (wipe_some z).1
      have know9 : ∀ (j : Nat) v, (wipe σ (own.map (·.2)))[j]? = some (some v) → (wipe σ8 vs1)[j]? = some (some v) := by
        intro j v z
        rw [← hw] at z
        exact wipe_apart sub z
      by_cases yes : b = true
      case neg =>
        rw [if_neg yes] at q9 ⊢
        exact back I9 len8 know8 q9
      rw [if_pos yes] at q9 ⊢
      apply thnF (src1.run _ s9 σ8 H9 _ I9 q9)
      intro seen1 sb at1
      apply thnF at1
      rintro itv1 s11 ⟨it1, fp1, tn1, J1, H11, rfl, I11, T1, p11, foot1, V1, ⟨m1, w1⟩, turn1⟩
      have foots1 : ∀ {H' : Hp}, (∀ c ∈ fp1, H' c = none) → ∀ c ∈ fp1, FpOk (X.blk s3 H3 scope ce fp) ([] ++ pinsAt fp s7.heap) H' c := fun no c mc => ⟨no c mc, (foot1 c mc).2⟩
      have inner : codeAny (model X.prog X.w) X.A (.compLoop (DC2 kx vx t0 i0 f0 t1 i1 f1 scope pos) 1 (.ref it1) (.ref D) ce)
          (fun r s' => match r with
            | .ok _ => ∃ m, m < n ∧ ∃ i H', Inv (X.blk s3 H3 scope ce fp) [] (wipe σ (own.map (·.2))) H' s' ∧ tn i s'.heap ∧ (∀ b ∈ fp, H' b = none) ∧ W i m H'
            | .error _ => False) s11 := by
        refine second_loop (fun k s' => ∃ j H', Inv (X.blk s3 H3 scope ce fp) ([] ++ pinsAt fp s7.heap) (wipe σ8 vs1) H' s' ∧ tn1 j s'.heap ∧ (∀ c ∈ fp1, H' c = none) ∧ V1 j k H') ?_ m1
          ⟨0, H11, I11.weak (wipe_length _ _) (fun j v z => (wipe_some z).1), p11, fun c mc => (foot1 c mc).1, w1⟩
        rintro k s12 ⟨j, H12, I12, p12, b12, w12⟩
        rcases turn1 j k H12 w12 with ⟨stop1, on⟩ | ⟨go1, On1, next1, step1⟩
        · apply thnF (T1.done (X.blk s3 H3 scope ce fp) rfl rfl rfl calm j _ s12 (wipe σ8 vs1) H12 (fun _ _ => False) I12 (foots1 b12) p12 stop1)
          rintro got s13 ⟨rfl, I13⟩
          exact back I13 (len8.trans (wipe_length σ8 vs1).symm) know9 on
        · apply thnF (T1.item (X.blk s3 H3 scope ce fp) rfl rfl rfl calm j _ s12 (wipe σ8 vs1) H12 (fun _ _ => False) I12 (foots1 b12) p12 go1)
          rintro got s13 ⟨u1, rfl, at_u1⟩
          apply thnF at_u1
          rintro _ s14 ⟨x1, H14, I14, rx1, y14, p14, b14⟩
          apply thnF (pg1.run _ s14 (wipe σ8 vs1) H14 x1 u1 _ (I14.pinned (foots1 b14) (T1.obj _ _ p14)) rx1 (step1 x1 H14 y14))
          rintro _ s15 ⟨σ15, H15, I15, hw15, q15⟩
          apply thnF (pt1.run _ s15 σ15 H15 _ I15 q15)
          rintro b1 s16 ⟨H16, I16, q16⟩
          have back1 : ∀ {s' : Shared} {H' : Hp}, Inv (X.blk s3 H3 scope ce fp) (([] ++ pinsAt fp s7.heap) ++ pinsAt fp1 s14.heap) σ15 H' s' → On1 H' →
              ∃ m, m < k ∧ ∃ j H', Inv (X.blk s3 H3 scope ce fp) ([] ++ pinsAt fp s7.heap) (wipe σ8 vs1) H' s' ∧ tn1 j s'.heap ∧ (∀ c ∈ fp1, H' c = none) ∧ V1 j m H' := by
            intro s' H' I' on1
            obtain ⟨m, lt, w'⟩ := next1 H' on1
            have pinned : ∀ c ∈ fp1, ∀ o, s14.heap.get? c = some o → s'.heap.get? c = some o ∧ H' c = none := by
              intro c mc o got
              have z := I'.pin (c, o) (List.mem_append_right _ (List.mem_append_right _ (mem_pinsAt mc got)))
              exact ⟨z.1, z.2.1⟩
            refine ⟨m, lt, j + 1, H', I'.unpinned.weak (by rw [← hw15, wipe_length]) ?_, T1.keep _ _ _ p14 (fun c mc o got => (pinned c mc o got).1), ?_, w'⟩
            · intro l v z
              rw [← hw15] at z
              exact (wipe_some z).1
            · intro c mc
              obtain ⟨o, got, _⟩ := T1.obj _ _ p14 c mc
              exact (pinned c mc o got).2
          by_cases yes1 : b1 = true
          case neg =>
            rw [if_neg yes1] at q16 ⊢
            exact back1 I16 q16
          rw [if_pos yes1] at q16 ⊢
          apply thnF (pk.run _ s16 σ15 H16 _ I16 q16)
          rintro uk s17 ⟨key, H17, I17, rk, q17⟩
          apply thnF (pw.run _ s17 σ15 H17 _ I17 q17)
          rintro uv s18 ⟨val, H18, I18, rv, kvs, kk, rfl, hD18, few, on1⟩
          exact d_dictSet (X := X.blk s3 H3 scope ce fp) I18 hD18 few rk rv fun s19 I19 => back1 I19 on1
      exact second_start inner (T1.self X.A 0 _ _ _ p11 inner)
  exact codeAny_compStart_dict whole (T.self X.A 0 _ _ _ place4 whole)
/-- as a value -/
theorem pe_dc2 {kx vx t0 i0 t1 i1 : Expr} {f0 f1 : List Expr} {scope : Scope} {own : List (Str × Nat)} {vs1 : List Nat} {pos : Pos} {wi wi1 : TI} {g g1 : TG} {tt tt1 : TT} {tk tv : TE} (calm : X.calm = true) (nd : X.N.Nodup) (src : PI X t0 i0 wi) (ok : BlkOk X.N X.env.scope scope own) (sub : ∀ i ∈ vs1, i ∈ own.map (·.2))
    (pg : ∀ (s : Shared) (H : Hp) (C : Addr) (cl : List (Str × Addr)) (fp : List Addr), PG (X.blk s H scope (compEnvC scope cl C X.env) fp) t0 g)
    (pt : ∀ (s : Shared) (H : Hp) (C : Addr) (cl : List (Str × Addr)) (fp : List Addr), PTs (X.blk s H scope (compEnvC scope cl C X.env) fp) f0 tt)
    (src1 : ∀ (s : Shared) (H : Hp) (C : Addr) (cl : List (Str × Addr)) (fp : List Addr), PI (X.blk s H scope (compEnvC scope cl C X.env) fp) t1 i1 wi1)
    (pg1 : ∀ (s : Shared) (H : Hp) (C : Addr) (cl : List (Str × Addr)) (fp : List Addr), PG (X.blk s H scope (compEnvC scope cl C X.env) fp) t1 g1)
    (pt1 : ∀ (s : Shared) (H : Hp) (C : Addr) (cl : List (Str × Addr)) (fp : List Addr), PTs (X.blk s H scope (compEnvC scope cl C X.env) fp) f1 tt1)
    (pk : ∀ (s : Shared) (H : Hp) (C : Addr) (cl : List (Str × Addr)) (fp : List Addr), PE (X.blk s H scope (compEnvC scope cl C X.env) fp) kx tk)
    (pw : ∀ (s : Shared) (H : Hp) (C : Addr) (cl : List (Str × Addr)) (fp : List Addr), PE (X.blk s H scope (compEnvC scope cl C X.env) fp) vx tv)
    (plain : ∀ x, foldedSetIterable i0 X.env x = pure x := by intro _; rfl) (plain1 : ∀ env x, foldedSetIterable i1 env x = pure x := by intro _ _; rfl) :
    PE X (DC2 kx vx t0 i0 f0 t1 i1 f1 scope pos) (tDc2 wi g tt wi1 g1 tt1 tk tv (own.map (·.2)) vs1) := by
  constructor
  intro pins s σ H Q I h
  rw [arm_eval_DictComp]
  apply dc2_core (use := none) calm nd I src ok sub pg pt src1 pg1 pt1 pk pw plain plain1 h
  intro D C s2 ns H2 I2 q at_ns f
  refine ⟨ns, at_ns, fun h2 same => ?_⟩
  obtain ⟨z0, z1, _, z3, z4, z5⟩ := f
  exact ⟨.ref D, H2, I2.turned (t' := s2.toks) (fun b o ne z => (same.2 b ne).trans z) z0 z1 z3 z4 z5, rfl, q⟩
theorem sw_dict {kx vx : Expr} {gs : List Comprehension} {scope : Scope} {pos py : Pos} {y : Str} {l : Nat} {env : Env} (fn : env.scope.kind = .function) (loc : env.scope.names.lookup y = some .local) (row : (py.line == pos.line) = true)
    (no : (scope.names.any fun (n, k) => n == y && (k == .local || k == .cell)) = false) : swapsWith (.DictComp kx vx gs scope pos) (some (.Name y py)) l env = pure true := by
  have kind : env.kindOf y = some .local := loc
  have blk : env.blockKind = .function := by
    unfold Env.blockKind
    rw [fn]
    rfl
  unfold swapsWith
  simp only [blk, kind, no, Expr.pos, row]
  rfl
/-- stored in a plain name of the def -/
theorem ps_setDc2 {i : Nat} {y : Str} {py spos : Pos} {kx vx t0 i0 t1 i1 : Expr} {f0 f1 : List Expr} {scope : Scope} {own : List (Str × Nat)} {vs1 : List Nat} {pos : Pos} {wi wi1 : TI} {g g1 : TG} {tt tt1 : TT} {tk tv : TE} (calm : X.calm = true) (nd : X.N.Nodup) (hy : X.N[i]? = some y) (loc : X.env.scope.names.lookup y = some .local)
    (sw : swapsWith (DC2 kx vx t0 i0 f0 t1 i1 f1 scope pos) (some (.Name y py)) spos.line X.env = pure true) (src : PI X t0 i0 wi) (ok : BlkOk X.N X.env.scope scope own) (sub : ∀ i ∈ vs1, i ∈ own.map (·.2))
    (pg : ∀ (s : Shared) (H : Hp) (C : Addr) (cl : List (Str × Addr)) (fp : List Addr), PG (X.blk s H scope (compEnvC scope cl C X.env) fp) t0 g)
    (pt : ∀ (s : Shared) (H : Hp) (C : Addr) (cl : List (Str × Addr)) (fp : List Addr), PTs (X.blk s H scope (compEnvC scope cl C X.env) fp) f0 tt)
    (src1 : ∀ (s : Shared) (H : Hp) (C : Addr) (cl : List (Str × Addr)) (fp : List Addr), PI (X.blk s H scope (compEnvC scope cl C X.env) fp) t1 i1 wi1)
    (pg1 : ∀ (s : Shared) (H : Hp) (C : Addr) (cl : List (Str × Addr)) (fp : List Addr), PG (X.blk s H scope (compEnvC scope cl C X.env) fp) t1 g1)
    (pt1 : ∀ (s : Shared) (H : Hp) (C : Addr) (cl : List (Str × Addr)) (fp : List Addr), PTs (X.blk s H scope (compEnvC scope cl C X.env) fp) f1 tt1)
    (pk : ∀ (s : Shared) (H : Hp) (C : Addr) (cl : List (Str × Addr)) (fp : List Addr), PE (X.blk s H scope (compEnvC scope cl C X.env) fp) kx tk)
    (pw : ∀ (s : Shared) (H : Hp) (C : Addr) (cl : List (Str × Addr)) (fp : List Addr), PE (X.blk s H scope (compEnvC scope cl C X.env) fp) vx tv)
    (plain : ∀ x, foldedSetIterable i0 X.env x = pure x := by intro _; rfl) (plain1 : ∀ env x, foldedSetIterable i1 env x = pure x := by intro _ _; rfl) :
    PS X (.Assign [.Name y py] (DC2 kx vx t0 i0 f0 t1 i1 f1 scope pos) spos) (tAsg (tDc2 wi g tt wi1 g1 tt1 tk tv (own.map (·.2)) vs1) (gName i)) := by
  constructor
  intro pins s σ H D I h
  rw [exec_Assign_Name_used _ _ _ _ sw]
  apply wpAny_bind; apply wpAny_standAt; apply wpAny_bind
  show wpAny _ X.A (do
    let _ ← comprehension (DC2 kx vx t0 i0 f0 t1 i1 f1 scope pos) scope X.env (firstIterPos [⟨t0, i0, f0, 0⟩, ⟨t1, i1, f1, 0⟩] pos) newDict false (eval i0 X.env) (some (assign (.Name y py) X.env))) _ _ s
  apply wpAny_bind
  apply thn (Q := fun _ s2 => SP X pins D .next s2)
  · have h2 : tDc2 wi g tt wi1 g1 tt1 tk tv (own.map (·.2)) vs1 σ H (fun x H1 => gName i x σ H1 D.nx) := h
    apply dc2_core (Qf := fun _ s2 => SP X pins D .next s2) calm nd I src ok sub pg pt src1 pg1 pt1 pk pw plain plain1 h2
    intro L C s2 ns H2 I2 q at_ns f
    obtain ⟨z0, z1, _, z3, z4, z5⟩ := f
    show wpAny _ _ (assign (.Name y py) X.env (.ref L)) _ _ _
    refine wpAny_assign_Name (store_ok2 (v := V.ref L) I2 nd hy (.inl loc) rfl ?_ (.inr loc))
    rintro s3 I3 ⟨c, sb, own⟩
    have apart : C ≠ c := by
      rcases own with z | z
      · rw [z]
        exact z1
      · exact fun e => z4 y c z e.symm
    refine ⟨ns, at_ns.sameBut sb apart, fun h3 same => ?_⟩
    exact ⟨_, H2, I3.turned (t' := s3.toks) (fun b o ne z => (same.2 b ne).trans z) z0 z1 z3 z4 z5, q⟩
  · intro _ s2 q
    exact wpAny_pure (wpAny_pure q)
end
end Ol

set_option Elab.async false
set_option linter.all false
set_option maxRecDepth 100000
set_option maxHeartbeats 4000000
namespace Ol
open PySem PySem.Spec PyProof.Rows L2

/-- a method of class C and its promise -/
structure Cm (P : Program) (w : World) (K : PySem.W.Frag) (mg : Str → Option Value) (base : Heap)
    (C : Addr) (k : Nat) (m : Str) (ps : List Str) (sp : Sp) : Prop where
  has : ∃ (f : Addr) (fd : FuncData), FnOk P w K mg base CX0 k f fd ps sp ∧ Meth K C m f ∧ Binds K fd ps []
section
variable {X : Cx} {k : Nat} {C : Addr} {ps : List Str} {sp : Sp} {m : Str} {o e : Expr} {es : List Expr} {ta : TE} {t : TA} {apos pos : Pos}
theorem pe_cm {pl : Sem Bool} (M : Cm X.prog X.w X.K X.mg X.base C k m ps sp) (c : Cls X.K C) (hr : Room k X.A) (he : PE X o ta) (ha : PA X (e :: es) t)
    (hst : starEach (e :: es) X.env = (false, eval e X.env) :: starEach es X.env := by rfl) (hpl : (backTo pos (starEach es X.env)).any (·.1) = false := by rfl)
    (ht : eval (.Call (.Attribute o m apos) (e :: es) [] pos) X.env = (do
      let ov ← eval o X.env
      standAt apos.atName
      let (f, first) ← holding [ov] (getMethod ov m pl)
      callWith pos f first (backTo pos (starEach (e :: es) X.env)) (backToKw pos (keywordEach [] X.env))) := by rfl) :
    PE X (.Call (.Attribute o m apos) (e :: es) [] pos) (tMeth C m sp [] E0 ta t) := by
  obtain ⟨f, fd, F, hm, b⟩ := M.has
  exact pe_meth he c hm F hr b .nil pass0 ha hst hpl ht
theorem op_notInM (M : Cm X.prog X.w X.K X.mg X.base C k "__contains__" ps sp) (hr : Room k X.A) : OpR X (compareOp .NotIn) (rNotInO C sp) := by
  obtain ⟨f, fd, F, hm, b⟩ := M.has
  exact op_notInO F hr hm.at_ hm.fn b
end

/-! ### t * 1 -/
theorem tuple_mul1 (l : Addr) (items : Array Value) (n : Nat) (dd : Option Addr) (sl : Array (Option Value)) (u : Tok) (hi : items.isEmpty = false) :
    Meets (Builtin.«tuple.__mul__» ⟨[.ref l, .int 1 u], []⟩) (fun _ R s => s.heap.get? l = some { cls := .type "tuple", dict := dd, data := .seq items n, slots := sl } ∧
      R (.ok (.ret (Value.ref l))) s) :=
  .of_wp fun prog w A R s h => by
    obtain ⟨hp, g, d, tk, os⟩ := s
    obtain ⟨hl, h⟩ := h
    have f1 := AutoSeq1.idx_int
    wp_walk using wpAny_loadPart' hl
    exact ⟨_, rfl, h⟩
/-- t * k, 1 ≤ k -/
def rRepA (K : PySem.W.Frag) : R2 := fun x y H Q => ∃ l k xs, x = .ref l ∧ y = .int k ∧ SqT K H l xs ∧ xs ≠ [] ∧ 1 ≤ k ∧ k ≤ 1000 ∧ xs.length ≤ 1000 ∧
  (k = 1 → Q (.ref l) H) ∧ (2 ≤ k → ∀ p, H p = none → Q (.ref p) (upd H p (.tup (List.replicate k.toNat xs).flatten)))
theorem op_repA {X : Cx} : OpR X (binaryOp .Mult) (rRepA X.K) := by
  intro pins s σ H x y v u Q I rx ry h
  obtain ⟨l, k, xs, ex, ey, hT, hne, h1, h2, hz, q1, q2⟩ := h
  by_cases hk : 2 ≤ k
  · exact op_repT pins s σ H x y v u Q I rx ry ⟨l, k, xs, ex, ey, hT, hne, hk, h2, hz, q2 hk⟩
  · have e1 : k = 1 := by omega
    subst ex ey e1
    cases rx
    obtain ⟨t, rfl⟩ := ry
    obtain ⟨its, r, ⟨⟨cls, dd, data, sl⟩, ho, hc, n, hd⟩, hs⟩ := I.tuple hT
    simp only at hc hd
    subst hc hd
    have hle : its.length = xs.length := r.length.symm
    have hn : its ≠ [] := fun e => hne (by
      rw [e] at hle
      exact List.eq_nil_of_length_eq_zero hle.symm)
    have hi : its.toArray.isEmpty = false := by
      cases its with
      | nil => exact absurd rfl hn
      | cons a b => rfl
    exact wpAny_binaryOp_repeat_ref (T := "tuple") (U := "int") (by decide) ⟨_, ho, rfl⟩ (fun s' => typeIs_int s' 1 t) noFill_tuple_mul F.fills_int_mul F.slot_int_rmul repeat_tuple F.slot_int_index.lookup
      (call_meets F.slot_int_rmul (typeIs_int s 1 t) F.entry_int_rmul (F.args_int_rmul_2 _ _) (int_rmul_tuple 1 t l its.toArray n dd sl)
        ⟨ho, rfl, ⟨_, ho, rfl⟩, call_meets F.slot_tuple_mul ⟨_, ho, rfl⟩ F.entry_tuple_mul (F.args_tuple_mul_2 _ _) (tuple_mul1 l its.toArray n dd sl t hi) ⟨ho, .ref l, H, I, rfl, q1 rfl⟩⟩)
end Ol

set_option Elab.async false
set_option linter.all false
set_option maxRecDepth 100000
set_option maxHeartbeats 4000000
namespace Ol
open PySem PySem.Spec PyProof.Rows L2

/-- a method that may raise, within a try -/
def tMethX (C : Addr) (m : Str) (sp : Sp) (E : L2.St → XK) (ta : TE) (t : TA) : TE := fun σ H Q => ta σ H fun x H1 => ∃ a dx fs, x = .ref a ∧ H1 a = some (.ins C dx fs) ∧ fs.lookup m = none ∧
  t σ H1 fun vs H2 => sp (x :: vs) H2 Q (E σ)
/-- a method that may raise, and its promise -/
structure CmX (P : Program) (w : World) (K : PySem.W.Frag) (mg : Str → Option Value) (base : Heap)
    (C : Addr) (k : Nat) (m : Str) (ps : List Str) (sp : Sp) : Prop where
  has : ∃ (f : Addr) (fd : FuncData), FnOk P w K mg base (L2.CX P w) k f fd ps sp ∧ Meth K C m f ∧ Binds K fd ps []
section
variable {X : Cx} {k : Nat} {C : Addr} {ps : List Str} {sp : Sp} {m : Str} {o e : Expr} {es : List Expr} {ta : TE} {t : TA} {apos pos : Pos} {E : L2.St → XK}
theorem pe_cmX {pl : Sem Bool} (M : CmX X.prog X.w X.K X.mg X.base C k m ps sp) (c : Cls X.K C) (hr : Room k X.A) (hx : ∀ σ, PassesAt (L2.CX X.prog X.w) X σ (E σ)) (he : PE X o ta) (ha : PA X (e :: es) t)
    (hst : starEach (e :: es) X.env = (false, eval e X.env) :: starEach es X.env := by rfl) (hpl : (backTo pos (starEach es X.env)).any (·.1) = false := by rfl)
    (ht : eval (.Call (.Attribute o m apos) (e :: es) [] pos) X.env = (do
      let ov ← eval o X.env
      standAt apos.atName
      let (f, first) ← holding [ov] (getMethod ov m pl)
      callWith pos f first (backTo pos (starEach (e :: es) X.env)) (backToKw pos (keywordEach [] X.env))) := by rfl) :
    PE X (.Call (.Attribute o m apos) (e :: es) [] pos) (tMethX C m sp E ta t) := by
  obtain ⟨f, fd, F, hm, b⟩ := M.has
  refine ⟨fun pins s σ H Q I h => ?_⟩
  refine PySem.W.methodCall_KW (pl := pl) (thn (he.run pins s σ H _ I h) fun u s1 ⟨x, H1, I1, rx, a, dx, fs, ex, ea, l, q⟩ => ?_) ht
  subst ex
  obtain rfl : u = Value.ref a := rx
  refine getmeth_ok I1 ea c hm l ?_
  refine PySem.W.callWith_K (first := [.ref a]) (h₀ := X.base) I.ok.mod.kin hm.kp (thn (ha.run pos pins s1 σ H1 _ I1 q) fun us s2 ⟨vs, H2, I2, r, q2⟩ => ⟨I2.kIn, ?_⟩) hst hpl
  exact run_fnS (us := .ref a :: us) (vs := .ref a :: vs) F hr b (hx σ) I2 (.cons rfl r) q2
end
end Ol

set_option Elab.async false
set_option linter.all false
set_option maxRecDepth 100000
set_option maxHeartbeats 4000000
namespace Ol
open PySem PySem.Spec PyProof.Rows L2 RZ

theorem walk_zipT {K : PySem.W.Frag} {a b : Addr} {xs ys : List V} {n : Nat} (hn : n = min xs.length ys.length) : Walk (ItzT K a b) n (fun H => SqT K H a xs ∧ SqT K H b ys) (YPair (fun i => xs[i]?) (fun i => ys[i]?)) := by
  subst hn
  refine ⟨fun i _ hi q => ?_, fun _ q => ⟨xs, ys, q.1, q.2, by omega⟩, fun i H v H' _ q y => ?_⟩
  · have h1 : i < xs.length := by omega
    have h2 : i < ys.length := by omega
    exact ⟨xs, ys, xs[i], ys[i], q.1, q.2, by simp [h1], by simp [h2]⟩
  · obtain ⟨T, x, z, h1, h2, h3, h4, h5⟩ := y
    exact ⟨T, x, z, h1, h2, h3, h4 xs q.1, h5 ys q.2⟩

theorem ext_del {H H' : Hp} {D : Addr} (e : Ext H H') : Ext (del H D) (del H' D) := fun b o z => by
  by_cases c : b = D
  · rw [c, del_same] at z; cases z
  · rw [del_ne c] at z ⊢
    exact e _ _ z
theorem del_ext {H : Hp} {D : Addr} : Ext (del H D) H := fun b o z => by
  by_cases c : b = D
  · rw [c, del_same] at z; cases z
  · rw [del_ne c] at z
    exact z
theorem ext_to {H H' : Hp} {D : Addr} (e : Ext H H') (h : H D = none) : Ext H (del H' D) := fun b o z => by
  rw [del_ne (fun c => by rw [c, h] at z; cases z)]
  exact e _ _ z
theorem del_upd {H : Hp} {D : Addr} {o : HO} : del (upd H D o) D = del H D := by
  funext b
  by_cases c : b = D
  · rw [c, del_same, del_same]
  · rw [del_ne c, del_ne c, upd_ne c]
theorem del_at {H : Hp} {D p : Addr} {o u : HO} (h : H p = none) (hD : H D = some u) {H' : Hp} (h' : H' p = some o) : del H' D p = some o := by
  rw [del_ne (fun c => by rw [c, hD] at h; cases h)]
  exact h'
/-- what the second clause is to do in turn i of the first one -/
def Inner (P : Nat → Nat → List V → Hp → Prop) (D : Addr) (H : Hp) (g1 : TG) (tt1 : TT) (te : TE) (vs1 : List Nat) (i : Nat) (σ2 : L2.St) (J1 : It) (H4 : Hp) : Prop :=
  Ext H H4 ∧ ∃ n1 G1 Y1, Walk J1 n1 G1 Y1 ∧
    (∀ Hz, Ext (del H4 D) Hz → G1 Hz) ∧
    (∀ ys Hz, P i n1 ys Hz → P (i + 1) 0 ys Hz) ∧
    ∀ j y Ha Hb ys, j < n1 → Ext (del H4 D) Ha → Ha D = some (.lst ys) → Y1 j Ha y Hb → P i j ys (del Ha D) →
      ∀ (QY : V → Hp → Prop) (QN : Hp → Prop),
        (∀ y H5, Ext Ha H5 → P i (j + 1) (ys ++ [y]) (del H5 D) → QY y H5) →
        (∀ H5, Ext Ha H5 → P i (j + 1) ys (del H5 D) → QN H5) →
        g1 y (wipe σ2 vs1) Hb fun σ3 H5 => wipe σ3 vs1 = wipe σ2 vs1 ∧ tt1 σ3 H5 fun b H6 => if b = true then te σ3 H6 QY else QN H6
/-- a comprehension of two clauses (a test in the second one alone): P holds of both turns, the list so far, and all that stands but the list -/
theorem lc2_acc {J : It} {n : Nat} {G : Hp → Prop} {Y : Nat → Hp → V → Hp → Prop} (w : Walk J n G Y) {g : TG} {wi1 : TI} {g1 : TG} {tt1 : TT} {te : TE} {vs vs1 : List Nat} {σ : L2.St} {H1 : Hp} {D : Addr} {Qd : Hp → Prop}
    (P : Nat → Nat → List V → Hp → Prop) (up : ∀ i j xs H H', Ext H H' → P i j xs H → P i j xs H') (h0 : P 0 0 [] H1) (hD : H1 D = none)
    (hlen : ∀ i j xs H, P i j xs H → xs.length < sizeLine) (hG : ∀ H, Ext H1 H → G H)
    (hs : ∀ i x H H' xs, i < n → Ext H1 H → H D = some (.lst xs) → Y i H x H' → P i 0 xs (del H D) →
      ∀ R : L2.St → It → Hp → Prop, (∀ σ2 J1 H4, Inner P D H g1 tt1 te vs1 i σ2 J1 H4 → R σ2 J1 H4) →
      g x (wipe σ vs) H' fun σ2 H2 => wipe σ2 vs = wipe σ vs ∧ wi1 σ2 H2 (R σ2))
    (hd : ∀ H xs, Ext H1 H → H D = some (.lst xs) → P n 0 xs H → Qd H) :
    ∃ W : Nat → Nat → Hp → Prop, (∃ m, W 0 m (upd H1 D (.lst []))) ∧ ∀ i m H, W i m H →
      (J.stop i H ∧ Qd H) ∨ (J.go i H ∧ ∃ Nx : Hp → Prop, (∀ H', Nx H' → ∃ m', m' < m ∧ W (i + 1) m' H') ∧ ∀ x H', J.yld i H x H' → g x (wipe σ vs) H' fun σ2 H2 => wipe σ2 vs = wipe σ vs ∧ tYes σ2 H2 fun b H3 =>
        if b = true then wi1 σ2 H3 fun J1 H4 => ∃ W1 : Nat → Nat → Hp → Prop, (∃ m, W1 0 m H4) ∧ ∀ j k H, W1 j k H →
          (J1.stop j H ∧ Nx H) ∨ (J1.go j H ∧ ∃ Nx1 : Hp → Prop, (∀ H', Nx1 H' → ∃ k', k' < k ∧ W1 (j + 1) k' H') ∧ ∀ x H', J1.yld j H x H' → g1 x (wipe σ2 vs1) H' fun σ3 H5 => wipe σ3 vs1 = wipe σ2 vs1 ∧ tt1 σ3 H5 fun b H6 =>
            if b = true then te σ3 H6 fun y H7 => ∃ acc, H7 D = some (.lst acc) ∧ acc.length < sizeLine ∧ Nx1 (upd H7 D (.lst (acc ++ [y]))) else Nx1 H6)
        else Nx H3) := by
  have e1 : Ext H1 (upd H1 D (.lst [])) := Ext.new hD
  let Pv : Nat → Hp → Prop := fun i H => ∃ xs, Ext H1 H ∧ H D = some (.lst xs) ∧ P i 0 xs (del H D)
  refine ⟨fun i m H => m = n - i ∧ i ≤ n ∧ Pv i H, ⟨n, by simp, Nat.zero_le _, [], e1, upd_same, up 0 0 [] _ _ (ext_to e1 hD) h0⟩, ?_⟩
  rintro i m H ⟨rfl, hi, xs, e, hx, hp⟩
  have q := hG H e
  by_cases hlt : i < n
  · refine .inr ⟨w.goes i H hlt q, Pv (i + 1), fun H' p' => ⟨n - (i + 1), by omega, rfl, hlt, p'⟩, fun x H' y => ?_⟩
    refine hs i x H H' xs hlt e hx (w.yields i H x H' hlt q y) hp (fun σ2 J1 H4 => ∃ W1 : Nat → Nat → Hp → Prop, (∃ m, W1 0 m H4) ∧ ∀ j k H, W1 j k H →
          (J1.stop j H ∧ Pv (i + 1) H) ∨ (J1.go j H ∧ ∃ Nx1 : Hp → Prop, (∀ H', Nx1 H' → ∃ k', k' < k ∧ W1 (j + 1) k' H') ∧ ∀ x H', J1.yld j H x H' → g1 x (wipe σ2 vs1) H' fun σ3 H5 => wipe σ3 vs1 = wipe σ2 vs1 ∧ tt1 σ3 H5 fun b H6 =>
            if b = true then te σ3 H6 fun y H7 => ∃ acc, H7 D = some (.lst acc) ∧ acc.length < sizeLine ∧ Nx1 (upd H7 D (.lst (acc ++ [y]))) else Nx1 H6)) ?_
    rintro σ2 J1 H4 ⟨e4, n1, G1, Y1, w1, hG1, hend, hst⟩
    have e14 : Ext H1 (del H4 D) := ext_to (e.trans e4) hD
    let Pj : Nat → Hp → Prop := fun j Ha => ∃ ys, Ext (del H4 D) (del Ha D) ∧ Ha D = some (.lst ys) ∧ P i j ys (del Ha D)
    refine ⟨fun j k Ha => k = n1 - j ∧ j ≤ n1 ∧ Pj j Ha, ⟨n1, by simp, Nat.zero_le _, xs, Ext.refl _, e4 _ _ hx, up _ _ _ _ _ (ext_del e4) hp⟩, ?_⟩
    rintro j k Ha ⟨rfl, hj, ys, ea, hy, hpj⟩
    have ea2 : Ext (del H4 D) Ha := ea.trans del_ext
    have q1 := hG1 Ha ea2
    by_cases hl1 : j < n1
    · refine .inr ⟨w1.goes j Ha hl1 q1, Pj (j + 1), fun H' p' => ⟨n1 - (j + 1), by omega, rfl, hl1, p'⟩, fun x1 Hb y1 => ?_⟩
      refine hst j x1 Ha Hb ys hl1 ea2 hy (w1.yields j Ha x1 Hb hl1 q1 y1) hpj _ _ ?_ ?_
      · intro v H5 e5 k
        exact ⟨ys, e5 _ _ hy, hlen _ _ _ _ hpj, ys ++ [v], by rw [del_upd]; exact ea.trans (ext_del e5), upd_same, by rw [del_upd]; exact k⟩
      · intro H5 e5 k
        exact ⟨ys, ea.trans (ext_del e5), e5 _ _ hy, k⟩
    · have ej : j = n1 := by omega
      subst ej
      exact .inl ⟨w1.stops Ha q1, ys, e14.trans ea2, hy, hend _ _ hpj⟩
  · have ei : i = n := by omega
    subst ei
    exact .inl ⟨w.stops H q, hd H xs e hx (up _ _ _ _ _ del_ext hp)⟩
/-- of one clause, in the same words -/
theorem lc1_acc {J : It} {n : Nat} {G : Hp → Prop} {Y : Nat → Hp → V → Hp → Prop} (w : Walk J n G Y) {g : TG} {tt : TT} {te : TE} {vs : List Nat} {σ : L2.St} {H1 : Hp} {D : Addr} {Qd : Hp → Prop}
    (P : Nat → List V → Hp → Prop) (up : ∀ i xs H H', Ext H H' → P i xs H → P i xs H') (h0 : P 0 [] H1) (hD : H1 D = none)
    (hlen : ∀ i xs H, P i xs H → xs.length < sizeLine) (hG : ∀ H, Ext H1 H → G H)
    (hs : ∀ i x H H' xs, i < n → Ext H1 H → H D = some (.lst xs) → Y i H x H' → P i xs (del H D) →
      ∀ (QY : V → Hp → Prop) (QN : Hp → Prop),
        (∀ y H4, Ext H H4 → P (i + 1) (xs ++ [y]) (del H4 D) → QY y H4) →
        (∀ H4, Ext H H4 → P (i + 1) xs (del H4 D) → QN H4) →
        g x (wipe σ vs) H' fun σ2 H2 => wipe σ2 vs = wipe σ vs ∧ tt σ2 H2 fun b H3 => if b = true then te σ2 H3 QY else QN H3)
    (hd : ∀ H xs, Ext H1 H → H D = some (.lst xs) → P n xs H → Qd H) :
    ∃ W : Nat → Nat → Hp → Prop, (∃ m, W 0 m (upd H1 D (.lst []))) ∧ ∀ i m H, W i m H →
      (J.stop i H ∧ Qd H) ∨ (J.go i H ∧ ∃ Nx : Hp → Prop, (∀ H', Nx H' → ∃ m', m' < m ∧ W (i + 1) m' H') ∧ ∀ x H', J.yld i H x H' → g x (wipe σ vs) H' fun σ2 H2 => wipe σ2 vs = wipe σ vs ∧ tt σ2 H2 fun b H3 =>
        if b = true then te σ2 H3 fun y H4 => ∃ acc, H4 D = some (.lst acc) ∧ acc.length < sizeLine ∧ Nx (upd H4 D (.lst (acc ++ [y]))) else Nx H3) := by
  have e1 : Ext H1 (upd H1 D (.lst [])) := Ext.new hD
  refine lc_it w (fun i H => ∃ xs, Ext H1 H ∧ H D = some (.lst xs) ∧ P i xs (del H D)) ⟨[], e1, upd_same, up 0 [] _ _ (ext_to e1 hD) h0⟩ (by rintro i H _ ⟨xs, e, _⟩; exact hG H e) ?_ ?_
  · rintro i x H H' hi ⟨xs, e, hx, hp⟩ y
    refine hs i x H H' xs hi e hx y hp _ _ ?_ ?_
    · intro v H4 e4 k
      exact ⟨xs, e4 _ _ hx, hlen _ _ _ hp, xs ++ [v], Ext.mut (e.trans e4) hD, upd_same, by rw [del_upd]; exact k⟩
    · intro H4 e4 k
      exact ⟨xs, e.trans e4, e4 _ _ hx, k⟩
  · rintro H ⟨xs, e, hx, hp⟩
    exact hd H xs e hx (up _ _ _ _ del_ext hp)
end Ol

set_option Elab.async false
set_option linter.all false
set_option maxRecDepth 100000
set_option maxHeartbeats 4000000
namespace Ol
open PySem PySem.Spec PyProof.Rows L2
/-- what the second clause is to do in turn i of the first one; the dict stands at D -/
def InnerD (P : Nat → Nat → List (Key × V) → Hp → Prop) (D : Addr) (H : Hp) (g1 : TG) (tt1 : TT) (tk tv : TE) (vs1 : List Nat) (i : Nat) (σ2 : L2.St) (J1 : It) (H4 : Hp) : Prop :=
  Ext H H4 ∧ ∃ n1 G1 Y1, Walk J1 n1 G1 Y1 ∧
    (∀ Hz, Ext (del H4 D) Hz → G1 Hz) ∧
    (∀ kvs Hz, P i n1 kvs Hz → P (i + 1) 0 kvs Hz) ∧
    ∀ j y Ha Hb kvs, j < n1 → Ext (del H4 D) Ha → Ha D = some (.dK kvs) → Y1 j Ha y Hb → P i j kvs (del Ha D) →
      ∀ (QY : V → V → Hp → Prop) (QN : Hp → Prop),
        (∀ k v H5, Ext Ha H5 → P i (j + 1) (putK kvs k v) (del H5 D) → QY (kV k) v H5) →
        (∀ H5, Ext Ha H5 → P i (j + 1) kvs (del H5 D) → QN H5) →
        g1 y (wipe σ2 vs1) Hb fun σ3 H5 => wipe σ3 vs1 = wipe σ2 vs1 ∧ tt1 σ3 H5 fun b H6 => if b = true then tk σ3 H6 fun key H7 => tv σ3 H7 fun val H8 => QY key val H8 else QN H6
/-- P holds of both turns, the dict so far, and all that stands but the dict -/
theorem dc2_acc {J : It} {n : Nat} {G : Hp → Prop} {Y : Nat → Hp → V → Hp → Prop} (w : Walk J n G Y) {g : TG} {wi1 : TI} {g1 : TG} {tt1 : TT} {tk tv : TE} {vs vs1 : List Nat} {σ : L2.St} {H1 : Hp} {D : Addr} {Qd : Hp → Prop}
    (P : Nat → Nat → List (Key × V) → Hp → Prop) (up : ∀ i j kvs H H', Ext H H' → P i j kvs H → P i j kvs H') (h0 : P 0 0 [] H1) (hD : H1 D = none)
    (few : ∀ i j kvs H, P i j kvs H → kvs.length < sizeLine) (hG : ∀ H, Ext H1 H → G H)
    (step : ∀ i x H H' kvs, i < n → Ext H1 H → H D = some (.dK kvs) → Y i H x H' → P i 0 kvs (del H D) →
      ∀ R : L2.St → It → Hp → Prop, (∀ σ2 J1 H4, InnerD P D H g1 tt1 tk tv vs1 i σ2 J1 H4 → R σ2 J1 H4) →
      g x (wipe σ vs) H' fun σ2 H2 => wipe σ2 vs = wipe σ vs ∧ wi1 σ2 H2 (R σ2))
    (last : ∀ H kvs, Ext H1 H → H D = some (.dK kvs) → P n 0 kvs H → Qd H) :
    ∃ W : Nat → Nat → Hp → Prop, (∃ m, W 0 m (upd H1 D (.dK []))) ∧ ∀ i m Hb, W i m Hb →
      (J.stop i Hb ∧ Qd Hb) ∨ (J.go i Hb ∧ ∃ On : Hp → Prop, (∀ Hc, On Hc → ∃ m2, m2 < m ∧ W (i + 1) m2 Hc) ∧ ∀ x Hc, J.yld i Hb x Hc → g x (wipe σ vs) Hc fun σ2 Hd => wipe σ2 vs = wipe σ vs ∧ tYes σ2 Hd fun b He =>
        if b = true then wi1 σ2 He fun J1 Hf => ∃ V1 : Nat → Nat → Hp → Prop, (∃ k, V1 0 k Hf) ∧ ∀ j k Hg, V1 j k Hg →
          (J1.stop j Hg ∧ On Hg) ∨ (J1.go j Hg ∧ ∃ On1 : Hp → Prop, (∀ Hh, On1 Hh → ∃ k2, k2 < k ∧ V1 (j + 1) k2 Hh) ∧ ∀ y Hh, J1.yld j Hg y Hh → g1 y (wipe σ2 vs1) Hh fun σ3 Hi => wipe σ3 vs1 = wipe σ2 vs1 ∧ tt1 σ3 Hi fun b1 Hj =>
            if b1 = true then tk σ3 Hj fun key Hk => tv σ3 Hk fun val Hl => ∃ kvs k, key = kV k ∧ Hl D = some (.dK kvs) ∧ kvs.length < sizeLine ∧ On1 (upd Hl D (.dK (putK kvs k val))) else On1 Hj)
        else On He) := by
  have e1 : Ext H1 (upd H1 D (.dK [])) := Ext.new hD
  let Pv : Nat → Hp → Prop := fun i H => ∃ kvs, Ext H1 H ∧ H D = some (.dK kvs) ∧ P i 0 kvs (del H D)
  refine ⟨fun i m H => m = n - i ∧ i ≤ n ∧ Pv i H, ⟨n, by simp, Nat.zero_le _, [], e1, upd_same, up 0 0 [] _ _ (ext_to e1 hD) h0⟩, ?_⟩
  rintro i m H ⟨rfl, hi, kvs, e, hx, hp⟩
  have q := hG H e
  by_cases hlt : i < n
  · refine .inr ⟨w.goes i H hlt q, Pv (i + 1), fun H' p' => ⟨n - (i + 1), by omega, rfl, hlt, p'⟩, fun x H' y => ?_⟩
    refine step i x H H' kvs hlt e hx (w.yields i H x H' hlt q y) hp (fun σ2 J1 Hf => ∃ V1 : Nat → Nat → Hp → Prop, (∃ k, V1 0 k Hf) ∧ ∀ j k Hg, V1 j k Hg →
          (J1.stop j Hg ∧ Pv (i + 1) Hg) ∨ (J1.go j Hg ∧ ∃ On1 : Hp → Prop, (∀ Hh, On1 Hh → ∃ k2, k2 < k ∧ V1 (j + 1) k2 Hh) ∧ ∀ y Hh, J1.yld j Hg y Hh → g1 y (wipe σ2 vs1) Hh fun σ3 Hi => wipe σ3 vs1 = wipe σ2 vs1 ∧ tt1 σ3 Hi fun b1 Hj =>
            if b1 = true then tk σ3 Hj fun key Hk => tv σ3 Hk fun val Hl => ∃ kvs k, key = kV k ∧ Hl D = some (.dK kvs) ∧ kvs.length < sizeLine ∧ On1 (upd Hl D (.dK (putK kvs k val))) else On1 Hj)) ?_
    rintro σ2 J1 H4 ⟨e4, n1, G1, Y1, w1, hG1, hend, hst⟩
    have e14 : Ext H1 (del H4 D) := ext_to (e.trans e4) hD
    let Pj : Nat → Hp → Prop := fun j Ha => ∃ ks, Ext (del H4 D) (del Ha D) ∧ Ha D = some (.dK ks) ∧ P i j ks (del Ha D)
    refine ⟨fun j k Ha => k = n1 - j ∧ j ≤ n1 ∧ Pj j Ha, ⟨n1, by simp, Nat.zero_le _, kvs, Ext.refl _, e4 _ _ hx, up _ _ _ _ _ (ext_del e4) hp⟩, ?_⟩
    rintro j k Ha ⟨rfl, hj, ks, ea, hy, hpj⟩
    have ea2 : Ext (del H4 D) Ha := ea.trans del_ext
    have q1 := hG1 Ha ea2
    by_cases hl1 : j < n1
    · refine .inr ⟨w1.goes j Ha hl1 q1, Pj (j + 1), fun H' p' => ⟨n1 - (j + 1), by omega, rfl, hl1, p'⟩, fun x1 Hb y1 => ?_⟩
      refine hst j x1 Ha Hb ks hl1 ea2 hy (w1.yields j Ha x1 Hb hl1 q1 y1) hpj (fun key val Hl => ∃ kvs k, key = kV k ∧ Hl D = some (.dK kvs) ∧ kvs.length < sizeLine ∧ Pj (j + 1) (upd Hl D (.dK (putK kvs k val)))) _ ?_ ?_
      · intro k v H5 e5 z
        exact ⟨ks, k, rfl, e5 _ _ hy, few _ _ _ _ hpj, putK ks k v, by rw [del_upd]; exact ea.trans (ext_del e5), upd_same, by rw [del_upd]; exact z⟩
      · intro H5 e5 z
        exact ⟨ks, ea.trans (ext_del e5), e5 _ _ hy, z⟩
    · have ej : j = n1 := by omega
      subst ej
      exact .inl ⟨w1.stops Ha q1, ks, e14.trans ea2, hy, hend _ _ hpj⟩
  · have ei : i = n := by omega
    subst ei
    exact .inl ⟨w.stops H q, last H kvs e hx (up _ _ _ _ _ del_ext hp)⟩
end Ol

set_option Elab.async false
set_option linter.all false
set_option maxRecDepth 100000
set_option maxHeartbeats 4000000
namespace Ol
open PySem PySem.Spec PyProof.Rows L2

/-! ### a dict comprehension whose keys are tuples -/
abbrev DC1 (kx vx t0 i0 : Expr) (f0 : List Expr) (scope : Scope) (pos : Pos) : Expr := .DictComp kx vx [⟨t0, i0, f0, 0⟩] scope pos
section
variable {X : Cx} {pins : List (Addr × Obj)}
/-- one entry is laid, its key a tuple -/
theorem dt_laid {σ : L2.St} {H : Hp} {s : Shared} {B : Value → Shared → Prop} {D b : Addr} {kvs : List (List Key × V)} {k : List Key} {v : V} {u r : Value} {Q : Unit → Shared → Prop} (hk : X.A.units < cLine) (I : Inv X pins σ H s)
    (at_D : H D = some (.dT kvs)) (few : kvs.length < sizeLine) (at_b : H b = some (.tup (k.map kV))) (ru : RelV (.ref b) u) (rv : RelV v r) (h : ∀ s', Inv X pins σ (upd H D (.dT (putK kvs k v))) s' → Q () s') :
    wpAny (model X.prog X.w) X.A (dictSet D u r) Q B s := by
  cases (show u = Value.ref b from ru)
  obtain ⟨lz, nsys, xs, rel, dd⟩ := dt_of I.hok at_D
  have lz2 : xs.length ≤ sizeLine := by rw [← Paired.length rel]; exact lz
  have lz3 : (putK kvs k v).length ≤ sizeLine := Nat.le_trans (length_putK kvs k v) few
  refine wpAny_dictSet_heap (hsz := lz2) (show (tupleKind (mixKind X.prog X.w)).room X.A from hk) (key_of I.hok at_b) dd ?_
  intro h2 dd2 same
  apply h
  obtain ⟨o2, es2, ep2, g1, g2, g3, g4, _, g5⟩ := dd2
  refine d_write I (by rw [at_D]; exact True.intro) same ⟨o2, g1⟩ ⟨lz3, nsys, _, (rel.put k at_b rv).keeps ?_, o2, es2, ep2, g1, g2, g3, g4, g5⟩
  intro c ys at_c
  rw [upd_ne (ne_of at_c at_D (fun z => nomatch z))]
  exact at_c
end
section
variable {X : Cx}
def tDcT (wi : TI) (g : TG) (tt : TT) (tk tv : TE) (vs : List Nat) : TE := fun σ H Q => wi σ H fun J Ha => ∀ D, Ha D = none → ∃ W : Nat → Nat → Hp → Prop, (∃ m, W 0 m (upd Ha D (.dT []))) ∧ ∀ i m Hb, W i m Hb →
  (J.stop i Hb ∧ Q (.ref D) Hb) ∨ (J.go i Hb ∧ ∃ On : Hp → Prop, (∀ Hc, On Hc → ∃ m', m' < m ∧ W (i + 1) m' Hc) ∧ ∀ x Hc, J.yld i Hb x Hc → g x (wipe σ vs) Hc fun σ2 H2 => wipe σ2 vs = wipe σ vs ∧ tt σ2 H2 fun b H3 =>
    if b = true then tk σ2 H3 fun y H4 => tv σ2 H4 fun z H5 => ∃ kvs k t, y = .ref t ∧ H5 t = some (.tup (k.map kV)) ∧ H5 D = some (.dT kvs) ∧ kvs.length < sizeLine ∧ On (upd H5 D (.dT (putK kvs k z))) else On H3)
theorem pe_dcT {kx vx t0 i0 : Expr} {f0 : List Expr} {scope : Scope} {own : List (Str × Nat)} {pos : Pos} {wi : TI} {g : TG} {tt : TT} {tk tv : TE} (calm : X.calm = true) (hu : X.A.units + 1 < cLine) (nd : X.N.Nodup) (src : PI X t0 i0 wi) (ok : BlkOk X.N X.env.scope scope own)
    (pg : ∀ (s : Shared) (H : Hp) (C : Addr) (cl : List (Str × Addr)) (fp : List Addr), PG (X.blk s H scope (compEnvC scope cl C X.env) fp) t0 g)
    (pt : ∀ (s : Shared) (H : Hp) (C : Addr) (cl : List (Str × Addr)) (fp : List Addr), PTs (X.blk s H scope (compEnvC scope cl C X.env) fp) f0 tt)
    (pk : ∀ (s : Shared) (H : Hp) (C : Addr) (cl : List (Str × Addr)) (fp : List Addr), PE (X.blk s H scope (compEnvC scope cl C X.env) fp) kx tk)
    (pw : ∀ (s : Shared) (H : Hp) (C : Addr) (cl : List (Str × Addr)) (fp : List Addr), PE (X.blk s H scope (compEnvC scope cl C X.env) fp) vx tv)
    (plain : ∀ x, foldedSetIterable i0 X.env x = pure x := by intro _; rfl) :
    PE X (DC1 kx vx t0 i0 f0 scope pos) (tDcT wi g tt tk tv (own.map (·.2))) := by
  constructor
  intro pins s σ H Q I h
  rw [arm_eval_DictComp]
  have cells : ∀ y ∈ scope.names, y.2 = .free → ∃ c, X.env.cells.lookup y.1 = some c := by
    intro y my free
    exact I.ok.has _ (ok.free y my free)
  apply wpAny_comprehension_free (use := none) rfl plain (closure_ok cells) ok.kind (fun y my free => by rw [ok.uniq y my, free])
  apply thn (src.run pins s σ H _ I h)
  intro seen sa at_src
  apply thn at_src
  rintro itv s2 ⟨it, fp, tn, J, H2, rfl, I2, T, place, foot, q⟩
  refine wpAny_newObj_type (newEnv_comp ?_)
  generalize atD : s2.heap.objs.size = D
  obtain ⟨W, ⟨m0, w0⟩, go_on⟩ := q D (I2.hok.fresh (Nat.le_of_eq atD))
  generalize made : ({ s2 with heap := s2.heap.push { cls := .type "dict", data := .dict #[] } } : Shared) = s3
  have heap3 : s3.heap = s2.heap.push { cls := .type "dict", data := .dict #[] } := by rw [← made]
  have stays : ∀ b o, s2.heap.get? b = some o → s3.heap.get? b = some o := fun b o z => by
    rw [heap3]
    exact Heap.get?_push_of_some _ z
  have I3 : Inv X pins σ (upd H2 D (.dT [])) s3 := by
    rw [← made]
    apply I2.laid (t' := s2.toks) (fun b o z => Heap.get?_push_of_some _ z) (Nat.le_of_eq atD)
    rw [← atD]
    exact dt_empty s2.heap I2.big
  have foot3 : ∀ b ∈ fp, FpOk X pins (upd H2 D (.dT [])) b ∧ b < s3.heap.objs.size := by
    intro b mb
    obtain ⟨o, got, _⟩ := T.obj _ _ place b mb
    have lt := Heap.lt_size got
    have ne : b ≠ D := atD ▸ Nat.ne_of_lt lt
    constructor
    · exact ⟨by rw [upd_ne ne]; exact (foot b mb).1, (foot b mb).2⟩
    · rw [heap3, Heap.size_push]
      exact Nat.lt_succ_of_lt lt
  have place3 : tn 0 s3.heap := T.keep _ _ _ place fun b _ o z => stays b o z
  have I4 := block_start I3 ok nd foot3
  generalize ecl : cellsFrom (s3.heap.objs.size + 1) scope.names (cloFrom X.env.cells scope.names []) = cl at I4
  have pg := pg s3 (upd H2 D (.dT [])) s3.heap.objs.size cl fp
  have pt := pt s3 (upd H2 D (.dT [])) s3.heap.objs.size cl fp
  have pk := pk s3 (upd H2 D (.dT [])) s3.heap.objs.size cl fp
  have pw := pw s3 (upd H2 D (.dT [])) s3.heap.objs.size cl fp
  show codeAny _ _ (.compStart (DC1 kx vx t0 i0 f0 scope pos) 0 (.ref it) (.ref D) (compEnvC scope cl s3.heap.objs.size X.env)) (compPost (model X.prog X.w) X.A X.xe none _ (.ref D) s3.heap.objs.size) { s3 with heap := pushCells (s3.heap.push { cls := .type "dict", data := .dict #[] }) scope.names }
  have blank : ∀ b ∈ fp, (upd H2 D (.dT [])) b = none := fun b mb => (foot3 b mb).1.1
  generalize ece : compEnvC scope cl s3.heap.objs.size X.env = ce at I4 pg pt pk pw ⊢
  have here : ce.locals = s3.heap.objs.size := by subst ece; rfl
  generalize e3 : upd H2 D (.dT []) = H3 at I3 I4 pg pt pk pw w0 blank foot3
  generalize e4 : ({ s3 with heap := pushCells (s3.heap.push { cls := .type "dict", data := .dict #[] }) scope.names } : Shared) = s4 at I4 ⊢
  have place4 : tn 0 s4.heap := T.keep _ _ _ place3 fun b _ o z => by
    rw [← e4]
    exact pushCells_keeps _ _ _ _ (Heap.get?_push_of_some _ z)
  have foots : ∀ {σ' : L2.St} {H' : Hp} {s' : Shared}, Inv (X.blk s3 H3 scope ce fp) [] σ' H' s' → (∀ b ∈ fp, H' b = none) → ∀ b ∈ fp, FpOk (X.blk s3 H3 scope ce fp) [] H' b := by
    intro σ' H' s' I' no b mb
    have ex := I'.ok.exf b mb
    refine ⟨no b mb, ex.1, I'.ok.exfs b mb, .inl mb, fun x c z => ex.2 x c z, ?_⟩
    intro p mp
    have mp' : p ∈ ([] : List (Addr × Obj)) ++ [] := mp
    simp at mp'
  have whole : codeAny (model X.prog X.w) X.A (.compLoop (DC1 kx vx t0 i0 f0 scope pos) 0 (.ref it) (.ref D) ce) (compPost (model X.prog X.w) X.A X.xe none (EP X pins σ Q) (.ref D) s3.heap.objs.size) s4 := by
    refine compLoop_anyD (fun n s' => ∃ i H', Inv (X.blk s3 H3 scope ce fp) [] (wipe σ (own.map (·.2))) H' s' ∧ tn i s'.heap ∧ (∀ b ∈ fp, H' b = none) ∧ W i n H') ?_ m0 ⟨0, H3, I4, place4, blank, w0⟩
    rintro n s5 ⟨i, H5, I5, p5, b5, w5⟩
    rcases go_on i n H5 w5 with ⟨stop, fin⟩ | ⟨go, On, next, step⟩
    · apply thnF (T.done (X.blk s3 H3 scope ce fp) rfl rfl rfl calm i [] s5 _ H5 (fun _ _ => False) I5 (foots I5 b5) p5 stop)
      rintro got s6 ⟨rfl, I6⟩
      have I7 : Inv X pins σ H5 s6 := I3.call' (ch := fp) I6.os I6.base I6.hok I6.bare fun b mb =>
        let z := (foot3 b mb).1.2
        ⟨z.2.2.1, z.1, z.2.2.2.1, z.2.2.2.2⟩
      have none_here : H5 s3.heap.objs.size = none := by
        have z : H5 ce.locals = none := I6.free
        exact here ▸ z
      obtain ⟨ns, at_ns, _⟩ := I6.loc
      have at_ns : s6.heap.Ns ce.locals ns := at_ns
      rw [here] at at_ns
      obtain ⟨z0, z1, _, z3, z4, z5⟩ := I3.fpOk (Nat.le_refl _) none_here
      refine ⟨ns, at_ns, fun h2 same => ?_⟩
      exact ⟨.ref D, H5, I7.turned (t' := s6.toks) (fun b o ne z => (same.2 b ne).trans z) z0 z1 z3 z4 z5, rfl, fin⟩
    · apply thnF (T.item (X.blk s3 H3 scope ce fp) rfl rfl rfl calm i [] s5 _ H5 (fun _ _ => False) I5 (foots I5 b5) p5 go)
      rintro got s6 ⟨u, rfl, at_u⟩
      apply thnF at_u
      rintro _ s7 ⟨x, H7, I7, rx, y7, p7, b7⟩
      apply thnF (pg.run _ s7 _ H7 x u _ (I7.pinned (foots I7 b7) (T.obj _ _ p7)) rx (step x H7 y7))
      rintro _ s8 ⟨σ8, H8, I8, hw, q8⟩
      apply thnF (pt.run _ s8 σ8 H8 _ I8 q8)
      rintro b s9 ⟨H9, I9, q9⟩
      have back : ∀ {s' : Shared} {H' : Hp}, Inv (X.blk s3 H3 scope ce fp) ([] ++ pinsAt fp s7.heap) σ8 H' s' → On H' → ∃ m, m < n ∧ ∃ i H', Inv (X.blk s3 H3 scope ce fp) [] (wipe σ (own.map (·.2))) H' s' ∧ tn i s'.heap ∧ (∀ b ∈ fp, H' b = none) ∧ W i m H' := by
        intro s' H' I' on
        obtain ⟨m, lt, w'⟩ := next H' on
        have pinned : ∀ c ∈ fp, ∀ o, s7.heap.get? c = some o → s'.heap.get? c = some o ∧ H' c = none := by
          intro c mc o got
          have z := I'.pin (c, o) (List.mem_append_right _ (List.mem_append_right _ (mem_pinsAt mc got)))
          exact ⟨z.1, z.2.1⟩
        refine ⟨m, lt, i + 1, H', (I'.unpinned (pins := [])).weak (hw ▸ wipe_length σ8 _) ?_, T.keep _ _ _ p7 (fun c mc o got => (pinned c mc o got).1), ?_, w'⟩
        · intro j v z
          rw [← hw] at z
          exact (wipe_some z).1
        · intro c mc
          obtain ⟨o, got, _⟩ := T.obj _ _ p7 c mc
          exact (pinned c mc o got).2
      by_cases yes : b = true
      case neg =>
        rw [if_neg yes] at q9 ⊢
        exact back I9 q9
      rw [if_pos yes] at q9 ⊢
      apply thnF (pk.run _ s9 σ8 H9 _ I9 q9)
      rintro uk s17 ⟨key, H17, I17, rk, q17⟩
      apply thnF (pw.run _ s17 σ8 H17 _ I17 q17)
      rintro uv s18 ⟨val, H18, I18, rv, kvs, kk, t, rfl, at_t, hD18, few, on1⟩
      have rk' : RelV (.ref t) uk := rk
      exact dt_laid (X := X.blk s3 H3 scope ce fp) (Nat.lt_of_succ_lt hu) I18 hD18 few at_t rk' rv fun s19 I19 => back I19 on1
  exact codeAny_compStart_dict whole (T.self X.A 0 _ _ _ place4 whole)
end
/-- over any walk -/
theorem dcT_it {J : It} {n : Nat} {G : Hp → Prop} {Y : Nat → Hp → V → Hp → Prop} (w : Walk J n G Y) {g : TG} {tt : TT} {tk tv : TE} {vs : List Nat} {σ : L2.St} {H1 : Hp} {D : Addr} {Qd : Hp → Prop} (Pv : Nat → Hp → Prop)
    (h0 : Pv 0 (upd H1 D (.dT []))) (hG : ∀ i H, i ≤ n → Pv i H → G H)
    (hs : ∀ i x H H', i < n → Pv i H → Y i H x H' → g x (wipe σ vs) H' fun σ2 H2 => wipe σ2 vs = wipe σ vs ∧ tt σ2 H2 fun b H3 =>
      if b = true then tk σ2 H3 fun y H4 => tv σ2 H4 fun z H5 => ∃ kvs k t, y = .ref t ∧ H5 t = some (.tup (k.map kV)) ∧ H5 D = some (.dT kvs) ∧ kvs.length < sizeLine ∧ Pv (i + 1) (upd H5 D (.dT (putK kvs k z))) else Pv (i + 1) H3) (hd : ∀ H, Pv n H → Qd H) :
    ∃ W : Nat → Nat → Hp → Prop, (∃ m, W 0 m (upd H1 D (.dT []))) ∧ ∀ i m H, W i m H →
      (J.stop i H ∧ Qd H) ∨ (J.go i H ∧ ∃ Nx : Hp → Prop, (∀ H', Nx H' → ∃ m', m' < m ∧ W (i + 1) m' H') ∧ ∀ x H', J.yld i H x H' → g x (wipe σ vs) H' fun σ2 H2 => wipe σ2 vs = wipe σ vs ∧ tt σ2 H2 fun b H3 =>
        if b = true then tk σ2 H3 fun y H4 => tv σ2 H4 fun z H5 => ∃ kvs k t, y = .ref t ∧ H5 t = some (.tup (k.map kV)) ∧ H5 D = some (.dT kvs) ∧ kvs.length < sizeLine ∧ Nx (upd H5 D (.dT (putK kvs k z))) else Nx H3) := by
  refine ⟨fun i m H => m = n - i ∧ i ≤ n ∧ Pv i H, ⟨n, by simp, Nat.zero_le _, h0⟩, ?_⟩
  rintro i m H ⟨rfl, hi, p⟩
  have q := hG i H hi p
  by_cases hlt : i < n
  · exact .inr ⟨w.goes i H hlt q, Pv (i + 1), fun H' p' => ⟨n - (i + 1), by omega, rfl, hlt, p'⟩, fun x H' y => hs i x H H' hlt p (w.yields i H x H' hlt q y)⟩
  · have e : i = n := by omega
    subst e
    exact .inl ⟨w.stops H q, hd H p⟩
end Ol

set_option Elab.async false
set_option linter.all false
set_option maxRecDepth 100000
set_option maxHeartbeats 4000000
namespace Ol
open PySem PySem.Spec PyProof.Rows L2

/-! ### list(d.values()) -/
def viewV (p d : Addr) : HO := .ext fun h => h.get? p = some ({ cls := .type "dict_values", data := .fields #[.ref d] } : Obj)
def rVwV : V → List V → Hp → VK → Prop := fun x xs H Q => ∃ (d : Addr) (kvs : List (Key × V)), x = .ref d ∧ xs = [] ∧ H d = some (.dK kvs) ∧ ∀ p, H p = none → Q (.ref p) (upd H p (viewV p d))
theorem mt_vwV {X : Cx} : MtR X "dict.values" rVwV := by
  intro pins s σ H x xs v us Q I rx rs h
  obtain ⟨d, kvs, rfl, rfl, hd, q⟩ := h
  cases rs
  cases (show v = Value.ref d from rx)
  obtain ⟨z, hs, vs, rel, dd⟩ := dk_of I.hok hd
  refine call_meetsIn PySem.F.slot_dict_values dd.typeIs PySem.F.entry_dict_values (PySem.F.args_dict_values_1 _) (meets_dict_values (mixKind X.prog X.w) d hs) ⟨⟨vs, dd⟩, ?_⟩
  have got : (s.heap.push ({ cls := .type "dict_values", data := .fields #[.ref d] } : Obj)).get? s.heap.objs.size = some { cls := .type "dict_values", data := .fields #[.ref d] } := Heap.get?_push_size _ rfl
  exact ⟨.ref s.heap.objs.size, _, I.laid (t' := s.toks) (fun b o y => Heap.get?_push_of_some _ y) (Nat.le_refl _) (show ObjOk X.prog X.w _ _ _ (viewV s.heap.objs.size d) from ⟨got, ⟨_, got⟩, fun h1 h2 y k => k _ y⟩), rfl, q _ (I.hok.fresh (Nat.le_refl _))⟩
theorem kv_vals : ∀ {kvs : List (Key × V)} {vs : List (Key × Value)}, L2.KV kvs vs → Vals (kvs.map (·.2)) (vs.map (·.2))
  | _, _, .nil => .nil
  | _, _, .cons h t => .cons h.2 (kv_vals t)
def rLstV : List V → Hp → VK → Prop := fun xs H Q => ∃ (p d : Addr) (kvs : List (Key × V)), xs = [.ref p] ∧ H p = some (viewV p d) ∧ H d = some (.dK kvs) ∧ ∀ l, H l = none → Q (.ref l) (upd H l (.lst (kvs.map (·.2))))
theorem call_lstV {X : Cx} (calm : X.calm = true) : CallR X (.type "list") rLstV := by
  intro pins s σ H xs us Q I r h
  obtain ⟨p, d, kvs, rfl, hp, hd, q⟩ := h
  obtain ⟨u, rfl, rx⟩ := vals1 r
  cases (show u = Value.ref p from rx)
  obtain ⟨z, hs, vs, rel, o0, es, ep, d1, d2⟩ := dk_of I.hok hd
  have hv := (show ObjOk X.prog X.w H s.heap p (viewV p d) from I.hok p _ hp).1
  have hl : vs.length ≤ sizeLine := by rw [← Paired.length rel]; exact z
  refine PySem.W.kdl_call (PySem.W.kdl_values (knd := mixKind X.prog X.w) (kvs := vs) (ep := ep)) (I.ok.hd calm) ⟨⟨_, hv, rfl, rfl⟩, ⟨o0, es, d1, d2⟩⟩ hl ?_
  intro h' tk acc c keep at_ its
  have e1 : acc.toList = vs.map (·.2) := PySem.W.kdl_vals_eq acc.toList (by rw [Array.length_toList]; exact its.1) fun j v hj => its.2 j v (by rw [← Array.getElem?_toList]; exact hj)
  refine ⟨.ref s.heap.objs.size, _, I.laid (t' := tk) keep (Nat.le_refl _) (show ObjOk X.prog X.w _ h' _ (.lst (kvs.map (·.2))) from ⟨by rw [List.length_map]; exact z, acc.toList, c, ?_, ?_⟩), rfl, q _ (I.hok.fresh (Nat.le_refl _))⟩
  · rw [e1]
    exact kv_vals rel
  · rw [Array.toArray_toList]
    exact at_
end Ol

set_option Elab.async false
set_option linter.all false
set_option maxRecDepth 100000
set_option maxHeartbeats 4000000
namespace Ol
open PySem PySem.Spec PyProof.Rows L2
/-- a list != [] -/
def rNeE (K : PySem.W.Frag) : R2 := fun x y H Q => ∃ a b xs, x = .ref a ∧ y = .ref b ∧ SqL K H a xs ∧ SqL K H b [] ∧ Q (.bl (!xs.isEmpty)) H
theorem op_neE {X : Cx} {k : Nat} (hr : Room k X.A) : OpR X (compareOp .NotEq) (rNeE X.K) := by
  intro pins s σ H x y v u Q I rx ry h
  obtain ⟨a, b, xs, rfl, rfl, h1, h2, q⟩ := h
  cases rx
  cases ry
  obtain ⟨its, r, pl, hz⟩ := I.list h1
  obtain ⟨its2, r2, pl2, hz2⟩ := I.list h2
  cases r2
  have hu := hr.units
  cases xs with
  | nil =>
    cases r
    exact SeqAt.RcNeAt.lists (e := fun _ => true) pl.isList pl2.isList rfl (by omega) (fun j h => absurd h (Nat.not_lt_zero j)) X.prog X.w _ _ ⟨.bl _, H, I, rfl, q⟩
  | cons x xs =>
    cases r
    exact SeqAt.RcNeAt.lists_lengths pl.isList pl2.isList rfl (by omega) X.prog X.w _ _ ⟨.bl _, H, I, rfl, q⟩
/-- a subscript of a list or of a tuple -/
def rIxA (K : PySem.W.Frag) : R2 := fun x y H Q => rIxL K x y H Q ∨ rIxT K x y H Q
theorem ix_any {X : Cx} : IxR X (rIxA X.K) := ix_list.or ix_tup
/-- a list or a tuple of these stands at a -/
def LT (H : Hp) (a : Addr) (xs : List V) : Prop := H a = some (.lst xs) ∨ H a = some (.tup xs)
theorem LT.up {H H' : Hp} {a : Addr} {xs : List V} (h : LT H a xs) (e : Ext H H') : LT H' a xs := h.imp (fun z => e _ _ z) (fun z => e _ _ z)
theorem LT.sq {K : PySem.W.Frag} {H : Hp} {a : Addr} {xs : List V} (h : LT H a xs) : SqL K H a xs ∨ SqT K H a xs := h.imp SqL.of SqT.of
theorem ixA {K : PySem.W.Frag} {H : Hp} {a : Addr} {xs : List V} {i : Int} {v : V} {Q : VK} (h : LT H a xs) (hi : atI xs i = some v) (q : Q v H) : rIxA K (.ref a) (.int i) H Q := by
  rcases h with h | h
  · exact .inl ⟨a, xs, i, v, rfl, rfl, SqL.of h, hi, q⟩
  · exact .inr ⟨a, xs, i, v, rfl, rfl, SqT.of h, hi, q⟩
/-- for over a list or a tuple -/
def iAny (K : PySem.W.Frag) (te : TE) : TI := fun σ H R => iList K te σ H R ∨ iTup K te σ H R
theorem pi_anyA {X : Cx} {tg l : Expr} {te : TE} (pe : PE X l te) : PI X tg l (iAny X.K te) := by
  constructor
  rintro pins s σ H R I (h | h)
  · exact (pi_list pe).run pins s σ H R I h
  · exact (pi_tup pe).run pins s σ H R I h
end Ol

set_option Elab.async false
set_option linter.all false
set_option maxRecDepth 100000
set_option maxHeartbeats 4000000
namespace Ol
open PySem PySem.Spec PyProof.Rows L2
/-- what stands behind a statement -/
theorem cutN {tf tg : TS} {D : Ends} {σ : L2.St} {H : Hp} (W : L2.St → Hp → Prop) (first : ∀ N : L2.St → Hp → Prop, (∀ σ' H', W σ' H' → N σ' H') → tf { D with nx := N } σ H) (rest : ∀ σ' H', W σ' H' → tg D σ' H') : tSeq tf tg D σ H :=
  first _ rest
/-- a list == [] -/
def rEqE (K : PySem.W.Frag) : R2 := fun x y H Q => ∃ a b xs, x = .ref a ∧ y = .ref b ∧ SqL K H a xs ∧ SqL K H b [] ∧ Q (.bl xs.isEmpty) H
theorem op_eqE {X : Cx} {k : Nat} (hr : Room k X.A) : OpR X (compareOp .Eq) (rEqE X.K) := by
  intro pins s σ H x y v u Q I rx ry h
  obtain ⟨a, b, xs, rfl, rfl, h1, h2, q⟩ := h
  cases rx
  cases ry
  obtain ⟨its, r, at_a, _⟩ := I.list h1
  obtain ⟨its2, r2, at_b, _⟩ := I.list h2
  cases r2
  have room := hr.units
  cases xs with
  | nil =>
    cases r
    exact SeqAt.eq_listAt (e := fun _ => true) at_a.isList at_b.isList rfl (by omega) (fun j less => absurd less (Nat.not_lt_zero j)) ⟨.bl _, H, I, rfl, q⟩
  | cons x xs =>
    cases r
    exact SeqAt.eq_list_lengthsAt at_a.isList at_b.isList rfl (by omega) ⟨.bl _, H, I, rfl, q⟩
end Ol

set_option Elab.async false
set_option linter.all false
set_option maxRecDepth 100000
set_option maxHeartbeats 4000000
namespace Ol
open PySem PySem.Spec PyProof.Rows L2
/-! ### t * 0 -/
theorem tuple_mul0 (l : Addr) (items : Array Value) (n : Nat) (dd : Option Addr) (sl : Array (Option Value)) (u : Tok) (hi : items.isEmpty = false) :
    Meets (Builtin.«tuple.__mul__» ⟨[.ref l, .int 0 u], []⟩) (fun _ R s => s.heap.get? l = some { cls := .type "tuple", dict := dd, data := .seq items n, slots := sl } ∧
      R (.ok (.ret (Value.ref s.heap.objs.size))) { s with heap := s.heap.push (seqObj "tuple" #[] 0) }) :=
  .of_wp fun prog w A R s h => by
    obtain ⟨hp, g, d, tk, os⟩ := s
    obtain ⟨hl, h⟩ := h
    have f1 := AutoSeq1.idx_int
    wp_walk using wpAny_loadPart' hl
    exact ⟨_, rfl, h⟩
/-- t * k, 0 ≤ k -/
def rRepZ (K : PySem.W.Frag) : R2 := fun x y H Q => rRepA K x y H Q ∨ ∃ l xs, x = .ref l ∧ y = .int 0 ∧ SqT K H l xs ∧ xs ≠ [] ∧ ∀ p, H p = none → Q (.ref p) (upd H p (.tup []))
theorem op_repZ {X : Cx} : OpR X (binaryOp .Mult) (rRepZ X.K) := by
  intro pins s σ H x y v u Q I rx ry h
  rcases h with h | ⟨l, xs, ex, ey, hT, hne, q⟩
  · exact op_repA pins s σ H x y v u Q I rx ry h
  · subst ex ey
    cases rx
    obtain ⟨t, rfl⟩ := ry
    obtain ⟨its, r, ⟨⟨cls, dd, data, sl⟩, ho, hc, n, hd⟩, hs⟩ := I.tuple hT
    simp only at hc hd
    subst hc hd
    have hle : its.length = xs.length := r.length.symm
    have hn : its ≠ [] := fun e => hne (by
      rw [e] at hle
      exact List.eq_nil_of_length_eq_zero hle.symm)
    have hi : its.toArray.isEmpty = false := by
      cases its with
      | nil => exact absurd rfl hn
      | cons a b => rfl
    exact wpAny_binaryOp_repeat_ref (T := "tuple") (U := "int") (by decide) ⟨_, ho, rfl⟩ (fun s' => typeIs_int s' 0 t) noFill_tuple_mul F.fills_int_mul F.slot_int_rmul repeat_tuple F.slot_int_index.lookup
      (call_meets F.slot_int_rmul (typeIs_int s 0 t) F.entry_int_rmul (F.args_int_rmul_2 _ _) (int_rmul_tuple 0 t l its.toArray n dd sl)
        ⟨ho, rfl, ⟨_, ho, rfl⟩, call_meets F.slot_tuple_mul ⟨_, ho, rfl⟩ F.entry_tuple_mul (F.args_tuple_mul_2 _ _) (tuple_mul0 l its.toArray n dd sl t hi) ⟨ho, .ref s.heap.objs.size, _, I.laid (o := .tup []) (fun b o z => Heap.get?_push_of_some _ z) (Nat.le_refl _) ⟨Nat.zero_le _, [], .nil, IsTup.new _ _⟩, rfl, q _ (I.hok.fresh (Nat.le_refl _))⟩⟩)
end Ol

set_option Elab.async false
set_option linter.all false
set_option maxRecDepth 100000
set_option maxHeartbeats 4000000
namespace Ol
open PySem PySem.Spec PyProof.Rows L2
/-! ### a head by one run: facts of the program's top as Bools -/
/-- a def: where its function stands, its names, its statement -/
structure DX where
  ad : PySem.W.Frag → Addr
  name : Str
  qual : Str
  st : Stmt
def noneV : Value → Bool
  | .none => true
  | _ => false
def DX.obs (K : PySem.W.Frag) (d : DX) : He.FnW := match K.lookup (d.ad K) with
  | some ⟨_, _, .func fd, _⟩ => some (fd.name, fd.qualname, fd.params, fd.body, fd.scope, fd.globals, fd.closure, fd.builtins)
  | _ => none
def DX.val (d : DX) : He.FnW := some (d.name, d.qual, defArgs d.st, .stmts (defBody d.st), defScope d.st, mainGlobals, [], builtinsNs)
def DX.ok (K : PySem.W.Frag) (d : DX) : Bool := PySem.W.keepIn K (.ref (d.ad K)) && match K.lookup (d.ad K) with
  | some ⟨_, _, .func fd, _⟩ => PySem.W.codeIn K fd.code d.qual && noneV fd.defaults
  | _ => false
theorem DX.fun_ {K : PySem.W.Frag} {d : DX} (h1 : d.obs K = d.val) (h2 : d.ok K = true) : ∃ (oc : Value) (od : Option Addr) (kV dc pm : Value) (an : Option Addr) (cd ct : Value) (sl : Array (Option Value)),
    K.lookup (d.ad K) = some ⟨oc, od, .func (PySem.W.fnOf d.name d.qual (defArgs d.st) (defBody d.st) (defScope d.st) .none kV dc pm an cd ct), sl⟩ ∧ PySem.W.codeIn K cd d.qual = true ∧ PySem.W.keepIn K (.ref (d.ad K)) = true := by
  unfold DX.obs DX.val at h1
  unfold DX.ok at h2
  rw [Bool.and_eq_true] at h2
  obtain ⟨hk, h2⟩ := h2
  split at h1
  · rename_i oc od fd sl e
    rw [e] at h2
    dsimp only at h2
    rw [Bool.and_eq_true] at h2
    obtain ⟨hc, hn⟩ := h2
    obtain ⟨a1, a2, a3, a4, a5, a6, a7, a8, a9, a10, a11, a12, a13, a14, a15⟩ := fd
    injection h1 with h1
    injection h1 with n1 h1
    injection h1 with n2 h1
    injection h1 with n3 h1
    injection h1 with n4 h1
    injection h1 with n5 h1
    injection h1 with n6 h1
    injection h1 with n7 n8
    dsimp only at n1 n2 n3 n4 n5 n6 n7 n8 hn hc
    have n9 : a8 = .none := by
      cases a8 <;> first | rfl | cases hn
    subst n9
    refine ⟨oc, od, a9, a10, a11, a12, a13, a14, sl, ?_, hc, hk⟩
    rw [e, n1, n2, n3, n4, n5, n6, n7, n8]
  · cases h1
/-- the addresses that n steps reach, and the code objects of these functions -/
def codeA (K : PySem.W.Frag) (f : Addr) : Addr := match K.lookup f with
  | some ⟨_, _, .func fd, _⟩ => match fd.code with
    | .ref c => c
    | _ => 0
  | _ => 0
def asX (n : Nat) (ps : List (PySem.W.Frag → Addr)) (g : Addr → Option Obj) : List Addr :=
  (fun l => l ++ ps.map fun p => codeA (He.frG g l) (p (He.frG g l))) (He.asD g n)
/-- all of these Bools -/
def hookX (as : (Addr → Option Obj) → List Addr) (ds : List DX) (L : PySem.W.Frag → List Bool) : PySem.W.Hook where
  α := List He.FnW × Bool
  obs := fun s => (ds.map (DX.obs (He.frG s.heap.get? (as s.heap.get?))), (L (He.frG s.heap.get? (as s.heap.get?))).all id && ds.all (DX.ok (He.frG s.heap.get? (as s.heap.get?))))
  val := fun _ => (ds.map DX.val, true)
  says := fun _ h => ∃ K : PySem.W.Frag, K.In h ∧ ds.map (DX.obs K) = ds.map DX.val ∧ ((L K).all id && ds.all (DX.ok K)) = true
  of := fun w s e => ⟨_, He.frG_in, congrArg Prod.fst e, congrArg Prod.snd e⟩
  keeps := fun w h h' ⟨K, hK, c⟩ k => ⟨K, PySem.W.Frag.In.keeps hK k, c⟩
def obX (as : (Addr → Option Obj) → List Addr) (ds : List DX) (L : PySem.W.Frag → List Bool) (s : PySem.W.SharedT) : List He.FnW × Bool :=
  (ds.map (DX.obs (He.frG (HandSHeadRun.getT s) (as (HandSHeadRun.getT s)))), (L (He.frG (HandSHeadRun.getT s) (as (HandSHeadRun.getT s)))).all id && ds.all (DX.ok (He.frG (HandSHeadRun.getT s) (as (HandSHeadRun.getT s)))))
theorem obX_eq (as : (Addr → Option Obj) → List Addr) (ds : List DX) (L : PySem.W.Frag → List Bool) (s : PySem.W.SharedT) : obX as ds L s = (hookX as ds L).obs s.abs := by
  have e : HandSHeadRun.getT s = s.abs.heap.get? := funext (HandSHeadRun.getT_eq s)
  unfold obX
  rw [e]
  rfl
theorem allX {bs : List Bool} (h : bs.all id = true) (i : Nat) {b : Bool} (e : bs[i]? = some b := by rfl) : b = true := List.all_eq_true.mp h b (List.mem_of_getElem? e)
theorem funX {K : PySem.W.Frag} {ds : List DX} (h1 : ds.map (DX.obs K) = ds.map DX.val) (h2 : ds.all (DX.ok K) = true) (i : Nat) {d : DX} (e : ds[i]? = some d := by rfl) : d.obs K = d.val ∧ d.ok K = true := by
  refine ⟨?_, List.all_eq_true.mp h2 d (List.mem_of_getElem? e)⟩
  have z : (ds.map (DX.obs K))[i]? = (ds.map DX.val)[i]? := by rw [h1]
  rw [List.getElem?_map, List.getElem?_map, e] at z
  exact Option.some.inj z
/-! ### single facts -/
def decO (a b : Option Bool) : Bool := decide (a = b)
theorem decO_ok {a b : Option Bool} (h : decO a b = true) : a = b := of_decide_eq_true h
def strB (K : PySem.W.Frag) (x z : Str) : Bool := match PySem.W.nsIn K mainGlobals x with
  | some (some (.str y _)) => decide (y = z)
  | _ => false
theorem strB_ok {K : PySem.W.Frag} {x z : Str} (h : strB K x z = true) : ∃ t, PySem.W.nsIn K mainGlobals x = some (some (.str z t)) := by
  unfold strB at h
  split at h
  · rename_i y t e
    have := of_decide_eq_true h
    subst this
    exact ⟨t, e⟩
  · cases h
def intB (K : PySem.W.Frag) (x : Str) (z : Int) : Bool := match PySem.W.nsIn K mainGlobals x with
  | some (some (.int y _)) => decide (y = z)
  | _ => false
theorem intB_ok {K : PySem.W.Frag} {x : Str} {z : Int} (h : intB K x z = true) : ∃ t, PySem.W.nsIn K mainGlobals x = some (some (.int z t)) := by
  unfold intB at h
  split at h
  · rename_i y t e
    have := of_decide_eq_true h
    subst this
    exact ⟨t, e⟩
  · cases h
/-- where a property's function stands -/
def prA (K : PySem.W.Frag) (p : Addr) : Addr := match PySem.W.recIn K p "property" with
  | some (.ref f :: _) => f
  | _ => 0
def prB (K : PySem.W.Frag) (p : Addr) : Bool := match PySem.W.recIn K p "property" with
  | some (.ref _ :: _) => true
  | _ => false
theorem prB_ok {K : PySem.W.Frag} {p : Addr} (h : prB K p = true) : ∃ rest, PySem.W.recIn K p "property" = some (.ref (prA K p) :: rest) := by
  unfold prB at h
  split at h
  · rename_i f r e
    refine ⟨r, ?_⟩
    unfold prA
    rw [e]
  · cases h
def strsB : List Value → List Str → Bool
  | [], [] => true
  | .str y _ :: vs, z :: zs => decide (y = z) && strsB vs zs
  | _, _ => false
def tupX (K : PySem.W.Frag) (a : Addr) (zs : List Str) : Bool := match K.lookup a with
  | some ⟨.type c, _, .seq its _, _⟩ => decide (c = "tuple") && strsB its.toList zs
  | _ => false
theorem strsB_ok : ∀ {vs : List Value} {zs : List Str}, strsB vs zs = true → ∃ ts : List Tok, ts.length = zs.length ∧ vs = (zs.zip ts).map fun p => .str p.1 p.2
  | [], [], _ => ⟨[], rfl, rfl⟩
  | .str y t :: vs, z :: zs, h => by
    unfold strsB at h
    rw [Bool.and_eq_true] at h
    obtain ⟨ts, l, e⟩ := strsB_ok h.2
    have := of_decide_eq_true h.1
    subst this
    exact ⟨t :: ts, by rw [List.length_cons, List.length_cons, l], by rw [e]; rfl⟩
  | [], _ :: _, h => by simp [strsB] at h
  | .str _ _ :: _, [], h => by simp [strsB] at h
theorem tupX_ok {K : PySem.W.Frag} {a : Addr} {zs : List Str} (h : tupX K a zs = true) : ∃ (od : Option Addr) (ts : List Tok) (n : Nat) (sl : Array (Option Value)), ts.length = zs.length ∧ K.lookup a = some ⟨.type "tuple", od, .seq ((zs.zip ts).map fun p => Value.str p.1 p.2).toArray n, sl⟩ := by
  unfold tupX at h
  split at h
  · rename_i c od its n sl e
    rw [Bool.and_eq_true] at h
    obtain ⟨ts, l, e2⟩ := strsB_ok h.2
    have := of_decide_eq_true h.1
    subst this
    refine ⟨od, ts, n, sl, l, ?_⟩
    rw [e, ← e2]
  · cases h
def noS (K : PySem.W.Frag) : Bool := (K.lookup sysModules).isNone
theorem noS_ok {K : PySem.W.Frag} (h : noS K = true) : K.lookup sysModules = none := Option.isNone_iff_eq_none.mp h
/-! ### the walk over such a head -/
theorem walkGE {l : PySem.W.OpenLaw} {n k : Nat} {q : Program} {loose : List Str}
    {XP : (Str → Option Value) → Heap → Prop} {YP : World → Heap → Prop} {d : DefRec} {x : Str}
    (hn : l.most = some n) (him : importsNone q = true) (hn2 : n ≤ sizeLine) (hdf : d.params.defaults = []) (hr : Room k callerA)
    (F : ∀ (w : World) (mg : Str → Option Value) (fa : Addr) (h : Heap), YP w h → h.Ns mainGlobals mg → mg d.name = some (.ref fa) →
      ∃ (K : PySem.W.Frag) (fd : FuncData) (sp : Sp), K.In h ∧ K.lookup sysModules = none ∧ (∀ (s : Shared) (u : Value), BindsTo s fd ⟨[u], []⟩ [(x, u)]) ∧
        (∀ (H : Hp) (a : Addr) (ns : List Int), ns.length ≤ n → Sys H → SqL K H a (ns.map V.int) → sp [.ref a] H (fun v _ => v = .bl true) E0) ∧
        ∀ base : Heap, K.In base → base.Ns mainGlobals mg → FnG l.prog w K mg base k fa fd [x] sp) :
    PySem.W.WalkO q loose XP YP l.row.toRowW d [] (fun f vs => PySem.call f vs) := by
  refine Att.attach_call hn hdf ?_
  intro w s0 s1 mg mb fa o pm cd doc a vs ns G Y ho hd hcd hmg hobj hints hlen hg
  obtain ⟨K, fd, sp, kin, kS, hb, hsp, hF⟩ := F w mg fa _ Y G.T.g hmg
  have hS : ∃ o, s1.heap.get? sysModules = some o := by
    obtain ⟨mm, ⟨o, es, ep, e, _⟩, _⟩ := (G.T.seer him).mods
    exact ⟨o, e⟩
  exact law_callG kin kS hS G.T.g G.T.b G.T.builtins G.T.nolimit hg hobj hints
    (Nat.le_trans hlen hn2) hr hF hb (fun H h1 h2 => hsp H a ns hlen h1 h2)
end Ol

set_option Elab.async false
set_option linter.all false
set_option maxRecDepth 100000
set_option maxHeartbeats 4000000
namespace Ol
open PySem PySem.Spec PyProof.Rows L2
/-! ### own classes of errors -/
/-- C is a class of errors of the text, behind own ones and ValueError -/
def xcB (K : PySem.W.Frag) (C : Addr) : Bool := match K.lookup C with
  | some ⟨.type t, _, .cls cd, sl⟩ => decide (t = "type") && (match cd.mro, sl.toList with
    | .ref C' :: bm, [_, _, _, _, some (.builtin n), _] => decide (C' = C) && (decide (n = "ValueError.__new__") && (cd.hasDict && (!cd.hasDel && PySem.HandSPX.refsVE bm)))
    | _, _ => false)
  | _ => false
theorem xcB_ok {K : PySem.W.Frag} {C : Addr} (q : xcB K C = true) : ∃ nm qn N bs bm sn sub ab col dd k0 k1 k2 k3 k5,
    K.lookup C = some (excClassObj nm qn C N bs bm true sn sub ab col dd k0 k1 k2 k3 k5 "ValueError.__new__") ∧ PySem.HandSPX.refsVE bm = true := by
  unfold xcB at q
  split at q
  · rename_i t dd cd sl look
    rw [Bool.and_eq_true] at q
    obtain ⟨q1, q⟩ := q
    have et := of_decide_eq_true q1
    subst et
    split at q
    · rename_i D bm k0 k1 k2 k3 n k5 em es
      simp only [Bool.and_eq_true, Bool.not_eq_true', decide_eq_true_eq] at q
      obtain ⟨rfl, rfl, hd, hdel, ht⟩ := q
      obtain ⟨nm, bs, mro, ns, qn, hdc, sn, sub, ab, col, del⟩ := cd
      dsimp only at em hd hdel
      subst em hd hdel
      have esl : sl = #[k0, k1, k2, k3, some (.builtin "ValueError.__new__"), k5] := by
        obtain ⟨ls⟩ := sl
        simp only at es
        rw [es]
      subst esl
      exact ⟨nm, qn, ns, bs, bm, sn, sub, ab, col, dd, k0, k1, k2, k3, k5, look, ht⟩
    · cases q
  · cases q
end Ol

set_option Elab.async false
set_option linter.all false
set_option maxRecDepth 100000
set_option maxHeartbeats 4000000
namespace K41
open PySem PySem.Spec PyProof.Rows L2 Ol
open TL (tl)
def topS (i : Nat) : Stmt := PySem.Challenge.pw_openlanes_k41_crowds_needed.main.body.getD i (.Pass ⟨0, 0, 0, 0⟩)
section
variable {P : Program} {w : World} {K : PySem.W.Frag} {mg : Str → Option Value} {base : Heap}
def isBoundD : PyData → Bool
  | .int i => decide (1 ≤ i)
  | _ => false
abbrev s_is_bound : Stmt := (topS 42)
theorem sc_is_bound : FnScope ["thing"] ["thing"] (defScope s_is_bound) := ⟨rfl, rfl, rfl, by decide +kernel, rfl, by decide +kernel, by decide +kernel⟩
theorem ok_is_bound {f : Addr} {fd : FuncData} (F : Fun K "is_bound" "is_bound" s_is_bound f fd) (C1 : Ca P w K mg base 1 "is_integer" ["thing"] (spPred Any isIntD)) :
    FnOk P w K mg base CX0 2 f fd ["thing"] (spPred Any isBoundD) := by
  refine F.ok sc_is_bound (fun vs H Q E h => ?_) (fun cdv A outer s H vs Q E hr h => ?_)
  · obtain ⟨v, d, rfl, _⟩ := h
    rfl
  · obtain ⟨v, d, rfl, hd, hz, q⟩ := h
    refine ⟨_, (pss_one (ps_ret (pe_and (pe_ca C1 (hr.mono (by decide)) (by rfl) (pa_cons (pv 0) pa_nil)) (pe_one (pe_cmpR op_ge (pv 0) pe_int (nomark _)))))), ?_⟩
    refine ⟨_, rfl, v, d, rfl, hd, trivial, fun H1 e1 => ⟨_, rfl, ?_⟩⟩
    refine ite2 (fun h => ?_) (fun h => ?_)
    · obtain ⟨i, rfl, rfl⟩ := dq_int hd h
      refine ⟨_, rfl, _, _, rfl, rfl, ?_⟩
      exact q H1 e1
    · have e : isBoundD d = false := by
        cases d with
        | int i => exact absurd rfl h
        | _ => rfl
      have q' := q H1 e1
      rw [e] at q'
      exact q'
/-- names with whole numbers, as a dict holds them -/
def kvI (ps : List (Str × Int)) : List (Key × V) := ps.map fun p => (.inr p.1, .int p.2)
def spIsBounds : Sp := fun vs H Q _ => ∃ (a : Addr) (ps : List (Str × Int)), vs = [.ref a] ∧ H a = some (.dK (kvI ps)) ∧ ps ≠ [] ∧ ps.length ≤ 1000 ∧
  (∀ p ∈ ps, isNameS p.1 = true ∧ 1 ≤ p.2) ∧ ∀ H', Ext H H' → Q (.bl true) H'
abbrev s_is_bounds : Stmt := (topS 43)
theorem sc_is_bounds : FnScope ["thing", "name", "bound"] ["thing"] (defScope s_is_bounds) := ⟨rfl, rfl, rfl, by decide +kernel, rfl, by decide +kernel, by decide +kernel⟩
theorem ok_is_bounds {f : Addr} {fd : FuncData} (F : Fun K "is_bounds" "is_bounds" s_is_bounds f fd) (T : BT mg)
    (C3 : Ca P w K mg base 1 "is_name" ["thing"] (spPred Ok1 isNameD)) (C4 : Ca P w K mg base 2 "is_bound" ["thing"] (spPred Any isBoundD)) :
    FnOk P w K mg base CX0 3 f fd ["thing"] spIsBounds := by
  refine F.ok sc_is_bounds (fun vs H Q E h => ?_) (fun cdv A outer s H vs Q E hr h => ?_)
  · obtain ⟨a, ps, rfl, _⟩ := h
    rfl
  · obtain ⟨a, ps, rfl, ha, hne, hl, hps, q⟩ := h
    refine ⟨_, (pss_cons (ps_if (PW.pt (pw_or (pt_not (pt_val (pe_callB call_isi (by rfl) T.n_isinstance (by decide +kernel) (pa_cons (pv 0) (pa_cons (pe_bltn (v := .ty "dict") (by rfl) T.n_dict (by decide +kernel) rfl) pa_nil))))) (pw_or1 (pt_cmpR op_eq (pe_callB call_lenD (by rfl) T.n_len (by decide +kernel) (pa_cons (pv 0) pa_nil)) pe_int (nomark _)))))
      (pss_one (ps_ret pe_bl))
      pss_nil)
    (pss_one (ps_ret (pe_callB (cr_all rfl) (by rfl) T.n_all (by decide +kernel) (pa_cons (pe_lock (pe_lc (own := [("name", 1), ("bound", 2)]) (g := gTup K 2 (gCons (gName 1) (gCons (gName 2) gNil))) (tt := tYes) rfl sc_is_bounds.nd (pi_items (pv 0)) (blkOk_by (N := ["thing", "name", "bound"]) (sc := defScope s_is_bounds) (by decide +kernel)) (fun _ _ _ _ _ => (pg_tup (by rfl) (pgs_cons (pg_name (i := 1) sc_is_bounds.nd rfl (.inl rfl)) (pgs_cons (pg_name (i := 2) sc_is_bounds.nd rfl (.inl rfl)) pgs_nil)))) (fun _ _ _ _ _ => pts_nil) (fun _ _ _ _ _ => (pe_and (pe_ca C3 (hr.mono (by decide)) (by rfl) (pa_cons (pv 1) pa_nil)) (pe_one (pe_ca C4 (hr.mono (by decide)) (by rfl) (pa_cons (pv 2) pa_nil))))))) pa_nil))))), ?_⟩
    refine ⟨_, rfl, _, _, _, _, _, rfl, .ty "dict", .base (.dK ha), ki_dict (.dict []), _, rfl, ?_⟩
    refine iteF ?_
    refine ⟨_, rfl, a, _, rfl, ha, rfl, _, rfl, ?_⟩
    have hlen : (kvI ps).length = ps.length := by unfold kvI; rw [List.length_map]
    refine ite2 (fun g => ?_) (fun _ => ?_)
    · have z := of_decide_eq_true g
      injection z with z
      rw [hlen] at z
      cases ps with
      | nil => exact absurd rfl hne
      | cons p ps => simp at z; omega
    refine ⟨a, _, ha, trivial, fun od => ⟨_, rfl, a, od, _, rfl, upd_same, fun D hD => ?_⟩⟩
    have nD : D ≠ a := fun z => by rw [z, upd_same] at hD; cases hD
    refine lc_acc walk_items (fun i xs _ => xs = List.replicate i (V.bl true)) (fun _ _ _ _ _ h => h) rfl hD (fun i xs _ h => by rw [h, List.length_replicate]; exact Nat.le_refl _) (by rw [hlen]; exact Nat.le_trans hl (by decide)) (fun H' e => e _ _ upd_same) ?_ ?_
    · rintro i x H1 H2 xs hi e1 ⟨T', y1, y2, rfl, hT, rfl, g1, g2⟩ hp QY QN kY kN
      have hi' : i < ps.length := by rw [← hlen]; exact hi
      have hk : (kvI ps)[i]? = some (.inr ps[i].1, .int ps[i].2) := by
        unfold kvI
        rw [List.getElem?_map, List.getElem?_eq_getElem hi']
        rfl
      have k1 : y1 = .str ps[i].1 := by
        have z := g1
        dsimp only at z
        rw [hk] at z
        exact (Option.some.inj z).symm
      have k2 : y2 = .int ps[i].2 := by
        have z := g2
        dsimp only at z
        rw [hk] at z
        exact (Option.some.inj z).symm
      subst k1
      subst k2
      obtain ⟨b1, b2⟩ := hps _ (List.getElem_mem hi')
      have eT := Ext.new (o := .tup [.str ps[i].1, .int ps[i].2]) hT
      refine ⟨T', _, rfl, SqT.of upd_same, rfl, _, _, rfl, _, _, rfl, rfl, rfl, ?_⟩
      refine tyes ?_
      refine ⟨_, rfl, _, _, rfl, .str _, (fun x hx => by cases hx; exact name_tx b1), fun H3 e3 => ⟨_, rfl, ?_⟩⟩
      rw [if_pos (show isNameD (.str ps[i].1) = true from b1)]
      refine ⟨_, rfl, _, _, rfl, .int _, trivial, fun H4 e4 => ?_⟩
      rw [show isBoundD (.int ps[i].2) = true from decide_eq_true b2]
      refine kY _ H4 ((eT.trans e3).trans e4) fun Hz _ hh => ?_
      rw [hh, List.replicate_succ']
    · rintro H1 xs e1 hx hp
      subst hp
      refine ⟨e1 _ _ upd_same, D, List.replicate (kvI ps).length true, rfl, SqL.of ?_, ?_⟩
      · rw [upd_ne nD, hx, List.map_replicate]
      · have e2 : Ext H (upd H1 a (.dK (kvI ps))) := fun b o z => by
          by_cases c : b = a
          · rw [c] at z ⊢
            rw [upd_same, ← ha, z]
          · rw [upd_ne c]
            exact e1 _ _ (by rw [upd_ne c]; exact z)
        have ea : (List.replicate (kvI ps).length true).all id = true := by simp
        rw [ea]
        exact q _ e2
end
end K41

set_option Elab.async false
set_option linter.all false
set_option maxRecDepth 100000
set_option maxHeartbeats 4000000
namespace K41
open PySem PySem.Spec PyProof.Rows L2 Ol
open TL (tl)
section
variable {P : Program} {w : World} {K : PySem.W.Frag} {mg : Str → Option Value} {base : Heap}
/-- the state of a lane, as data -/
def stD (c : Nat) (b : Bool) : PyData := .tuple [.int (c : Int), .bool b]
def optD : Option (Nat × Bool) → PyData
  | none => .none
  | some s => stD s.1 s.2
theorem st_inv {H : Hp} {v : V} {c : Nat} {b : Bool} (h : Dq H v (stD c b)) : ∃ a, v = .ref a ∧ H a = some (.tup [.int (c : Int), .bl b]) := by
  generalize e : stD c b = d at h
  cases h with
  | tup h t =>
    unfold stD at e
    cases e
    cases t with
    | cons t1 t2 =>
      cases t1
      cases t2 with
      | cons t3 t4 =>
        cases t3
        cases t4
        exact ⟨_, rfl, h⟩
  | _ => cases e
theorem st_new {H : Hp} {p : Addr} {c : Nat} {b : Bool} : Dq (upd H p (.tup [.int (c : Int), .bl b])) (.ref p) (stD c b) :=
  .tup upd_same (.cons (.int _) (.cons (.bl _) .nil))
def beh4 (word : Str) (c : Nat) (b : Bool) : Option (Nat × Bool) := if word = "close" ∧ b = false then some (c, true) else none
def beh3 (word : Str) (c : Nat) (b : Bool) : Option (Nat × Bool) := if word = "ended" ∧ b = true ∧ c = 0 then some (c, b) else beh4 word c b
def beh2 (word : Str) (c : Nat) (b : Bool) : Option (Nat × Bool) := if word = "take" ∧ 0 < c then some (c - 1, b) else beh3 word c b
/-- the state that an arm leaves -/
def beh (word : Str) (c : Nat) (b : Bool) (bd : Int) : Option (Nat × Bool) := if word = "send" ∧ b = false ∧ (c : Int) < bd then some (c + 1, false) else beh2 word c b
def spBehind : Sp := fun vs H Q _ => ∃ (word : Str) (v : V) (c : Nat) (b : Bool) (bd : Int), vs = [.str word, v, .int bd] ∧ Dq H v (stD c b) ∧
  ∀ (r : V) (H' : Hp), Ext H H' → Dq H' r (optD (beh word c b bd)) → Q r H'
theorem dec_word {a b : Str} : decide (V.str a = V.str b) = true ↔ a = b := by
  rw [decide_eq_true_eq]
  exact ⟨fun h => by injection h, fun h => by rw [h]⟩
abbrev s_state_behind : Stmt := (topS 26)
theorem sc_state_behind : FnScope ["word", "state", "bound", "count", "closed"] ["word", "state", "bound"] (defScope s_state_behind) := ⟨rfl, rfl, rfl, by decide +kernel, rfl, by decide +kernel, by decide +kernel⟩
theorem ok_state_behind {f : Addr} {fd : FuncData} (F : Fun K "state_behind" "state_behind" s_state_behind f fd) :
    FnOk P w K mg base CX0 1 f fd ["word", "state", "bound"] spBehind := by
  refine F.ok sc_state_behind (fun vs H Q E h => ?_) (fun cdv A outer s H vs Q E hr h => ?_)
  · obtain ⟨word, v, c, b, bd, rfl, _⟩ := h
    rfl
  · obtain ⟨word, v, c, b, bd, rfl, hv, q⟩ := h
    obtain ⟨a, rfl, ha⟩ := st_inv hv
    refine cutB (fun σ H' => σ = [some (.str word), some (.ref a), some (.int bd), some (.int (c : Int)), some (.bl b)] ∧ H' = H) ?_ ⟨_, (ps_asg (pv 1) (pg_tup (by rfl) (pgs_cons (pg_name (i := 3) sc_state_behind.nd rfl (.inl rfl)) (pgs_cons (pg_name (i := 4) sc_state_behind.nd rfl (.inl rfl)) pgs_nil)))), fun nx hn => ?_⟩
    rotate_left
    · exact ⟨_, rfl, a, _, rfl, SqT.of ha, rfl, _, _, rfl, _, _, rfl, rfl, hn _ _ ⟨rfl, rfl⟩⟩
    refine cutW _ (fun σ H' => σ = [some (.str word), some (.ref a), some (.int bd), some (.int (c : Int)), some (.bl b)] ∧ H' = H ∧ beh word c b bd = beh2 word c b) ⟨_, (ps_if (PW.pt (pw_and (pt_cmpR op_eq (pv 0) pe_str (nomark _)) (pw_and (pt_not (pt_val (pv 4))) (pw_and1 (pt_cmpR op_lt (pv 3) (pv 2) (nomark _))))))
      (pss_one (ps_ret (pe_tup (pa_cons (pe_op op_add (pv 3) pe_int) (pa_cons pe_bl pa_nil)))))
      pss_nil), ?_⟩ ?_
    · rintro nx hn σ H' ⟨rfl, rfl⟩
      refine ⟨_, rfl, rfl, _, rfl, ?_⟩
      refine ite2 (fun g0 => ?_) (fun g0 => ?_)
      · have g0' := dec_word.mp g0
        refine ⟨_, rfl, _, rfl, ?_⟩
        refine ite2 (fun g1 => ?_) (fun g1 => ?_)
        · have g1' : b = false := by cases b with | true => cases g1 | false => rfl
          refine ⟨_, rfl, _, rfl, _, _, rfl, rfl, _, rfl, ?_⟩
          refine ite2 (fun g2 => ?_) (fun g2 => ?_)
          · have g2' := of_decide_eq_true g2
            refine ⟨_, rfl, _, _, rfl, rfl, by show 2 ≤ sizeLine; decide, fun p hp => ?_⟩
            refine q _ _ (Ext.new hp) ?_
            unfold beh
            rw [if_pos ⟨g0', g1', g2'⟩]
            have e : ((c : Int) + 1) = ((c + 1 : Nat) : Int) := by omega
            show Dq (upd H' p (.tup [.int ((c : Int) + 1), .bl false])) _ _
            rw [e]
            exact st_new
          · exact hn _ _ ⟨rfl, rfl, by unfold beh; rw [if_neg (fun z => g2 (decide_eq_true z.2.2))]⟩
        · refine iteF ?_
          refine hn _ _ ⟨rfl, rfl, ?_⟩
          unfold beh
          rw [if_neg (fun z => g1 (by rw [z.2.1]; rfl))]
      · refine iteF ?_
        refine hn _ _ ⟨rfl, rfl, ?_⟩
        unfold beh
        rw [if_neg (fun z => g0 (dec_word.mpr z.1))]
    refine cutW _ (fun σ H' => σ = [some (.str word), some (.ref a), some (.int bd), some (.int (c : Int)), some (.bl b)] ∧ H' = H ∧ beh word c b bd = beh3 word c b) ⟨_, (ps_if (PW.pt (pw_and (pt_cmpR op_eq (pv 0) pe_str (nomark _)) (pw_and1 (pt_cmpR op_gt (pv 3) pe_int (nomark _)))))
      (pss_one (ps_ret (pe_tup (pa_cons (pe_op op_sub (pv 3) pe_int) (pa_cons (pv 4) pa_nil)))))
      pss_nil), ?_⟩ ?_
    · rintro nx hn σ H' ⟨rfl, rfl, eb⟩
      refine ⟨_, rfl, rfl, _, rfl, ?_⟩
      refine ite2 (fun g0 => ?_) (fun g0 => ?_)
      · have g0' := dec_word.mp g0
        refine ⟨_, rfl, _, _, rfl, rfl, _, rfl, ?_⟩
        refine ite2 (fun g2 => ?_) (fun g2 => ?_)
        · have g2' : (0 : Int) < c := of_decide_eq_true g2
          refine ⟨_, rfl, _, _, rfl, rfl, _, rfl, by show 2 ≤ sizeLine; decide, fun p hp => ?_⟩
          refine q _ _ (Ext.new hp) ?_
          rw [eb]
          unfold beh2
          rw [if_pos ⟨g0', by omega⟩]
          have e : ((c : Int) - 1) = ((c - 1 : Nat) : Int) := by omega
          show Dq (upd H' p (.tup [.int ((c : Int) - 1), .bl b])) _ _
          rw [e]
          exact st_new
        · refine hn _ _ ⟨rfl, rfl, ?_⟩
          rw [eb]
          unfold beh2
          rw [if_neg (fun z => g2 (decide_eq_true (by have := z.2; omega)))]
      · refine iteF ?_
        refine hn _ _ ⟨rfl, rfl, ?_⟩
        rw [eb]
        unfold beh2
        rw [if_neg (fun z => g0 (dec_word.mpr z.1))]
    refine cutW _ (fun σ H' => σ = [some (.str word), some (.ref a), some (.int bd), some (.int (c : Int)), some (.bl b)] ∧ H' = H ∧ beh word c b bd = beh4 word c b) ⟨_, (ps_if (PW.pt (pw_and (pt_cmpR op_eq (pv 0) pe_str (nomark _)) (pw_and (pt_val (pv 4)) (pw_and1 (pt_cmpR op_eq (pv 3) pe_int (nomark _))))))
      (pss_one (ps_ret (pv 1)))
      pss_nil), ?_⟩ ?_
    · rintro nx hn σ H' ⟨rfl, rfl, eb⟩
      refine ⟨_, rfl, rfl, _, rfl, ?_⟩
      refine ite2 (fun g0 => ?_) (fun g0 => ?_)
      · have g0' := dec_word.mp g0
        refine ⟨_, rfl, _, rfl, ?_⟩
        refine ite2 (fun g1 => ?_) (fun g1 => ?_)
        · refine ⟨_, rfl, rfl, _, rfl, ?_⟩
          refine ite2 (fun g2 => ?_) (fun g2 => ?_)
          · have g2' : c = 0 := by
              have z := of_decide_eq_true g2
              injection z with z
              omega
            refine ⟨_, rfl, q _ _ (Ext.refl _) ?_⟩
            rw [eb]
            unfold beh3
            rw [if_pos ⟨g0', g1, g2'⟩]
            exact hv
          · refine hn _ _ ⟨rfl, rfl, ?_⟩
            rw [eb]
            unfold beh3
            rw [if_neg (fun z => g2 (decide_eq_true (by rw [z.2.2]; rfl)))]
        · refine iteF ?_
          refine hn _ _ ⟨rfl, rfl, ?_⟩
          rw [eb]
          unfold beh3
          rw [if_neg (fun z => g1 z.2.1)]
      · refine iteF ?_
        refine hn _ _ ⟨rfl, rfl, ?_⟩
        rw [eb]
        unfold beh3
        rw [if_neg (fun z => g0 (dec_word.mpr z.1))]
    refine ⟨_, pss_cons (ps_if (PW.pt (pw_and (pt_cmpR op_eq (pv 0) pe_str (nomark _)) (pw_and1 (pt_not (pt_val (pv 4))))))
      (pss_one (ps_ret (pe_tup (pa_cons (pv 3) (pa_cons pe_bl pa_nil)))))
      pss_nil) (pss_one (ps_ret pe_non)), ?_⟩
    rintro σ H' ⟨rfl, rfl, eb⟩
    refine ⟨_, rfl, rfl, _, rfl, ?_⟩
    refine ite2 (fun g0 => ?_) (fun g0 => ?_)
    · have g0' := dec_word.mp g0
      refine ⟨_, rfl, _, rfl, ?_⟩
      refine ite2 (fun g1 => ?_) (fun g1 => ?_)
      · have g1' : b = false := by cases b with | true => cases g1 | false => rfl
        refine ⟨_, rfl, by show 2 ≤ sizeLine; decide, fun p hp => ?_⟩
        refine q _ _ (Ext.new hp) ?_
        rw [eb]
        unfold beh4
        rw [if_pos ⟨g0', g1'⟩]
        exact st_new
      · refine q _ _ (Ext.refl _) ?_
        rw [eb]
        unfold beh4
        rw [if_neg (fun z => g1 (by rw [z.2]; rfl))]
        exact .non
    · refine iteF ?_
      refine q _ _ (Ext.refl _) ?_
      rw [eb]
      unfold beh4
      rw [if_neg (fun z => g0 (dec_word.mpr z.1))]
      exact .non
end
end K41

set_option Elab.async false
set_option linter.all false
set_option maxRecDepth 100000
set_option maxHeartbeats 4000000
namespace K41
open PySem PySem.Spec PyProof.Rows L2 Ol
open TL (tl)
section
variable {P : Program} {w : World} {K : PySem.W.Frag} {mg : Str → Option Value} {base : Heap}
def spReplaced : Sp := fun vs H Q _ => ∃ (a : Addr) (xs : List V) (n : Nat) (v : V), vs = [.ref a, .int n, v] ∧ H a = some (.tup xs) ∧ n < xs.length ∧ xs.length ≤ 1000 ∧
  ∀ p H', Ext H H' → H' p = some (.tup (xs.set n v)) → Q (.ref p) H'
abbrev s_replaced : Stmt := (topS 27)
theorem sc_replaced : FnScope ["row", "index", "item"] ["row", "index", "item"] (defScope s_replaced) := ⟨rfl, rfl, rfl, by decide +kernel, rfl, by decide +kernel, by decide +kernel⟩
theorem sl_any {K' : PySem.W.Frag} {H : Hp} {a : Addr} {xs : List V} {lo hi : Option Int} {Q : V → Hp → Prop} (h : H a = some (.tup xs))
    (k : ∀ p H', Ext H H' → H' p = some (.tup (cutV xs lo hi)) → Q (.ref p) H') : rSlA K' (.ref a) lo hi H Q := by
  refine ⟨a, xs, rfl, SqT.of h, fun z => k _ _ (Ext.refl _) ?_, fun _ p hp => k _ _ (Ext.new hp) upd_same⟩
  rw [h]
  unfold cutV
  rw [z.1, z.2]
  simp
theorem cat_any {K' : PySem.W.Frag} {H : Hp} {a b : Addr} {xs ys : List V} {Q : V → Hp → Prop} (h : H a = some (.tup xs)) (h2 : H b = some (.tup ys)) (hl : xs.length + ys.length ≤ sizeLine)
    (k : ∀ p H', Ext H H' → H' p = some (.tup (xs ++ ys)) → Q (.ref p) H') : rCatA K' (.ref a) (.ref b) H Q := by
  refine ⟨a, b, xs, ys, rfl, rfl, SqT.of h, SqT.of h2, hl, fun z => k _ _ (Ext.refl _) ?_, fun _ z => k _ _ (Ext.refl _) ?_, fun _ _ p hp => k _ _ (Ext.new hp) upd_same⟩
  · rw [h2, z]
    rfl
  · rw [h, z, List.append_nil]
theorem ok_replaced {f : Addr} {fd : FuncData} (F : Fun K "replaced" "replaced" s_replaced f fd) :
    FnOk P w K mg base CX0 1 f fd ["row", "index", "item"] spReplaced := by
  refine F.ok sc_replaced (fun vs H Q E h => ?_) (fun cdv A outer s H vs Q E hr h => ?_)
  · obtain ⟨a, xs, n, v, rfl, _⟩ := h
    rfl
  · obtain ⟨a, xs, n, v, rfl, ha, hn, hl, q⟩ := h
    refine ⟨_, (pss_one (ps_ret (pe_op op_catA (pe_op op_catA (pe_slice sl_tupA (pv 0) po_none (po_some (pv 1))) (pe_tup (pa_cons (pv 2) pa_nil))) (pe_slice sl_tupA (pv 0) (po_some (pe_op op_add (pv 1) pe_int)) po_none)))), ?_⟩
    refine ⟨_, rfl, _, rfl, _, rfl, sl_any ha fun p1 H1 e1 h1 => ?_⟩
    refine ⟨_, rfl, by show 1 ≤ sizeLine; decide, fun p2 hp2 => ?_⟩
    have e2 := Ext.new (o := .tup [v]) hp2
    have c1 : (cutV xs none (some (n : Int))) = xs.take n := by
      unfold cutV
      rw [HT.sIx_none, HT.sIx_nat, Nat.min_eq_left (Nat.le_of_lt hn)]
      simp
    rw [c1] at h1
    refine cat_any (e2 _ _ h1) upd_same (by rw [List.length_take]; exact Nat.le_trans (show _ ≤ 1000 + 1 by simp; omega) (by decide)) fun p3 H3 e3 h3 => ?_
    have e03 := (e1.trans e2).trans e3
    refine ⟨_, rfl, _, rfl, _, _, rfl, rfl, _, rfl, ?_⟩
    dsimp only [tNoPart]

    refine sl_any (e03 _ _ ha) fun p4 H4 e4 h4 => ?_
    have c2 : (cutV xs (some ((n : Int) + 1)) none) = xs.drop (n + 1) := by
      unfold cutV
      rw [HT.sIx_none, show ((n : Int) + 1) = ((n + 1 : Nat) : Int) by omega, HT.sIx_nat, Nat.min_eq_left hn]
      rw [List.take_of_length_le (by rw [List.length_drop]; omega)]
    rw [c2] at h4
    refine cat_any (e4 _ _ h3) h4 (by rw [List.length_append, List.length_take, List.length_drop]; exact Nat.le_trans (show _ ≤ 1000 + 1 + 1000 by simp; omega) (by decide)) fun p5 H5 e5 h5 => ?_
    refine q _ _ ((e03.trans e4).trans e5) ?_
    rw [h5, List.set_eq_take_append_cons_drop, if_pos hn, List.append_assoc]
    rfl
end
end K41

set_option Elab.async false
set_option linter.all false
set_option maxRecDepth 100000
set_option maxHeartbeats 4000000
namespace K41
open PySem PySem.Spec PyProof.Rows L2 Ol
open TL (tl)
/-- the fields -/
def lf (n b s : Addr) : List (Str × V) := [("_names", .ref n), ("_bounds", .ref b), ("_spots", .ref s)]
theorem n_b : ¬ (("_names" : Str) = "_bounds") := by decide +kernel
theorem n_s : ¬ (("_names" : Str) = "_spots") := by decide +kernel
theorem b_s : ¬ (("_bounds" : Str) = "_spots") := by decide +kernel
theorem b_n : ¬ (("_bounds" : Str) = "_names") := by decide +kernel
theorem s_n : ¬ (("_spots" : Str) = "_names") := by decide +kernel
theorem s_b : ¬ (("_spots" : Str) = "_bounds") := by decide +kernel
theorem lf_n (n b s : Addr) : (lf n b s).lookup ("_names" : Str) = some (.ref n) := by
  unfold lf
  rw [List.lookup_cons_self]
theorem lf_b (n b s : Addr) : (lf n b s).lookup ("_bounds" : Str) = some (.ref b) := by
  unfold lf
  rw [List.lookup_cons, beq_eq_false_iff_ne.mpr b_n]
  dsimp only
  rw [List.lookup_cons_self]
theorem lf_s (n b s : Addr) : (lf n b s).lookup ("_spots" : Str) = some (.ref s) := by
  unfold lf
  rw [List.lookup_cons, beq_eq_false_iff_ne.mpr s_n]
  dsimp only
  rw [List.lookup_cons, beq_eq_false_iff_ne.mpr s_b]
  dsimp only
  rw [List.lookup_cons_self]
theorem lf_no (n b s : Addr) {m : Str} (h1 : ¬ m = "_names") (h2 : ¬ m = "_bounds") (h3 : ¬ m = "_spots") : (lf n b s).lookup m = none := by
  unfold lf
  rw [List.lookup_cons, beq_eq_false_iff_ne.mpr h1]
  dsimp only
  rw [List.lookup_cons, beq_eq_false_iff_ne.mpr h2]
  dsimp only
  rw [List.lookup_cons, beq_eq_false_iff_ne.mpr h3]
  rfl
theorem put1 (n : Addr) : putF "_names" (.ref n) [] = ([("_names", V.ref n)] : List (Str × V)) := rfl
theorem put2 (n b : Addr) : putF "_bounds" (.ref b) [("_names", V.ref n)] = ([("_names", V.ref n), ("_bounds", V.ref b)] : List (Str × V)) := by
  show (if ("_names" : Str) = "_bounds" then _ else (("_names" : Str), V.ref n) :: putF "_bounds" (V.ref b) []) = _
  rw [if_neg n_b]
  rfl
theorem put3 (n b s : Addr) : putF "_spots" (.ref s) [("_names", V.ref n), ("_bounds", V.ref b)] = lf n b s := by
  show (if ("_names" : Str) = "_spots" then _ else (("_names" : Str), V.ref n) :: (if ("_bounds" : Str) = "_spots" then _ else (("_bounds" : Str), V.ref b) :: putF "_spots" (V.ref s) [])) = _
  rw [if_neg n_s, if_neg b_s]
  rfl
/-- Lanes with these names and bounds stand at p -/
def LanesAt (C : Addr) (H : Hp) (p : Addr) (ns : List Str) (bs : List Int) : Prop :=
  ∃ dx n b s, H p = some (.ins C dx (lf n b s)) ∧ H n = some (.tup (ns.map V.str)) ∧ H b = some (.tup (bs.map V.int)) ∧ H s = some (.dK (spots ns)) ∧
    bs.length = ns.length ∧ ns.Nodup ∧ ns.length ≤ 60 ∧ (∀ x ∈ ns, isNameS x = true) ∧ (∀ i ∈ bs, 1 ≤ i)
theorem LanesAt.up {C : Addr} {H H' : Hp} {p : Addr} {ns : List Str} {bs : List Int} (e : Ext H H') : LanesAt C H p ns bs → LanesAt C H' p ns bs
  | ⟨dx, n, b, s, h1, h2, h3, h4, r⟩ => ⟨dx, n, b, s, e _ _ h1, e _ _ h2, e _ _ h3, e _ _ h4, r⟩
/-- what the text says of the class -/
structure LT (K : PySem.W.Frag) (mg : Str → Option Value) (C : Addr) : Prop where
  cl : Cls K C
  nN : NoAttr K C "_names"
  nB : NoAttr K C "_bounds"
  nS : NoAttr K C "_spots"
  gC : mg "Lanes" = some (.ref C)
  n_enum : mg "enumerate" = none
  n_zip : mg "zip" = none
abbrev cL (i : Nat) : Stmt := inClass (topS 44) i
section
variable {P : Program} {w : World} {K : PySem.W.Frag} {mg : Str → Option Value} {base : Heap} {C : Addr}
def bdOf (ps : List (Str × Int)) (x : Str) : Int := ((ps.find? fun p => decide (p.1 = x)).map (·.2)).getD 0
def spInit (C : Addr) : Sp := fun vs H Q _ => ∃ (H0 : Hp) (p dx a : Addr) (ps : List (Str × Int)), vs = [.ref p, .ref a] ∧ H0 p = none ∧ Ext H0 H ∧ H p = some (.ins C dx []) ∧ H0 a = some (.dK (kvI ps)) ∧
  ps ≠ [] ∧ ps.length ≤ 60 ∧ (∀ q ∈ ps, isNameS q.1 = true ∧ 1 ≤ q.2) ∧ (ps.map (·.1)).Nodup ∧
  ∀ H' ns, Ext H0 H' → ns.Perm (ps.map (·.1)) → sortedS ns = true → LanesAt C H' p ns (ns.map (bdOf ps)) → Q .non H'
theorem sc_init : FnScope ["self", "bounds", "name", "spot"] ["self", "bounds"] (defScope (cL 0)) := ⟨rfl, rfl, rfl, by decide +kernel, rfl, by decide +kernel, by decide +kernel⟩
theorem tyes' {σ : L2.St} {H : Hp} {Q : Bool → Hp → Prop} (h : Q true H) : tYes σ H Q := h
theorem range_getD {α β : Type} (h : α → β) (d : α) : ∀ l : List α, (List.range l.length).map (fun i => h (l.getD i d)) = l.map h
  | [] => rfl
  | a :: l => by
    rw [List.length_cons, List.range_succ_eq_map, List.map_cons, List.map_map, List.map_cons]
    congr 1
    exact range_getD h d l
theorem kvI_val {ps : List (Str × Int)} {x : Str} (h : x ∈ ps.map (·.1)) : valV (kvI ps) (.inr x) = some (.int (bdOf ps x)) := by
  induction ps with
  | nil => cases h
  | cons p ps ih =>
    unfold kvI bdOf
    rw [List.map_cons, List.find?_cons]
    by_cases c : p.1 = x
    · rw [valV_pos (by rw [c]), decide_eq_true c]
      rfl
    · rw [valV_neg (fun z => c (Sum.inr.inj z)), decide_eq_false c]
      rw [List.map_cons, List.mem_cons] at h
      exact ih (h.resolve_left fun z => c z.symm)
theorem bd_mem {ps : List (Str × Int)} {x : Str} (h : x ∈ ps.map (·.1)) : ∃ p ∈ ps, p.1 = x ∧ p.2 = bdOf ps x := by
  induction ps with
  | nil => cases h
  | cons p ps ih =>
    unfold bdOf
    rw [List.find?_cons]
    by_cases c : p.1 = x
    · rw [decide_eq_true c]
      exact ⟨p, List.mem_cons_self, c, rfl⟩
    · rw [decide_eq_false c]
      rw [List.map_cons, List.mem_cons] at h
      obtain ⟨r, h1, h2, h3⟩ := ih (h.resolve_left fun z => c z.symm)
      exact ⟨r, List.mem_cons_of_mem _ h1, h2, h3⟩
theorem ok_init {f : Addr} {fd : FuncData} (F : Fun K "__init__" "Lanes.__init__" (cL 0) f fd) (T : BT mg) (L : LT K mg C)
    (C5 : Ca P w K mg base 3 "is_bounds" ["thing"] spIsBounds) :
    FnOk P w K mg base CX0 4 f fd ["self", "bounds"] (spInit C) := by
  refine F.ok sc_init (fun vs H Q E h => ?_) (fun cdv A outer s H vs Q E hr h => ?_)
  · obtain ⟨H0, p, dx, a, ps, rfl, _⟩ := h
    rfl
  · obtain ⟨H0, p, dx, a, ps, rfl, hp0, e0, hp, ha, hne, hl, hps, hnd, q⟩ := h
    refine ⟨_, (pss_cons (ps_if (pt_not (pt_val (pe_ca C5 (hr.mono (by decide)) (by rfl) (pa_cons (pv 1) pa_nil)))) (pss_one ps_never) pss_nil)
      (pss_cons (ps_fld (pv 0) (pe_callTy call_tuple_of (by rfl) T.n_tuple (by decide +kernel) (pa_cons (pe_callB (call_sortedD rfl) (by rfl) T.n_sorted (by decide +kernel) (pa_cons (pv 1) pa_nil)) pa_nil)) rfl)
      (pss_cons (ps_fld (pv 0) (pe_callTy call_tuple_of (by rfl) T.n_tuple (by decide +kernel) (pa_cons (pe_lc (own := [("name", 2)]) (g := gName 2) (tt := tYes) rfl sc_init.nd (pi_tup (pe_fld (pv 0) rfl)) (blkOk_by (N := ["self", "bounds", "name", "spot"]) (sc := defScope (cL 0)) (by decide +kernel)) (fun _ _ _ _ _ => pg_name (i := 2) sc_init.nd rfl (.inl rfl)) (fun _ _ _ _ _ => pts_nil) (fun _ _ _ _ _ => pe_dget (hu_of hr) (pv 1) (pv 2) (fun _ _ => rfl))) pa_nil)) rfl)
      (pss_one (ps_fld (pv 0) (pe_dc (own := [("name", 2), ("spot", 3)]) (g := gTup K 2 (gCons (gName 3) (gCons (gName 2) gNil))) (tt := tYes) rfl sc_init.nd (pi_enumT (by rfl) L.n_enum (pa_cons (pe_fld (pv 0) rfl) pa_nil)) (blkOk_by (N := ["self", "bounds", "name", "spot"]) (sc := defScope (cL 0)) (by decide +kernel)) (fun _ _ _ _ _ => pg_tup (by rfl) (pgs_cons (pg_name (i := 3) sc_init.nd rfl (.inl rfl)) (pgs_cons (pg_name (i := 2) sc_init.nd rfl (.inl rfl)) pgs_nil))) (fun _ _ _ _ _ => pts_nil) (fun _ _ _ _ _ => pv 2) (fun _ _ _ _ _ => pv 3)) rfl))))), ?_⟩
    have kl : (kvI ps).map (·.1) = (ps.map (·.1)).map Sum.inr := by
      unfold kvI
      rw [List.map_map, List.map_map]
      rfl
    refine ⟨_, rfl, a, ps, rfl, e0 _ _ ha, hne, Nat.le_trans hl (by decide), hps, fun H1 e1 => ⟨_, rfl, ?_⟩⟩
    refine iteF ?_
    have e01 := e0.trans e1
    refine ⟨_, rfl, a, _, _, rfl, Rd.of (e01 _ _ ha), kl, (by rw [List.length_map]; omega), fun ns l hperm hso hl1 => ?_⟩
    have hx2 : H1 a = some (.dK (kvI ps)) := e01 _ _ ha
    have hpH : H1 p = some (.ins C dx []) := e1 _ _ hp
    have nd : ns.Nodup := hperm.nodup_iff.mpr hnd
    have len : ns.length = ps.length := by rw [hperm.length_eq, List.length_map]
    have el := Ext.new (o := .lst (ns.map V.str)) hl1
    refine ⟨l, _, rfl, .inl ⟨SqL.of upd_same, fun n hn => ?_⟩⟩
    have en := Ext.new (o := .tup (ns.map V.str)) hn
    refine ⟨_, rfl, p, C, dx, [], rfl, (el.trans en) _ _ hpH, L.cl, L.nN, (by show 0 < 1000; decide), ?_⟩
    rw [put1]
    have e4 : Ext H0 (upd (upd (upd H1 l (.lst (ns.map V.str))) n (.tup (ns.map V.str))) p (.ins C dx [("_names", .ref n)])) := Ext.mut (e01.trans (el.trans en)) hp0
    have npn : p ≠ n := fun z => by
      have := (el _ _ hpH)
      rw [z, hn] at this
      cases this
    have h4n : (upd (upd (upd H1 l (.lst (ns.map V.str))) n (.tup (ns.map V.str))) p (.ins C dx [("_names", .ref n)])) n = some (.tup (ns.map V.str)) := by
      rw [upd_ne (Ne.symm npn)]
      exact upd_same
    have h4p : (upd (upd (upd H1 l (.lst (ns.map V.str))) n (.tup (ns.map V.str))) p (.ins C dx [("_names", .ref n)])) p = some (.ins C dx [("_names", .ref n)]) := upd_same
    generalize hH4 : upd (upd (upd H1 l (.lst (ns.map V.str))) n (.tup (ns.map V.str))) p (.ins C dx [("_names", .ref n)]) = H4 at *
    refine ⟨_, rfl, p, C, dx, _, _, rfl, h4p, L.cl, L.nN, rfl, n, rfl, ⟨_, SqT.of h4n⟩, fun D hD => ?_⟩
    have nm : ∀ i, i < ns.length → ns.getD i Str.empty ∈ ps.map (·.1) := fun i hi => by
      rw [List.getD_eq_getElem?_getD, List.getElem?_eq_getElem hi]
      exact hperm.mem_iff.mp (List.getElem_mem hi)
    have ml : (ns.map V.str).length = ns.length := List.length_map ..
    refine lc_det (w := walk_tup (xs := ns.map V.str)) (fun i => V.str (ns.getD i Str.empty)) (fun _ => true) (fun i => V.int (bdOf ps (ns.getD i Str.empty))) hD (by rw [ml]; exact Nat.le_trans (by omega) (show 60 ≤ sizeLine by decide)) ?_ (fun H' e => SqT.of (e _ _ h4n)) (fun _ _ _ _ _ h => tyes' h) ?_ ?_
    · rintro i Hi x H' hi ⟨rfl, hx⟩
      refine ⟨rfl, ?_⟩
      rw [List.getElem?_map] at hx
      rw [ml] at hi
      rw [List.getElem?_eq_getElem hi] at hx
      rw [List.getD_eq_getElem?_getD, List.getElem?_eq_getElem hi]
      exact (Option.some.inj hx).symm
    · intro i Hi hi _ e Q' q'
      rw [ml] at hi
      have hai : Hi a = some (.dK (kvI ps)) := (e4.trans e) _ _ ha
      have g := DGet.k (k := .inr (ns.getD i Str.empty)) hai
      rw [kvI_val (nm i hi)] at g
      exact ⟨_, rfl, _, rfl, a, _, rfl, g, q'⟩
    have e5 := Ext.new (o := .lst ((ns.map (bdOf ps)).map V.int)) hD
    have mm : (((List.range (ns.map V.str).length).filter fun _ => true).map fun i => V.int (bdOf ps (ns.getD i Str.empty))) = (ns.map (bdOf ps)).map V.int := by
      rw [ml, List.filter_eq_self.mpr (fun _ _ => rfl), List.map_map]
      exact range_getD (V.int ∘ bdOf ps) Str.empty ns
    rw [mm]
    refine ⟨D, _, rfl, .inl ⟨SqL.of upd_same, fun b hb => ?_⟩⟩
    have e6 := Ext.new (o := .tup ((ns.map (bdOf ps)).map V.int)) hb
    have e46 := e5.trans e6
    refine ⟨_, rfl, p, C, dx, _, rfl, e46 _ _ h4p, L.cl, L.nB, (by show 1 < 1000; decide), ?_⟩
    rw [put2]
    have e7 := Ext.mut (o := .ins C dx [("_names", .ref n), ("_bounds", .ref b)]) (e4.trans e46) hp0
    have npb : p ≠ b := fun z => by
      have := e5 _ _ h4p
      rw [z, hb] at this
      cases this
    have h7n : (upd (upd (upd H4 D (.lst ((ns.map (bdOf ps)).map V.int))) b (.tup ((ns.map (bdOf ps)).map V.int))) p (.ins C dx [("_names", .ref n), ("_bounds", .ref b)])) n = some (.tup (ns.map V.str)) := by
      rw [upd_ne (Ne.symm npn)]
      exact e46 _ _ h4n
    have h7b : (upd (upd (upd H4 D (.lst ((ns.map (bdOf ps)).map V.int))) b (.tup ((ns.map (bdOf ps)).map V.int))) p (.ins C dx [("_names", .ref n), ("_bounds", .ref b)])) b = some (.tup ((ns.map (bdOf ps)).map V.int)) := by
      rw [upd_ne (Ne.symm npb)]
      exact upd_same
    have h7p : (upd (upd (upd H4 D (.lst ((ns.map (bdOf ps)).map V.int))) b (.tup ((ns.map (bdOf ps)).map V.int))) p (.ins C dx [("_names", .ref n), ("_bounds", .ref b)])) p = some (.ins C dx [("_names", .ref n), ("_bounds", .ref b)]) := upd_same
    generalize upd (upd (upd H4 D (.lst ((ns.map (bdOf ps)).map V.int))) b (.tup ((ns.map (bdOf ps)).map V.int))) p (.ins C dx [("_names", .ref n), ("_bounds", .ref b)]) = H7 at *
    refine ⟨_, rfl, p, C, dx, _, _, rfl, h7p, L.cl, L.nN, rfl, n, _, rfl, SqT.of h7n, fun D2 hD2 => ?_⟩
    refine dc_it (w := walk_enumT (xs := ns.map V.str)) (fun i Hi => Ext H7 Hi ∧ Hi D2 = some (.dK (spots (ns.take i)))) ⟨Ext.new hD2, upd_same⟩ (fun i Hi _ h => SqT.of (h.1 _ _ h7n)) ?_ ?_
    · rintro i v Hi H' hi ⟨ei, hdi⟩ ⟨T', y1, y2, rfl, hT, rfl, g1, g2⟩
      rw [ml] at hi
      cases g1
      dsimp only at g2
      rw [List.getElem?_map, List.getElem?_eq_getElem hi] at g2
      cases g2
      have eT := Ext.new (o := .tup [.int (i : Int), .str ns[i]]) hT
      refine ⟨T', _, rfl, SqT.of upd_same, rfl, _, _, rfl, _, _, rfl, rfl, rfl, ?_⟩
      refine tyes ?_
      have hns : ns[i] ∉ ns.take i := fun z => by
        obtain ⟨j, hj, ej⟩ := List.getElem_of_mem z
        rw [List.length_take] at hj
        rw [List.getElem_take] at ej
        exact List.pairwise_iff_getElem.mp nd j i (by omega) hi (by omega) ej
      refine ⟨_, rfl, _, rfl, spots (ns.take i), .inr ns[i], rfl, eT _ _ hdi, ?_, Ext.mut (ei.trans eT) hD2, ?_⟩
      · rw [spots_len, List.length_take]
        exact Nat.lt_of_le_of_lt (show _ ≤ 60 by omega) (by decide)
      · rw [upd_same, putK_new (spots_none hns), List.take_add_one, List.getElem?_eq_getElem hi]
        show _ = some (HO.dK (spots (ns.take i ++ [ns[i]])))
        rw [spots_snoc, List.length_take, Nat.min_eq_left (Nat.le_of_lt hi)]
    · rintro H8 ⟨e8, h8d⟩
      rw [ml, List.take_length] at h8d
      refine ⟨_, rfl, p, C, dx, _, rfl, e8 _ _ h7p, L.cl, L.nS, (by show 2 < 1000; decide), ?_⟩
      rw [put3]
      have npD : p ≠ D2 := fun z => by rw [← z, h7p] at hD2; cases hD2
      refine q _ ns (Ext.mut (e7.trans e8) hp0) hperm hso ⟨dx, n, b, D2, upd_same, ?_, ?_, ?_, List.length_map .., nd, by omega, ?_, ?_⟩
      · rw [upd_ne (Ne.symm npn)]; exact e8 _ _ h7n
      · rw [upd_ne (Ne.symm npb)]; exact e8 _ _ h7b
      · rw [upd_ne (Ne.symm npD)]; exact h8d
      · intro x hx
        obtain ⟨r, hr1, hr2, _⟩ := bd_mem (hperm.mem_iff.mp hx)
        rw [← hr2]
        exact (hps r hr1).1
      · intro i hi
        obtain ⟨x, hx, rfl⟩ := List.mem_map.mp hi
        obtain ⟨r, hr1, _, hr3⟩ := bd_mem (hperm.mem_iff.mp hx)
        rw [← hr3]
        exact (hps r hr1).2
end
end K41

set_option Elab.async false
set_option linter.all false
set_option maxRecDepth 100000
set_option maxHeartbeats 4000000
namespace K41
open PySem PySem.Spec PyProof.Rows L2 Ol
open TL (tl)
theorem DqAll_get {H : Hp} : ∀ {xs : List V} {ds : List PyData}, DqAll H xs ds → ∀ (i : Nat) (d : PyData), ds[i]? = some d → ∃ v, xs[i]? = some v ∧ Dq H v d
  | _, _, .nil, i, d, h => by simp at h
  | _, _, .cons a t, 0, d, h => by
    cases h
    exact ⟨_, rfl, a⟩
  | _, _, .cons a t, i + 1, d, h => DqAll_get t i d h
theorem DqAll_set {H : Hp} : ∀ {xs : List V} {ds : List PyData}, DqAll H xs ds → ∀ (i : Nat) (v : V) (d : PyData), Dq H v d → DqAll H (xs.set i v) (ds.set i d)
  | _, _, .nil, i, v, d, h => .nil
  | _, _, .cons a t, 0, v, d, h => .cons h t
  | _, _, .cons a t, i + 1, v, d, h => .cons a (DqAll_set t i v d h)
/-- a content, as data -/
def ctL (cs : List (Nat × Bool)) : List PyData := cs.map fun s => stD s.1 s.2
def ctD (cs : List (Nat × Bool)) : PyData := .tuple (ctL cs)
theorem ct_inv {H : Hp} {v : V} {cs : List (Nat × Bool)} (h : Dq H v (ctD cs)) : ∃ a xs, v = .ref a ∧ H a = some (.tup xs) ∧ DqAll H xs (ctL cs) ∧ xs.length = cs.length := by
  obtain ⟨a, xs, ds, rfl, e, h1, h2⟩ := dq_tup h rfl
  unfold ctD at e
  cases e
  exact ⟨a, xs, rfl, h1, h2, by rw [h2.len]; unfold ctL; rw [List.length_map]⟩
section
variable {P : Program} {w : World} {K : PySem.W.Frag} {mg : Str → Option Value} {base : Heap} {C : Addr}
/-! ### thing in lanes -/
def spHas (C : Addr) : Sp := fun vs H Q _ => ∃ (p : Addr) (ns : List Str) (bs : List Int) (x : Str), vs = [.ref p, .str x] ∧ LanesAt C H p ns bs ∧ isNameS x = true ∧
  ∀ H', Ext H H' → Q (.bl (decide (x ∈ ns))) H'
theorem sc_has : FnScope ["self", "thing"] ["self", "thing"] (defScope (cL 4)) := ⟨rfl, rfl, rfl, by decide +kernel, rfl, by decide +kernel, by decide +kernel⟩
theorem spots_mem {ns : List Str} (hd : ns.Nodup) (x : Str) : (valV (spots ns) (.inr x)).isSome = decide (x ∈ ns) := by
  by_cases h : x ∈ ns
  · obtain ⟨i, hi, e⟩ := List.getElem_of_mem h
    rw [decide_eq_true h, ← e, spots_val hd hi]
    rfl
  · rw [decide_eq_false h, spots_none h]
    rfl
theorem ok_has {f : Addr} {fd : FuncData} (F : Fun K "__contains__" "Lanes.__contains__" (cL 4) f fd) (T : BT mg) (L : LT K mg C) :
    FnOk P w K mg base CX0 2 f fd ["self", "thing"] (spHas C) := by
  refine F.ok sc_has (fun vs H Q E h => ?_) (fun cdv A outer s H vs Q E hr h => ?_)
  · obtain ⟨p, ns, bs, x, rfl, _⟩ := h
    rfl
  · obtain ⟨p, ns, bs, x, rfl, hL, hx, q⟩ := h
    refine ⟨_, (pss_one (ps_ret (pe_and (pe_callB call_isi (by rfl) T.n_isinstance (by decide +kernel) (pa_cons (pv 1) (pa_cons (pe_bltn (v := .ty "str") (by rfl) T.n_str (by decide +kernel) rfl) pa_nil))) (pe_one (pe_cmp (pc_din (hu_of hr) (pv 1) (pe_fld (pv 0) rfl)) rfl))))), ?_⟩
    obtain ⟨dx, n, b, sp, h1, h2, h3, h4, _, hnd, _⟩ := id hL
    refine ⟨_, rfl, _, _, _, _, _, rfl, .ty "str", ty_of (.str x), ki_str (.str x), _, rfl, ?_⟩
    refine ite2 (fun _ => ?_) (fun g => absurd rfl g)
    refine ⟨_, rfl, _, rfl, p, C, dx, _, _, rfl, h1, L.cl, L.nS, lf_s _ _ _, sp, _, rfl, DGet.k (k := Sum.inr x) h4, ?_⟩
    rw [spots_mem hnd]
    exact q _ (Ext.refl H)
/-! ### the index of a lane -/
def spSpot (C : Addr) : Sp := fun vs H Q _ => ∃ (p : Addr) (ns : List Str) (bs : List Int) (i : Nat) (hi : i < ns.length), vs = [.ref p, .str ns[i]] ∧ LanesAt C H p ns bs ∧
  ∀ H', Ext H H' → Q (.int (i : Int)) H'
theorem sc_spot : FnScope ["self", "lane"] ["self", "lane"] (defScope (cL 7)) := ⟨rfl, rfl, rfl, by decide +kernel, rfl, by decide +kernel, by decide +kernel⟩
theorem ok_spot {f : Addr} {fd : FuncData} (F : Fun K "_spot" "Lanes._spot" (cL 7) f fd) (L : LT K mg C)
    (M : Cm P w K mg base C 2 "__contains__" ["self", "thing"] (spHas C)) :
    FnOk P w K mg base CX0 3 f fd ["self", "lane"] (spSpot C) := by
  refine F.ok sc_spot (fun vs H Q E h => ?_) (fun cdv A outer s H vs Q E hr h => ?_)
  · obtain ⟨p, ns, bs, i, hi, rfl, _⟩ := h
    rfl
  · obtain ⟨p, ns, bs, i, hi, rfl, hL, q⟩ := h
    refine ⟨_, (pss_cons (ps_if (pt_cmpR (op_notInM M (hr.mono (by decide))) (pv 1) (pv 0) (by rfl)) (pss_one ps_never) pss_nil)
      (pss_one (ps_ret (pe_dget (hu_of hr) (pe_fld (pv 0) rfl) (pv 1) (fun _ _ => rfl))))), ?_⟩
    have hm : ns[i] ∈ ns := List.getElem_mem hi
    obtain ⟨dx, n, b, sp, h1, h2, h3, h4, hl, hnd, hl2, hns, hbs⟩ := id hL
    refine ⟨_, rfl, _, rfl, p, dx, _, rfl, h1, p, ns, bs, _, rfl, hL, hns _ hm, fun H1 e1 => ⟨_, rfl, ?_⟩⟩
    rw [decide_eq_true hm]
    refine ⟨_, rfl, ?_⟩
    refine iteF ?_
    refine ⟨_, rfl, p, C, dx, _, _, rfl, e1 _ _ h1, L.cl, L.nS, lf_s _ _ _, _, rfl, sp, _, rfl, ?_, q _ e1⟩
    have g := DGet.k (k := Sum.inr ns[i]) (e1 _ _ h4)
    rw [spots_val hnd hi] at g
    exact g
/-! ### the state behind an arm -/
def spBeh (C : Addr) : Sp := fun vs H Q _ => ∃ (p : Addr) (ns : List Str) (bs : List Int) (v : V) (cs : List (Nat × Bool)) (word : Str) (i : Nat) (hi : i < ns.length) (st : Nat × Bool) (bd : Int), vs = [.ref p, v, .str word, .int (i : Int)] ∧ LanesAt C H p ns bs ∧ Dq H v (ctD cs) ∧
  cs[i]? = some st ∧ bs[i]? = some bd ∧ ∀ (r : V) (H' : Hp), Ext H H' → Dq H' r (optD (beh word st.1 st.2 bd)) → Q r H'
theorem sc_beh : FnScope ["self", "content", "word", "spot"] ["self", "content", "word", "spot"] (defScope (cL 8)) := ⟨rfl, rfl, rfl, by decide +kernel, rfl, by decide +kernel, by decide +kernel⟩
theorem ok_beh {f : Addr} {fd : FuncData} (F : Fun K "_behind" "Lanes._behind" (cL 8) f fd) (L : LT K mg C)
    (C7 : Ca P w K mg base 1 "state_behind" ["word", "state", "bound"] spBehind) :
    FnOk P w K mg base CX0 2 f fd ["self", "content", "word", "spot"] (spBeh C) := by
  refine F.ok sc_beh (fun vs H Q E h => ?_) (fun cdv A outer s H vs Q E hr h => ?_)
  · obtain ⟨p, ns, bs, v, cs, word, i, hi, st, bd, rfl, _⟩ := h
    rfl
  · obtain ⟨p, ns, bs, v, cs, word, i, hi, st, bd, rfl, hL, hv, hcs, hb, q⟩ := h
    refine ⟨_, (pss_one (ps_ret (pe_ca C7 (hr.mono (by decide)) (by rfl) (pa_cons (pv 2) (pa_cons (pe_ix ix_tup (pv 1) (pv 3) (fun _ _ => rfl)) (pa_cons (pe_ix ix_tup (pe_fld (pv 0) rfl) (pv 3) (fun _ _ => rfl)) pa_nil)))))), ?_⟩
    obtain ⟨dx, n, b, sp, h1, h2, h3, h4, hl, hnd, hl2, hns, hbs⟩ := id hL
    obtain ⟨a, xs, rfl, ha, hxs, hxl⟩ := ct_inv hv
    obtain ⟨u, hu, du⟩ := DqAll_get hxs i (stD st.1 st.2) (by unfold ctL; rw [List.getElem?_map, hcs]; rfl)
    refine ⟨_, rfl, _, rfl, _, rfl, a, _, _, _, rfl, rfl, SqT.of ha, atI_nat hu, _, rfl, p, C, dx, _, _, rfl, h1, L.cl, L.nB, lf_b _ _ _, _, rfl, b, _, _, _, rfl, rfl, SqT.of h3, atI_nat (by rw [List.getElem?_map, hb]; rfl), word, u, st.1, st.2, bd, rfl, du, q⟩
end
end K41

set_option Elab.async false
set_option linter.all false
set_option maxRecDepth 100000
set_option maxHeartbeats 4000000
namespace K41
open PySem PySem.Spec PyProof.Rows L2 Ol
open TL (tl)
section
variable {P : Program} {w : World} {K : PySem.W.Frag} {mg : Str → Option Value} {base : Heap} {C S : Addr}
/-! ### is_open -/
def spOpen (C : Addr) : Sp := fun vs H Q _ => ∃ (p : Addr) (ns : List Str) (bs : List Int) (v : V) (cs : List (Nat × Bool)) (word : Str) (i : Nat) (hi : i < ns.length) (st : Nat × Bool) (bd : Int), vs = [.ref p, v, .str word, .str ns[i]] ∧ LanesAt C H p ns bs ∧ Dq H v (ctD cs) ∧
  cs[i]? = some st ∧ bs[i]? = some bd ∧ ∀ (H' : Hp), Ext H H' → Q (.bl (beh word st.1 st.2 bd).isSome) H'
theorem sc_open : FnScope ["self", "content", "word", "lane"] ["self", "content", "word", "lane"] (defScope (cL 13)) := ⟨rfl, rfl, rfl, by decide +kernel, rfl, by decide +kernel, by decide +kernel⟩
theorem opt_non {H : Hp} {r : V} {o : Option (Nat × Bool)} (h : Dq H r (optD o)) : (!decide (r = V.non)) = o.isSome := by
  cases o with
  | none =>
    have h' : Dq H r .none := h
    cases h'
    rfl
  | some s =>
    obtain ⟨a, rfl, _⟩ := st_inv (show Dq H r (stD s.1 s.2) from h)
    rfl
theorem ok_open {f : Addr} {fd : FuncData} (F : Fun K "is_open" "Lanes.is_open" (cL 13) f fd) (L : LT K mg C)
    (MS : Cm P w K mg base C 3 "_spot" ["self", "lane"] (spSpot C)) (MB : Cm P w K mg base C 2 "_behind" ["self", "content", "word", "spot"] (spBeh C)) :
    FnOk P w K mg base CX0 4 f fd ["self", "content", "word", "lane"] (spOpen C) := by
  refine F.ok sc_open (fun vs H Q E h => ?_) (fun cdv A outer s H vs Q E hr h => ?_)
  · obtain ⟨p, ns, bs, v, cs, word, i, hi, st, bd, rfl, _⟩ := h
    rfl
  · obtain ⟨p, ns, bs, v, cs, word, i, hi, st, bd, rfl, hL, hv, hcs, hb, q⟩ := h
    refine ⟨_, (pss_one (ps_ret (pe_cmpR op_notN (pe_cm MB L.cl (hr.mono (by decide)) (pv 0) (pa_cons (pv 1) (pa_cons (pv 2) (pa_cons (pe_cm MS L.cl (hr.mono (by decide)) (pv 0) (pa_cons (pv 3) pa_nil)) pa_nil)))) pe_non (nomark _)))), ?_⟩
    obtain ⟨dx, n, b, sp, h1, h2, h3, h4, hl, hnd, hl2, hns, hbs⟩ := id hL
    refine ⟨_, rfl, p, dx, _, rfl, h1, lf_no _ _ _ (by decide +kernel) (by decide +kernel) (by decide +kernel), _, rfl, _, rfl, _, rfl, p, dx, _, rfl, h1, lf_no _ _ _ (by decide +kernel) (by decide +kernel) (by decide +kernel), _, rfl, p, ns, bs, i, hi, rfl, hL, fun H1 e1 => ?_⟩
    refine ⟨p, ns, bs, v, cs, word, i, hi, st, bd, rfl, hL.up e1, hv.up e1, hcs, hb, fun r H2 e2 hr2 => ⟨rfl, ?_⟩⟩
    rw [opt_non hr2]
    exact q _ (e1.trans e2)
/-! ### done -/
def spDone (C : Addr) : Sp := fun vs H Q _ => ∃ (p : Addr) (ns : List Str) (bs : List Int) (v : V) (cs : List (Nat × Bool)) (word : Str) (i : Nat) (hi : i < ns.length) (st : Nat × Bool) (bd : Int), vs = [.ref p, v, .str word, .str ns[i]] ∧ LanesAt C H p ns bs ∧ Dq H v (ctD cs) ∧
  cs[i]? = some st ∧ bs[i]? = some bd ∧ cs.length ≤ 1000 ∧
  ∃ st', beh word st.1 st.2 bd = some st' ∧ ∀ (r : V) (H' : Hp), Ext H H' → Dq H' r (ctD (cs.set i st')) → Q r H'
theorem sc_done : FnScope ["self", "content", "word", "lane", "spot", "state"] ["self", "content", "word", "lane"] (defScope (cL 14)) := ⟨rfl, rfl, rfl, by decide +kernel, rfl, by decide +kernel, by decide +kernel⟩
theorem ok_done {f : Addr} {fd : FuncData} (F : Fun K "done" "Lanes.done" (cL 14) f fd) (L : LT K mg C)
    (MS : Cm P w K mg base C 3 "_spot" ["self", "lane"] (spSpot C)) (MB : Cm P w K mg base C 2 "_behind" ["self", "content", "word", "spot"] (spBeh C))
    (C8 : Ca P w K mg base 1 "replaced" ["row", "index", "item"] spReplaced) :
    FnOk P w K mg base CX0 4 f fd ["self", "content", "word", "lane"] (spDone C) := by
  refine F.ok sc_done (fun vs H Q E h => ?_) (fun cdv A outer s H vs Q E hr h => ?_)
  · obtain ⟨p, ns, bs, v, cs, word, i, hi, st, bd, rfl, _⟩ := h
    rfl
  · obtain ⟨p, ns, bs, v, cs, word, i, hi, st, bd, rfl, hL, hv, hcs, hb, hz, s', hbe, q1⟩ := h
    refine ⟨_, (pss_cons (ps_set (i := 4) sc_done.nd rfl (.inl rfl) (pe_cm MS L.cl (hr.mono (by decide)) (pv 0) (pa_cons (pv 3) pa_nil)))
      (pss_cons (ps_set (i := 5) sc_done.nd rfl (.inl rfl) (pe_cm MB L.cl (hr.mono (by decide)) (pv 0) (pa_cons (pv 1) (pa_cons (pv 2) (pa_cons (pv 4) pa_nil)))))
      (pss_cons (ps_if (pt_cmpR op_isN (pv 5) pe_non (nomark _)) (pss_one ps_never) pss_nil)
      (pss_one (ps_ret (pe_ca C8 (hr.mono (by decide)) (by rfl) (pa_cons (pv 1) (pa_cons (pv 4) (pa_cons (pv 5) pa_nil))))))))), ?_⟩
    obtain ⟨dx, n, b, sp, h1, h2, h3, h4, hl, hnd, hl2, hns, hbs⟩ := id hL
    refine ⟨_, rfl, p, dx, _, rfl, h1, lf_no _ _ _ (by decide +kernel) (by decide +kernel) (by decide +kernel), _, rfl, p, ns, bs, i, hi, rfl, hL, fun H1 e1 => ?_⟩
    refine ⟨_, rfl, p, dx, _, rfl, e1 _ _ h1, lf_no _ _ _ (by decide +kernel) (by decide +kernel) (by decide +kernel), _, rfl, _, rfl, _, rfl, p, ns, bs, v, cs, word, i, hi, st, bd, rfl, hL.up e1, hv.up e1, hcs, hb, fun r H2 e2 hr2 => ?_⟩
    have e12 := e1.trans e2
    refine ⟨_, rfl, rfl, _, rfl, ?_⟩
    rw [hbe] at hr2
    obtain ⟨a', rfl, _⟩ := st_inv (show Dq H2 r (stD s'.1 s'.2) from hr2)
    refine iteF ?_
    obtain ⟨a, xs, rfl, ha, hxs, hxl⟩ := ct_inv hv
    have hi2 : i < cs.length := (List.getElem?_eq_some_iff.mp hcs).1
    refine ⟨_, rfl, _, rfl, _, rfl, a, xs, i, _, rfl, e12 _ _ ha, by omega, by omega, fun p' H3 e3 h3 => ?_⟩
    refine q1 _ _ (e12.trans e3) (.tup h3 ?_)
    have z := DqAll_set (DqAll.up (e12.trans e3) hxs) i (.ref a') (stD s'.1 s'.2) (Dq.up e3 hr2)
    unfold ctL at z ⊢
    rw [List.map_set]
    exact z
end
end K41

set_option Elab.async false
set_option linter.all false
set_option maxRecDepth 100000
set_option maxHeartbeats 4000000
namespace K41
open PySem PySem.Spec PyProof.Rows L2 Ol
open TL (tl)
-- a
section
variable {P : Program} {w : World} {K : PySem.W.Frag} {mg : Str → Option Value} {base : Heap}
abbrev s__law_take : Stmt := (topS 50)
theorem sc__law_take : FnScope ["_law_bag_here", "_law_many", "_law_cell", "_law_mixed", "_law_value", "_law_begin", "_law_second"] ["_law_bag_here", "_law_many"] (defScope s__law_take) := ⟨rfl, rfl, rfl, by decide +kernel, rfl, by decide +kernel, by decide +kernel⟩

theorem pos_of {j : Int} (h : 0 < j) : 0 < j := h
theorem upd_self {H : Hp} {a : Addr} {o : HO} (h : H a = some o) : upd H a o = H := by
  funext b
  by_cases z : b = a
  · rw [z, upd_same, h]
  · rw [upd_ne z]
theorem ok_take {f : Addr} {fd : FuncData} (F : Fun K "_law_take" "_law_take" s__law_take f fd) (T : BT mg) :
    FnOk P w K mg base CX0 1 f fd ["_law_bag_here", "_law_many"] spTake0 := by
  refine F.ok sc__law_take (fun vs H Q E h => ?_) (fun cdv A outer s H vs Q E hr h => ?_)
  · obtain ⟨a, c, b0, b1, b2, ns, m, rfl, _⟩ := h
    rfl
  · obtain ⟨a, c, b0, b1, b2, ns, m, rfl, ha, hc, hns, bi, hm, hm2, q⟩ := h
    have hca : c ≠ a := by
      intro z
      rw [z, ha] at hc
      have e : bagL b0 b1 b2 c = ns.map V.int := by
        injection hc with hc
        injection hc
      have e3 : (bagL b0 b1 b2 c)[3]? = (ns.map V.int)[3]? := by rw [e]
      rw [List.getElem?_map] at e3
      have e4 : some (V.ref c) = (ns[3]?).map V.int := e3
      cases q3 : ns[3]? with
      | none =>
        rw [q3] at e4
        cases e4
      | some z3 =>
        rw [q3] at e4
        cases e4
    refine cutB (fun σ H' => ∃ x0 x1 x2 v2 v3, BagI x0 x1 x2 ∧ σ = [some (.ref a), some (.int m), v2, v3, none, none, none] ∧ H' = upd H a (.lst (bagL x0 x1 x2 c)))
      ⟨_, (pss_cons (ps_if (pt_cmpR op_gt (pe_ix ix_list (pv 0) pe_int (fun _ _ => rfl)) pe_int (nomark _))
      (pss_cons (ps_set (i := 4) sc__law_take.nd rfl (.inl rfl) (pe_op op_mod (pe_callTy call_int1 (by rfl) T.n_int (by decide +kernel) (pa_cons (pe_ix ix_list (pv 0) pe_int (fun _ _ => rfl)) pa_nil)) (pv 1)))
      (pss_cons (ps_asg (pe_op op_fdiv (pe_ix ix_list (pv 0) pe_int (fun _ _ => rfl)) (pv 1)) (pg_sub (pv 0) pe_int set_list))
      (pss_one (ps_ret (pv 4)))))
      pss_nil)
    (pss_cons (ps_set (i := 5) sc__law_take.nd rfl (.inl rfl) (pe_op op_mod (pe_callTy call_int1 (by rfl) T.n_int (by decide +kernel) (pa_cons (pe_op op_mul (pe_op op_add (pe_ix ix_list (pv 0) pe_int (fun _ _ => rfl)) pe_int) pe_int) pa_nil)) pe_int))
    (pss_cons (ps_set (i := 6) sc__law_take.nd rfl (.inl rfl) (pe_op op_mod (pe_callTy call_int1 (by rfl) T.n_int (by decide +kernel) (pa_cons (pe_op op_mul (pe_op op_mod (pe_callTy call_int1 (by rfl) T.n_int (by decide +kernel) (pa_cons (pe_op op_mul (pv 5) (pv 5)) pa_nil)) pe_int) pe_int) pa_nil)) pe_int))
    (pss_cons (ps_if (pt_cmpR op_gt (pv 1) pe_int (nomark _))
      (pss_one (ps_ret (pe_op op_mod (pe_callTy call_int1 (by rfl) T.n_int (by decide +kernel) (pa_cons (pe_op op_add (pe_op op_mul (pv 6) pe_int) (pv 5)) pa_nil)) (pv 1))))
      pss_nil)
    (pss_one (ps_ret (pe_op op_mod (pe_callTy call_int1 (by rfl) T.n_int (by decide +kernel) (pa_cons (pe_op op_fdiv (pv 6) pe_int) pa_nil)) (pv 1)))))))), ?_⟩
      ⟨_, (ps_if (pt_cmpR op_eq (pe_ix ix_list (pv 0) pe_int (fun _ _ => rfl)) pe_int (nomark _))
      (pss_cons (ps_set (i := 2) sc__law_take.nd rfl (.inl rfl) pe_int)
      (pss_cons (ps_if (pt_cmpR op_lt (pe_ix ix_list (pv 0) pe_int (fun _ _ => rfl)) (pe_callB call_len_seq (by rfl) T.n_len (by decide +kernel) (pa_cons (pe_ix ix_list (pv 0) pe_int (fun _ _ => rfl)) pa_nil)) (nomark _))
        (pss_one (ps_set (i := 2) sc__law_take.nd rfl (.inl rfl) (pe_ix ix_list (pe_ix ix_list (pv 0) pe_int (fun _ _ => rfl)) (pe_ix ix_list (pv 0) pe_int (fun _ _ => rfl)) (fun _ _ => rfl))))
        pss_nil)
      (pss_cons (ps_augS (pv 0) pe_int get_list pe_int ip_add set_list)
      (pss_cons (ps_if (pt_cmpR op_ge (pv 2) pe_int (nomark _))
        (pss_one (ps_asg (pv 2) (pg_sub (pv 0) pe_int set_list)))
        pss_nil)
      (pss_cons (ps_set (i := 3) sc__law_take.nd rfl (.inl rfl) (pe_op op_add (pe_op op_add (pe_op op_mul (pe_ix ix_list (pv 0) pe_int (fun _ _ => rfl)) pe_int) (pe_op op_mod (pe_callTy call_int1 (by rfl) T.n_int (by decide +kernel) (pa_cons (pv 2) pa_nil)) pe_int)) (pe_op op_mul pe_int (pe_ix ix_list (pv 0) pe_int (fun _ _ => rfl)))))
      (pss_one (ps_asg (pe_op op_mod (pe_callTy call_int1 (by rfl) T.n_int (by decide +kernel) (pa_cons (pv 3) pa_nil)) pe_int) (pg_sub (pv 0) pe_int set_list))))))))
      pss_nil), fun nx hn => ?_⟩
    · rintro σ H' ⟨x0, x1, x2, v2, v3, xi, rfl, rfl⟩
      have hL : SqL K (upd H a (.lst (bagL x0 x1 x2 c))) a (bagL x0 x1 x2 c) := SqL.of upd_same
      have p0 := xi.h0
      have p1 := xi.h1
      have p1' := xi.h1'
      -- if bag[0] > 0
      refine ⟨_, rfl, a, _, _, _, rfl, rfl, hL, rfl, _, _, rfl, rfl, _, rfl, ?_⟩
      refine ite2 (fun h0 => ?_) (fun h0 => ?_)
      · refine ⟨_, rfl, a, _, _, _, rfl, rfl, hL, rfl, .inl ⟨_, rfl, _, rfl, _, _, rfl, rfl, hm, ?_⟩⟩
        refine ⟨_, rfl, a, _, _, _, rfl, rfl, hL, rfl, _, rfl, _, _, rfl, rfl, ⟨hm, hm2⟩, _, rfl, a, _, _, 0, rfl, rfl, upd_same, rfl, ?_⟩
        refine ⟨_, rfl, ?_⟩
        have z := q (x0 % m) (x0 / m) x1 x2 (Int.emod_nonneg _ (by omega)) (Int.emod_lt_of_pos _ hm) ⟨Int.ediv_nonneg p0 (by omega), xi.h1, xi.h1', xi.h2⟩
        have e : upd (upd H a (.lst (bagL x0 x1 x2 c))) a (.lst ((bagL x0 x1 x2 c).set 0 (.int (x0 / m)))) = upd H a (.lst (bagL (x0 / m) x1 x2 c)) := upd_upd
        rw [e]
        exact z
      · -- begin, second
        refine ⟨_, rfl, a, _, _, _, rfl, rfl, hL, rfl, _, _, rfl, rfl, _, _, rfl, rfl, .inl ⟨by omega, by omega⟩, .inl ⟨_, rfl, _, _, rfl, rfl, pos_of (by decide), ?_⟩⟩
        have g1 : 0 ≤ ((x1 + 1) * 39373) % 1000000007 := Int.emod_nonneg _ (by decide)
        have g2 : ((x1 + 1) * 39373) % 1000000007 < 1000000007 := Int.emod_lt_of_pos _ (by decide)
        generalize ((x1 + 1) * 39373) % 1000000007 = bg at g1 g2 ⊢
        refine ⟨_, rfl, _, rfl, _, _, rfl, rfl, .inl ⟨by omega, by omega⟩, .inl ⟨_, rfl, _, _, rfl, rfl, pos_of (by decide), ?_⟩⟩
        have g3 : 0 ≤ (bg * bg) % 998244353 := Int.emod_nonneg _ (by decide)
        have g4 : (bg * bg) % 998244353 < 998244353 := Int.emod_lt_of_pos _ (by decide)
        generalize (bg * bg) % 998244353 = sq at g3 g4 ⊢
        refine ⟨_, _, rfl, rfl, .inl ⟨by omega, by omega⟩, .inl ⟨_, rfl, _, _, rfl, rfl, pos_of (by decide), ?_⟩⟩
        have g5 : 0 ≤ (sq * 30011) % 998244353 := Int.emod_nonneg _ (by decide)
        have g6 : (sq * 30011) % 998244353 < 998244353 := Int.emod_lt_of_pos _ (by decide)
        generalize (sq * 30011) % 998244353 = sc at g5 g6 ⊢
        refine ⟨_, rfl, _, _, rfl, rfl, _, rfl, ?_⟩
        refine ite2 (fun h1 => ?_) (fun h1 => ?_)
        · refine ⟨_, rfl, _, _, rfl, rfl, .inl ⟨by omega, by omega⟩, _, rfl, _, _, rfl, rfl, .inl ⟨_, rfl, _, rfl, _, _, rfl, rfl, hm, ?_⟩⟩
          exact q _ x0 x1 x2 (Int.emod_nonneg _ (by omega)) (Int.emod_lt_of_pos _ hm) xi
        · refine ⟨_, rfl, _, _, rfl, rfl, ⟨by decide, by decide⟩, .inl ⟨_, rfl, _, rfl, _, _, rfl, rfl, hm, ?_⟩⟩
          exact q _ x0 x1 x2 (Int.emod_nonneg _ (by omega)) (Int.emod_lt_of_pos _ hm) xi
    · -- the cell
      have sa : SqL K H a (bagL b0 b1 b2 c) := SqL.of ha
      have p1 := bi.h1
      have p1' := bi.h1'
      have p2 := bi.h2
      refine ⟨_, rfl, a, _, _, _, rfl, rfl, sa, rfl, rfl, _, rfl, ?_⟩
      refine ite2 (fun h0 => ?_) (fun h0 => ?_)
      · refine ⟨_, rfl, a, _, _, _, rfl, rfl, sa, rfl, _, rfl, a, _, _, _, rfl, rfl, sa, rfl, c, _, rfl, .inl (SqL.of hc), _, _, rfl, rfl, _, rfl, ?_⟩
        refine ite2 (fun h1 => ?_) (fun h1 => ?_)
        · have h1' : b2 < (ns.length : Int) := by
            have z := of_decide_eq_true h1
            rwa [List.length_map] at z
          obtain ⟨j, ej⟩ : ∃ j : Nat, b2 = (j : Int) := ⟨b2.toNat, by omega⟩
          have hj : j < ns.length := by omega
          have hz : 0 ≤ ns[j] := hns _ (List.getElem_mem hj)
          refine ⟨_, rfl, a, _, _, _, rfl, rfl, sa, rfl, _, rfl, a, _, _, _, rfl, rfl, sa, rfl, c, _, _, V.int ns[j], rfl, rfl, SqL.of hc, at_of (j := j) ej (by rw [List.getElem?_map, List.getElem?_eq_getElem hj]; rfl), ?_⟩
          refine ⟨_, rfl, a, _, 2, _, rfl, rfl, sa, rfl, _, _, rfl, rfl, a, _, _, 2, rfl, rfl, ha, rfl, ?_⟩
          refine ⟨_, rfl, _, _, rfl, rfl, _, rfl, ?_⟩
          refine ite2 (fun h2 => ?_) (fun h2 => ?_)
          · refine ⟨_, rfl, _, rfl, a, _, _, 0, rfl, rfl, upd_same, rfl, ?_⟩
            refine ⟨_, rfl, a, _, _, _, rfl, rfl, SqL.of upd_same, rfl, _, _, rfl, rfl, .inl ⟨by omega, by omega⟩, _, rfl, .inl ⟨_, rfl, _, _, rfl, rfl, pos_of (by decide), _, _, rfl, rfl, _, rfl, a, _, _, _, rfl, rfl, SqL.of upd_same, rfl, _, _, rfl, rfl, .inl ⟨by decide, by decide⟩, _, _, rfl, rfl, ?_⟩⟩
            refine ⟨_, rfl, .inl ⟨_, rfl, _, _, rfl, rfl, pos_of (by decide), _, rfl, a, _, _, 1, rfl, rfl, upd_same, rfl, ?_⟩⟩
            exact hn _ _ ⟨_, _, b2 + 1, _, _, ⟨hz, Int.emod_nonneg _ (by decide), Int.emod_lt_of_pos _ (by decide), by omega⟩, rfl, by rw [upd_upd, upd_upd]; rfl⟩
          · refine ⟨_, rfl, a, _, _, _, rfl, rfl, SqL.of upd_same, rfl, _, _, rfl, rfl, .inl ⟨by omega, by omega⟩, _, rfl, .inl ⟨_, rfl, _, _, rfl, rfl, pos_of (by decide), _, _, rfl, rfl, _, rfl, a, _, _, _, rfl, rfl, SqL.of upd_same, rfl, _, _, rfl, rfl, .inl ⟨by decide, by decide⟩, _, _, rfl, rfl, ?_⟩⟩
            refine ⟨_, rfl, .inl ⟨_, rfl, _, _, rfl, rfl, pos_of (by decide), _, rfl, a, _, _, 1, rfl, rfl, upd_same, rfl, ?_⟩⟩
            exact hn _ _ ⟨_, _, b2 + 1, _, _, ⟨bi.h0, Int.emod_nonneg _ (by decide), Int.emod_lt_of_pos _ (by decide), by omega⟩, rfl, by rw [upd_upd]; rfl⟩
        · refine ⟨_, rfl, a, _, 2, _, rfl, rfl, sa, rfl, _, _, rfl, rfl, a, _, _, 2, rfl, rfl, ha, rfl, ?_⟩
          refine ⟨_, rfl, _, _, rfl, rfl, _, rfl, ?_⟩
          refine ite2 (fun h2 => ?_) (fun h2 => ?_)
          · exact absurd (of_decide_eq_true h2) (by decide)
          · refine ⟨_, rfl, a, _, _, _, rfl, rfl, SqL.of upd_same, rfl, _, _, rfl, rfl, .inl ⟨by omega, by omega⟩, _, rfl, .inl ⟨_, rfl, _, _, rfl, rfl, pos_of (by decide), _, _, rfl, rfl, _, rfl, a, _, _, _, rfl, rfl, SqL.of upd_same, rfl, _, _, rfl, rfl, .inl ⟨by decide, by decide⟩, _, _, rfl, rfl, ?_⟩⟩
            refine ⟨_, rfl, .inl ⟨_, rfl, _, _, rfl, rfl, pos_of (by decide), _, rfl, a, _, _, 1, rfl, rfl, upd_same, rfl, ?_⟩⟩
            exact hn _ _ ⟨_, _, b2 + 1, _, _, ⟨bi.h0, Int.emod_nonneg _ (by decide), Int.emod_lt_of_pos _ (by decide), by omega⟩, rfl, by rw [upd_upd]; rfl⟩
      · exact hn _ _ ⟨b0, b1, b2, none, none, bi, rfl, (upd_self ha).symm⟩
end

-- b
section
variable {P : Program} {w : World} {K : PySem.W.Frag} {mg : Str → Option Value} {base : Heap}

abbrev s_is_integer : Stmt := (topS 17)
theorem sc_is_integer : FnScope ["thing"] ["thing"] (defScope s_is_integer) := ⟨rfl, rfl, rfl, by decide +kernel, rfl, by decide +kernel, by decide +kernel⟩
theorem ok_is_integer {f : Addr} {fd : FuncData} (F : Fun K "is_integer" "is_integer" s_is_integer f fd) (T : BT mg) :
    FnOk P w K mg base CX0 1 f fd ["thing"] (spPred Any isIntD) := by
  refine F.ok sc_is_integer (fun vs H Q E h => ?_) (fun cdv A outer s H vs Q E hr h => ?_)
  · obtain ⟨v, d, rfl, _⟩ := h
    rfl
  · obtain ⟨v, d, rfl, hd, hz, q⟩ := h
    have q' := q H (Ext.refl H)
    rw [isIntD_eq] at q'
    refine ⟨_, (pss_one (ps_ret (pe_and (pe_callB call_isi (by rfl) T.n_isinstance (by decide +kernel) (pa_cons (pv 0) (pa_cons (pe_bltn (v := .ty "int") (by rfl) T.n_int (by decide +kernel) rfl) pa_nil))) (pe_one (pe_not (pe_callB call_isi (by rfl) T.n_isinstance (by decide +kernel) (pa_cons (pv 0) (pa_cons (pe_bltn (v := .ty "bool") (by rfl) T.n_bool (by decide +kernel) rfl) pa_nil)))))))), ?_⟩
    refine ⟨_, rfl, _, _, _, _, _, rfl, .ty "int", ty_of hd, ki_int d, _, rfl, ?_⟩
    refine ite2 (fun h => ?_) (fun h => ?_)
    · refine ⟨_, rfl, _, _, _, _, _, rfl, .ty "bool", ty_of hd, ki_bool d, _, rfl, ?_⟩
      rw [h, Bool.true_and] at q'
      exact q'
    · rw [Bool.eq_false_iff.mpr h, Bool.false_and] at q'
      exact q'

abbrev s_is_number : Stmt := (topS 18)
theorem sc_is_number : FnScope ["thing"] ["thing"] (defScope s_is_number) := ⟨rfl, rfl, rfl, by decide +kernel, rfl, by decide +kernel, by decide +kernel⟩
theorem ok_is_number {f : Addr} {fd : FuncData} (F : Fun K "is_number" "is_number" s_is_number f fd) (C1 : Ca P w K mg base 1 "is_integer" ["thing"] (spPred Any isIntD)) :
    FnOk P w K mg base CX0 2 f fd ["thing"] (spPred Any isNumD) := by
  refine F.ok sc_is_number (fun vs H Q E h => ?_) (fun cdv A outer s H vs Q E hr h => ?_)
  · obtain ⟨v, d, rfl, _⟩ := h
    rfl
  · obtain ⟨v, d, rfl, hd, hz, q⟩ := h
    refine ⟨_, (pss_one (ps_ret (pe_and (pe_ca C1 (hr.mono (by decide)) (by rfl) (pa_cons (pv 0) pa_nil)) (pe_one (pe_cmpR op_ge (pv 0) pe_int (nomark _)))))), ?_⟩
    refine ⟨_, rfl, v, d, rfl, hd, trivial, fun H1 e1 => ⟨_, rfl, ?_⟩⟩
    refine ite2 (fun h => ?_) (fun h => ?_)
    · obtain ⟨i, rfl, rfl⟩ := dq_int hd h
      refine ⟨_, rfl, _, _, rfl, rfl, ?_⟩
      exact q H1 e1
    · have e : isNumD d = false := by
        cases d with
        | int i => exact absurd rfl h
        | _ => rfl
      have q' := q H1 e1
      rw [e] at q'
      exact q'

abbrev s_is_name : Stmt := (topS 19)
theorem sc_is_name : FnScope ["thing", "letter"] ["thing"] (defScope s_is_name) := ⟨rfl, rfl, rfl, by decide +kernel, rfl, by decide +kernel, by decide +kernel⟩
theorem ok_is_name {f : Addr} {fd : FuncData} (F : Fun K "is_name" "is_name" s_is_name f fd) (T : BT mg) {tl : Tok} {tn : Tok} (gLet : mg "LETTERS" = some (.str abc tl)) (gLong : mg "LONGEST" = some (.int 8 tn)) :
    FnOk P w K mg base CX0 1 f fd ["thing"] (spPred Ok1 isNameD) := by
  refine F.ok sc_is_name (fun vs H Q E h => ?_) (fun cdv A outer s H vs Q E hr h => ?_)
  · obtain ⟨v, d, rfl, _⟩ := h
    rfl
  · obtain ⟨v, d, rfl, hd, hz, q⟩ := h
    refine ⟨_, (pss_cons (ps_if (PW.pt (pw_or (pt_not (pt_val (pe_callB call_isi (by rfl) T.n_isinstance (by decide +kernel) (pa_cons (pv 0) (pa_cons (pe_bltn (v := .ty "str") (by rfl) T.n_str (by decide +kernel) rfl) pa_nil))))) (pw_or1 (pt_not (pt_chain op_le op_le pe_int (pe_callB call_len_str (by rfl) T.n_len (by decide +kernel) (pa_cons (pv 0) pa_nil)) (pe_glob (v := .int 8) rfl gLong ⟨_, rfl⟩))))))
      (pss_one (ps_ret pe_bl))
      pss_nil)
    (pss_one (ps_ret (pe_callB (cr_all rfl) (by rfl) T.n_all (by decide +kernel) (pa_cons (pe_lc (own := [("letter", 1)]) (g := gName 1) (tt := tYes) rfl sc_is_name.nd (pi_str (pv 0)) (blkOk_by (N := ["thing", "letter"]) (sc := defScope s_is_name) (by decide +kernel)) (fun _ _ _ _ _ => (pg_name (i := 1) sc_is_name.nd rfl (.inl rfl))) (fun _ _ _ _ _ => pts_nil) (fun _ _ _ _ _ => (pe_cmpR op_in_sign (pv 1) (pe_glob (v := .str abc) rfl gLet ⟨_, rfl⟩) (by rfl)))) pa_nil))))), ?_⟩
    refine ⟨_, rfl, _, _, _, _, _, rfl, .ty "str", ty_of hd, ki_str d, _, rfl, ?_⟩
    refine ite2 (fun h => ?_) (fun h => ?_)
    · have q' := q H (Ext.refl H)
      rw [kS_not h] at q'
      exact iteT q'
    · obtain ⟨x, rfl, rfl⟩ := dq_str hd (kS_yes h)
      have hx : x.length ≤ 1000 := (hz x rfl).1
      have hx2 : x.length ≤ sizeLine := Nat.le_trans hx (by decide)
      have qx : Q (.bl (isNameS x)) H := q H (Ext.refl H)
      refine ⟨_, rfl, _, rfl, hx2, _, _, rfl, rfl, _, rfl, ?_⟩
      refine ite2 (fun h1 => ?_) (fun h1 => ?_)
      · refine ⟨_, _, rfl, rfl, _, rfl, ?_⟩
        have h1' : (1 : Int) ≤ (x.length : Int) := of_decide_eq_true h1
        refine ite2 (fun h2 => ?_) (fun h2 => ?_)
        · have h2' : ¬ (x.length : Int) ≤ 8 := by simpa using h2
          rw [isNameS_short (by omega)] at qx
          exact qx
        · have h2' : (x.length : Int) ≤ 8 := by simpa using h2
          rw [isNameS_long (by omega)] at qx
          refine ⟨_, rfl, x, rfl, fun D hD => ?_⟩
          refine lc_det walk_str (sg x) (fun _ => true) (fun i => V.bl (decide (x.cps.toList.getD i 0 ∈ abc.cps.toList))) hD hx2 its_sg (fun _ _ => trivial)
            (fun i H' _ _ Q' q' => q') (fun i H' _ _ _ Q' q' => ⟨_, rfl, _, abc, rfl, rfl, q'⟩) ?_
          rw [signs_all x fun c => decide (c ∈ abc.cps.toList)]
          refine ⟨D, _, rfl, SqL.of upd_same, ?_⟩
          rw [all_id_map]
          have q2 := q (upd H D (.lst ((x.cps.toList.map fun c => decide (c ∈ abc.cps.toList)).map V.bl))) (Ext.new hD)
          have e2 : isNameD (.str x) = x.cps.toList.all fun c => decide (c ∈ abc.cps.toList) := isNameS_long (by omega)
          rw [e2] at q2
          exact q2
      · have h1' : ¬ (1 : Int) ≤ (x.length : Int) := by simpa using h1
        rw [isNameS_short (by omega)] at qx
        exact ⟨_, rfl, iteT qx⟩
end

-- d
section
variable {P : Program} {w : World} {K : PySem.W.Frag} {mg : Str → Option Value} {base : Heap}

abbrev s__law_bag : Stmt := (topS 49)
theorem sc__law_bag : FnScope ["_law_script", "_law_cell"] ["_law_script"] (defScope s__law_bag) := ⟨rfl, rfl, rfl, by decide +kernel, rfl, by decide +kernel, by decide +kernel⟩
theorem ok_bag {f : Addr} {fd : FuncData} (F : Fun K "_law_bag" "_law_bag" s__law_bag f fd) (T : BT mg) :
    FnOk P w K mg base CX0 1 f fd ["_law_script"] (spBag0 K) := by
  refine F.ok sc__law_bag (fun vs H Q E h => ?_) (fun cdv A outer s H vs Q E hr h => ?_)
  · obtain ⟨a, ns, rfl, _⟩ := h
    rfl
  · obtain ⟨a, ns, rfl, hs, hl, q⟩ := h
    refine ⟨_, (pss_one (ps_ret (pe_lst (pa_cons pe_int (pa_cons pe_int (pa_cons pe_int (pa_cons (pe_lc (own := [("_law_cell", 1)]) (g := gName 1) (tt := tYes) rfl sc__law_bag.nd (pi_list (pe_slice sl_list (pv 0) po_none (po_some pe_int))) (blkOk_by (N := ["_law_script", "_law_cell"]) (sc := defScope s__law_bag) (by decide +kernel)) (fun _ _ _ _ _ => (pg_name (i := 1) sc__law_bag.nd rfl (.inl rfl))) (fun _ _ _ _ _ => pts_nil) (fun _ _ _ _ _ => (pe_callB call_abs (by rfl) T.n_abs (by decide +kernel) (pa_cons (pv 1) pa_nil)))) pa_nil))))))), ?_⟩
    obtain ⟨cs, ec, hc⟩ := cut_ints ns none (some 63)
    refine ⟨_, rfl, _, rfl, a, _, rfl, hs, fun p hp => ?_⟩
    rw [ec]
    have e1 : Ext H (upd H p (.lst (cs.map V.int))) := Ext.new hp
    refine ⟨p, rfl, ⟨_, SqL.of upd_same⟩, fun D hD => ?_⟩
    have e2 : Ext (upd H p (.lst (cs.map V.int))) (upd (upd H p (.lst (cs.map V.int))) D (.lst ((cs.map fun i => if i < 0 then -i else i).map V.int))) := Ext.new hD
    refine lc_det (walk_list (K := K) (a := p) (xs := cs.map V.int)) (fun i => .int (cs.getD i 0)) (fun _ => true) (fun i => .int (if cs.getD i 0 < 0 then -(cs.getD i 0) else cs.getD i 0)) hD (by rw [List.length_map]; exact Nat.le_trans hc (Nat.le_trans hl (by decide)))
      ?_ (fun H' e => SqL.of (e _ _ upd_same)) (fun i H' _ _ Q' q' => q') (fun i H' _ _ _ Q' q' => ⟨_, rfl, _, rfl, q'⟩) ?_
    · rintro i H' x H'' hi ⟨rfl, hx⟩
      refine ⟨rfl, ?_⟩
      rw [List.getElem?_map] at hx
      rw [List.getD_eq_getElem?_getD]
      cases e : cs[i]? with
      | none => rw [e] at hx; cases hx
      | some z => rw [e] at hx; exact (Option.some.inj hx).symm
    · rw [List.filter_eq_self.mpr (fun _ _ => rfl), List.length_map, map_range_getI (fun i => V.int (if i < 0 then -i else i)) cs]
      have em : (cs.map fun i => V.int (if i < 0 then -i else i)) = (cs.map fun i => if i < 0 then -i else i).map V.int := by
        rw [List.map_map]
        rfl
      rw [em]
      refine ⟨by show 4 ≤ sizeLine; decide, fun r hr' => ?_⟩
      have e3 := Ext.new (o := .lst (bagL 0 1234567891 0 D)) hr'
      have nDr : D ≠ r := fun z => by rw [← z, upd_same] at hr'; cases hr'
      refine q r D (cs.map fun i => if i < 0 then -i else i) _ ((e1.trans e2).free hr') ((e1.trans e2).trans e3) upd_same (by rw [upd_ne nDr, upd_same]) ?_ nDr
      intro n hn
      obtain ⟨i, _, rfl⟩ := List.mem_map.mp hn
      split <;> omega
end

-- g
section
variable {P : Program} {w : World} {K : PySem.W.Frag} {mg : Str → Option Value} {base : Heap}
abbrev s__law_names : Stmt := (topS 52)
theorem sc__law_names : FnScope ["_law_bag_here", "_law_many", "_law_letters", "_law_words", "_law_style", "_law_turn", "_law_base", "_law_at", "_law_k"] ["_law_bag_here", "_law_many"] (defScope s__law_names) := ⟨rfl, rfl, rfl, by decide +kernel, rfl, by decide +kernel, by decide +kernel⟩
theorem ok_names {f : Addr} {fd : FuncData} (F : Fun K "_law_names" "_law_names" s__law_names f fd) (T : BT mg)
    (CT : Ca P w K mg base 1 "_law_take" ["_law_bag_here", "_law_many"] spTake) :
    FnOk P w K mg base CX0 2 f fd ["_law_bag_here", "_law_many"] spNames := by
  refine F.ok sc__law_names (fun vs H Q E h => ?_) (fun cdv A outer s H vs Q E hr h => ?_)
  · obtain ⟨a, m, rfl, _⟩ := h
    rfl
  · obtain ⟨a, m, rfl, hb, hm1, hm8, q⟩ := h
    refine ⟨_, (pss_cons (ps_set (i := 2) sc__law_names.nd rfl (.inr rfl) pe_str)
    (pss_cons (ps_set (i := 3) sc__law_names.nd rfl (.inl rfl) pe_str)
    (pss_cons (ps_set (i := 3) sc__law_names.nd rfl (.inl rfl) (pe_split (pe_op op_add_str (pv 3) pe_str) pe_str))
    (pss_cons (ps_asg (pe_tup (pa_cons (pe_ca CT (hr.mono (by decide)) (by rfl) (pa_cons (pv 0) (pa_cons pe_int pa_nil))) (pa_cons (pe_ca CT (hr.mono (by decide)) (by rfl) (pa_cons (pv 0) (pa_cons pe_int pa_nil))) pa_nil))) (pg_tup (by rfl) (pgs_cons (pg_name (i := 4) sc__law_names.nd rfl (.inl rfl)) (pgs_cons (pg_name (i := 5) sc__law_names.nd rfl (.inr rfl)) pgs_nil))))
    (pss_cons (ps_set (i := 6) sc__law_names.nd rfl (.inr rfl) (pe_join pe_str (pe_lc (own := [("_law_k", 8)]) (g := gName 8) (tt := tYes) rfl sc__law_names.nd (pi_range1 (by rfl) T.n_range (pa_cons (pe_op op_add pe_int (pe_ca CT (hr.mono (by decide)) (by rfl) (pa_cons (pv 0) (pa_cons pe_int pa_nil)))) pa_nil)) (blkOk_by (N := ["_law_bag_here", "_law_many", "_law_letters", "_law_words", "_law_style", "_law_turn", "_law_base", "_law_at", "_law_k"]) (sc := defScope s__law_names) (by decide +kernel)) (fun _ _ _ _ _ => (pg_name (i := 8) sc__law_names.nd rfl (.inl rfl))) (fun _ _ _ _ _ => pts_nil) (fun _ _ _ _ _ => (pe_ix ix_str (pv 2) (pe_ca CT (hr.mono (by decide)) (by rfl) (pa_cons (pv 0) (pa_cons pe_int pa_nil))) (fun _ _ => rfl))))))
    (pss_cons (ps_set (i := 7) sc__law_names.nd rfl (.inr rfl) (pe_ca CT (hr.mono (by decide)) (by rfl) (pa_cons (pv 0) (pa_cons (pe_op op_add (pe_callB call_len_str (by rfl) T.n_len (by decide +kernel) (pa_cons (pv 6) pa_nil)) pe_int) pa_nil))))
    (pss_cons (ps_if (pt_cmpR op_eq (pv 4) pe_int (nomark _))
      (pss_one (ps_ret (pe_slice sl_list (pe_op op_cat (pe_slice sl_list (pv 3) (po_some (pv 5)) po_none) (pe_slice sl_list (pv 3) po_none (po_some (pv 5)))) po_none (po_some (pv 1)))))
      pss_nil)
    (pss_cons (ps_if (pt_cmpR op_eq (pv 4) pe_int (nomark _))
      (pss_one (ps_ret (pe_lc (own := [("_law_k", 8)]) (g := gName 8) (tt := tYes) rfl sc__law_names.nd (pi_range1 (by rfl) T.n_range (pa_cons (pv 1) pa_nil)) (blkOk_by (N := ["_law_bag_here", "_law_many", "_law_letters", "_law_words", "_law_style", "_law_turn", "_law_base", "_law_at", "_law_k"]) (sc := defScope s__law_names) (by decide +kernel)) (fun _ _ _ _ _ => (pg_name (i := 8) sc__law_names.nd rfl (.inl rfl))) (fun _ _ _ _ _ => pts_nil) (fun _ _ _ _ _ => (pe_ix ix_str (pv 2) (pe_op op_mod (pe_callTy call_int1 (by rfl) T.n_int (by decide +kernel) (pa_cons (pe_op op_add (pv 5) (pe_op op_mul pe_int (pv 8))) pa_nil)) pe_int) (fun _ _ => rfl))))))
      pss_nil)
    (pss_one (ps_ret (pe_lc (own := [("_law_k", 8)]) (g := gName 8) (tt := tYes) rfl sc__law_names.nd (pi_range1 (by rfl) T.n_range (pa_cons (pv 1) pa_nil)) (blkOk_by (N := ["_law_bag_here", "_law_many", "_law_letters", "_law_words", "_law_style", "_law_turn", "_law_base", "_law_at", "_law_k"]) (sc := defScope s__law_names) (by decide +kernel)) (fun _ _ _ _ _ => (pg_name (i := 8) sc__law_names.nd rfl (.inl rfl))) (fun _ _ _ _ _ => pts_nil) (fun _ _ _ _ _ => (pe_op op_add_str (pe_op op_add_str (pe_slice sl_str (pv 6) po_none (po_some (pv 7))) (pe_ix ix_str (pv 2) (pe_op op_mod (pe_callTy call_int1 (by rfl) T.n_int (by decide +kernel) (pa_cons (pe_op op_add (pv 5) (pe_op op_mul pe_int (pv 8))) pa_nil)) pe_int) (fun _ _ => rfl))) (pe_slice sl_str (pv 6) (po_some (pv 7)) po_none)))))))))))))), ?_⟩
    -- the words
    refine ⟨_, rfl, _, _, rfl, rfl, by decide +kernel, ⟨_, rfl⟩, _, _, rfl, rfl, by decide +kernel, by decide +kernel, fun pw hpw => ?_⟩
    rw [show Txt.split (Str.ofString "send take ended close else first any step quit server back again where log a b ab ba z" ++ Str.ofString " stuck seat sticks lane") (Str.ofString " ") = wordL from split_words]
    have e1 := Ext.new (o := .lst (wordL.map V.str)) hpw
    have hw1 : upd H pw (.lst (wordL.map V.str)) pw = some (.lst (wordL.map V.str)) := upd_same
    generalize upd H pw (.lst (wordL.map V.str)) = H1 at e1 hw1 ⊢
    -- style, turn
    refine ⟨_, rfl, a, 4, rfl, hb.up e1, by decide, by decide, fun r0 l0 u0 => ⟨_, rfl, a, 20, rfl, hb.up e1, by decide, by decide, fun r1 l1 u1 => ⟨by show 2 ≤ sizeLine; decide, fun pt hpt => ?_⟩⟩⟩
    have e2 := e1.trans (Ext.new (o := .tup [.int r0, .int r1]) hpt)
    have hw2 := Ext.new (o := .tup [.int r0, .int r1]) hpt _ _ hw1
    refine ⟨pt, _, rfl, SqT.of upd_same, rfl, _, _, rfl, _, _, rfl, rfl, ?_⟩
    generalize upd H1 pt (.tup [.int r0, .int r1]) = H2 at e2 hw2 ⊢
    -- the base
    refine ⟨⟨_, rfl⟩, _, rfl, a, 7, rfl, hb.up e2, by decide, by decide, fun r2 l2 u2 => ⟨_, _, rfl, rfl, _, rfl, by omega, by omega, fun D hD => ?_⟩⟩
    refine lc_ext walk_range (fun _ v _ => ∃ c, c ∈ abcL ∧ v = .str (one c)) (fun _ _ _ _ _ h => h) hD (by show (1 + r2).toNat ≤ 2 ^ 24; omega) (fun _ _ => trivial) ?_ ?_
    · rintro i x H' H'' hi e ⟨rfl, rfl⟩
      refine ⟨Ext.refl _, fun Q' q' => ?_⟩
      refine ⟨_, rfl, _, rfl, a, 26, rfl, hb.up (e2.trans e), by decide, by decide, fun r l u => ?_⟩
      obtain ⟨j, rfl⟩ : ∃ j : Nat, r = (j : Int) := ⟨r.toNat, by omega⟩
      have hj : j < 26 := by omega
      exact ⟨_, _, 97 + j, rfl, rfl, by decide +kernel, atI_nat (abc_at j hj), q' _ _ (Ext.refl _) ⟨_, abc_mem hj, rfl⟩⟩
    intro H3 xs e3 hD3 hl hR
    obtain ⟨cs, rfl, hcl, hcm⟩ := ones_of hl hR
    have hcs1 : 1 ≤ cs.length := by rw [hcl]; omega
    have hcs7 : cs.length ≤ 7 := by rw [hcl]; omega
    refine ⟨_, D, cs.map one, rfl, rfl, .inl (SqL.of hD3), by rw [ones_len, List.length_map]; show cs.length + cs.length * 0 ≤ _; omega, ?_⟩
    have hj := join_signs cs
    have ej : Txt.join (Str.ofString "") (cs.map one) = Txt.join "" (cs.map one) := rfl
    rw [ej]
    generalize Txt.join "" (cs.map one) = b at hj ⊢
    have hbl : b.length = cs.length := by rw [tlen, hj]
    have e23 := e2.trans e3
    have hw3 := e3 _ _ hw2
    -- the place
    refine ⟨_, rfl, _, rfl, _, rfl, by rw [hbl]; show _ ≤ 2 ^ 24; omega, _, _, rfl, rfl, a, _, rfl, hb.up e23, by omega, by omega, fun r3 l3 u3 => ?_⟩
    obtain ⟨t, rfl⟩ : ∃ j : Nat, r1 = (j : Int) := ⟨r1.toNat, by omega⟩
    obtain ⟨at_, rfl⟩ : ∃ j : Nat, r3 = (j : Int) := ⟨r3.toNat, by omega⟩
    obtain ⟨k, rfl⟩ : ∃ j : Nat, m = (j : Int) := ⟨m.toNat, by omega⟩
    have hk8 : k ≤ 8 := by omega
    have ha : at_ ≤ cs.length := by omega
    refine ⟨_, rfl, rfl, _, rfl, ?_⟩
    refine ite2 (fun g0 => ?_) (fun g0 => ?_)
    · refine ⟨_, rfl, _, rfl, _, rfl, pw, _, rfl, SqL.of hw3, fun p1 h1 => ?_⟩
      have f1 := Ext.new (o := .lst (cutV (wordL.map V.str) (some (t : Int)) none)) h1
      refine ⟨_, rfl, _, rfl, _, rfl, pw, _, rfl, SqL.of (f1 _ _ hw3), fun p2 h2 => ?_⟩
      have f2 := Ext.new (o := .lst (cutV (wordL.map V.str) none (some (t : Int)))) h2
      refine ⟨p1, p2, _, _, rfl, rfl, f2 _ _ upd_same, upd_same, ?_, fun p3 h3 => ?_⟩
      · have z1 := cutV_length (wordL.map V.str) (some (t : Int)) none
        have z2 := cutV_length (wordL.map V.str) none (some (t : Int))
        have z3 : (wordL.map V.str).length = 23 := rfl
        show _ ≤ 2 ^ 24
        omega
      · have f3 := Ext.new (o := .lst (cutV (wordL.map V.str) (some (t : Int)) none ++ cutV (wordL.map V.str) none (some (t : Int)))) h3
        refine ⟨_, rfl, _, rfl, p3, _, rfl, SqL.of upd_same, fun p4 h4 => ?_⟩
        have el : cutV (cutV (wordL.map V.str) (some (t : Int)) none ++ cutV (wordL.map V.str) none (some (t : Int))) none (some (k : Int)) = ((wordL.drop t ++ wordL.take t).take k).map V.str := by
          rw [cut_drop, cut_take, cut_take, List.map_take, List.map_append, List.map_drop, List.map_take]
        rw [el]
        have e4 := ((e23.trans f1).trans f2).trans f3
        exact q p4 _ _ (e4.trans (Ext.new h4)) (e4.free h4) upd_same (names0 t k (by omega) (by omega))
    · refine ⟨_, rfl, rfl, _, rfl, ?_⟩
      refine ite2 (fun g1 => ?_) (fun g1 => ?_)
      · refine ⟨_, rfl, _, rfl, by omega, by omega, fun D4 hD4 => ?_⟩
        refine lc_det walk_range (fun i => .int (0 + (i : Int))) (fun _ => true) (fun i => .str (one (let1 t i))) hD4 (by show _ ≤ 2 ^ 24; omega) (fun i H x H' _ y => y) (fun _ _ => trivial) (fun i H' _ _ Q' q' => q') (fun i H' hi _ _ Q' q' => ?_) ?_
        · refine ⟨_, rfl, _, rfl, _, rfl, _, _, rfl, rfl, .inl ⟨by decide, by decide⟩, _, _, rfl, rfl, .inl ⟨_, rfl, _, _, rfl, rfl, pos_of (by decide), _, _, let1 t i, rfl, rfl, by decide +kernel, ?_, q'⟩⟩
          have ev : ((t : Int) + 3 * (0 + (i : Int))) % 26 = (((t + 3 * i) % 26 : Nat) : Int) := by omega
          show atI _ (((t : Int) + 3 * (0 + (i : Int))) % 26) = _
          rw [ev]
          exact atI_nat (abc_at _ (Nat.mod_lt _ (by decide)))
        · rw [List.filter_eq_self.mpr (fun _ _ => rfl)]
          have em : ((List.range (k : Int).toNat).map fun i => V.str (one (let1 t i))) = ((List.range k).map fun i => one (let1 t i)).map V.str := by
            rw [List.map_map]
            rfl
          rw [em]
          exact q D4 _ _ (e23.trans (Ext.new hD4)) (e23.free hD4) upd_same (names1 t k hk8)
      · refine ⟨_, rfl, _, rfl, by omega, by omega, fun D4 hD4 => ?_⟩
        refine lc_det walk_range (fun i => .int (0 + (i : Int))) (fun _ => true) (fun i => .str (cutS b none (some (at_ : Int)) ++ one (let1 t i) ++ cutS b (some (at_ : Int)) none)) hD4 (by show _ ≤ 2 ^ 24; omega) (fun i H x H' _ y => y) (fun _ _ => trivial) (fun i H' _ _ Q' q' => q') (fun i H' hi _ _ Q' q' => ?_) ?_
        · have hb2 : b.length ≤ 2 ^ 24 := by omega
          have c1 := cutS_length b none (some (at_ : Int))
          have c2 := cutS_length b (some (at_ : Int)) none
          refine ⟨_, rfl, _, rfl, _, rfl, b, rfl, hb2, ?_⟩
          refine ⟨_, rfl, _, rfl, _, rfl, _, _, rfl, rfl, .inl ⟨by decide, by decide⟩, _, _, rfl, rfl, .inl ⟨_, rfl, _, _, rfl, rfl, pos_of (by decide), _, _, let1 t i, rfl, rfl, by decide +kernel, ?_, ?_⟩⟩
          · have ev : ((t : Int) + 3 * (0 + (i : Int))) % 26 = (((t + 3 * i) % 26 : Nat) : Int) := by omega
            show atI _ (((t : Int) + 3 * (0 + (i : Int))) % 26) = _
            rw [ev]
            exact atI_nat (abc_at _ (Nat.mod_lt _ (by decide)))
          · refine ⟨_, _, rfl, rfl, by show _ + 1 ≤ 2 ^ 24; omega, ?_⟩
            refine ⟨_, rfl, _, rfl, _, rfl, b, rfl, hb2, _, _, rfl, rfl, ?_, q'⟩
            have c3 : (cutS b none (some (at_ : Int)) ++ one (let1 t i)).length = (cutS b none (some (at_ : Int))).length + 1 := by
              rw [tlen, tlen, tl_app, List.length_append]
              rfl
            show (cutS b none (some (at_ : Int)) ++ one (let1 t i)).length + _ ≤ 2 ^ 24
            omega
        · rw [List.filter_eq_self.mpr (fun _ _ => rfl)]
          have em : ((List.range (k : Int).toNat).map fun i => V.str (cutS b none (some (at_ : Int)) ++ one (let1 t i) ++ cutS b (some (at_ : Int)) none)) = ((List.range k).map fun i => cutS b none (some (at_ : Int)) ++ one (let1 t i) ++ cutS b (some (at_ : Int)) none).map V.str := by
            rw [List.map_map]
            rfl
          rw [em]
          refine q D4 _ _ (e23.trans (Ext.new hD4)) (e23.free hD4) upd_same (names2 cs at_ t k _ hcs1 hcs7 hcm hk8 ha fun i _ => ?_)
          rw [tl_app, tl_app, cutS_take, cutS_drop, hj]
          rfl
end

end K41

set_option Elab.async false
set_option linter.all false
set_option maxRecDepth 100000
set_option maxHeartbeats 4000000
namespace K41
open PySem PySem.Spec PyProof.Rows L2 Ol RZ
open TL (tl)
section
variable {P : Program} {w : World} {K : PySem.W.Frag} {mg : Str → Option Value} {base : Heap} {C S : Addr}
/-! ### _law_bounds -/
def spBounds : Sp := fun vs H Q _ => ∃ (p an : Addr) (ys : List Str) (g : Int), vs = [.ref p, .ref an, .int g] ∧ 1 ≤ g ∧ g ≤ 3 ∧ Bag H p ∧ H an = some (.lst (ys.map V.str)) ∧ ys.Nodup ∧ ys.length ≤ 3 ∧
  ∀ d H' ps, H d = none → Ext H H' → H' d = some (.dK (kvI ps)) → ps.map (·.1) = ys → (∀ q ∈ ps, 1 ≤ q.2 ∧ q.2 ≤ g) → Q (.ref d) H'
abbrev s_bounds : Stmt := (topS 53)
theorem sc_bounds : FnScope ["_law_bag_here", "_law_names_here", "_law_greatest", "_law_found", "_law_name"] ["_law_bag_here", "_law_names_here", "_law_greatest"] (defScope s_bounds) := ⟨rfl, rfl, rfl, by decide +kernel, rfl, by decide +kernel, by decide +kernel⟩
theorem kvI_none {ps : List (Str × Int)} {x : Str} (h : x ∉ ps.map (·.1)) : valV (kvI ps) (.inr x) = none := by
  refine valV_none fun p hp e => h ?_
  unfold kvI at hp
  obtain ⟨q, hq, rfl⟩ := List.mem_map.mp hp
  have e' : q.1 = x := Sum.inr.inj e
  rw [← e']
  exact List.mem_map_of_mem hq
theorem ok_bounds {f : Addr} {fd : FuncData} (F : Fun K "_law_bounds" "_law_bounds" s_bounds f fd) (T : BT mg) (CT : Ca P w K mg base 1 "_law_take" ["_law_bag_here", "_law_many"] spTake) :
    FnOk P w K mg base CX0 2 f fd ["_law_bag_here", "_law_names_here", "_law_greatest"] spBounds := by
  refine F.ok sc_bounds (fun vs H Q E h => ?_) (fun cdv A outer s H vs Q E hr h => ?_)
  · obtain ⟨p, an, ys, g, rfl, _⟩ := h
    rfl
  · obtain ⟨p, an, ys, g, rfl, hg1, hg3, hB, hN, hnd, hl, q⟩ := h
    refine ⟨_, (pss_cons (ps_set (i := 3) sc_bounds.nd rfl (.inl rfl) pe_dnewK)
    (pss_cons (ps_for PassesOwn.never rfl (pi_list (pv 1)) (pg_name (i := 4) sc_bounds.nd rfl (.inl rfl))
      (pss_one (ps_dput (hu_of hr) (pv 3) (pv 4) (pe_ifExp (pt_cmpR op_gt (pe_callB call_len_seq (by rfl) T.n_len (by decide +kernel) (pa_cons (pv 1) pa_nil)) pe_int (nomark _)) pe_int (pe_op op_add pe_int (pe_ca CT (hr.mono (by decide)) (by rfl) (pa_cons (pv 0) (pa_cons (pv 2) pa_nil))))) rfl)))
    (pss_one (ps_ret (pv 3))))), ?_⟩
    intro d hd
    have e0 := Ext.new (o := .dK []) hd
    have ml : (ys.map V.str).length = ys.length := List.length_map ..
    refine ⟨_, rfl, an, rfl, ⟨_, SqL.of (e0 _ _ hN)⟩, ?_⟩
    refine for_list (xs := ys.map V.str) (fun i σ H' => ∃ v4 ps, σ = [some (.ref p), some (.ref an), some (.int g), some (.ref d), v4] ∧ Ext H H' ∧ H' d = some (.dK (kvI ps)) ∧ ps.map (·.1) = ys.take i ∧ (∀ q ∈ ps, 1 ≤ q.2 ∧ q.2 ≤ g))
      ⟨none, [], rfl, e0, upd_same, rfl, fun q hq => by cases hq⟩ (fun i σ H' _ ⟨_, _, _, e, _⟩ => SqL.of (e _ _ hN)) ?_ ?_
    · rintro i x σ H1 hx ⟨v4, ps, rfl, e, hd1, hps, hb⟩
      have hi : i < ys.length := by have := (List.getElem?_eq_some_iff.mp hx).1; rw [ml] at this; exact this
      rw [List.getElem?_map, List.getElem?_eq_getElem hi] at hx
      cases hx
      have hni : ys[i] ∉ ps.map (·.1) := fun z => by
        rw [hps] at z
        obtain ⟨j, hj, ej⟩ := List.getElem_of_mem z
        rw [List.length_take] at hj
        rw [List.getElem_take] at ej
        exact List.pairwise_iff_getElem.mp hnd j i (by omega) hi (by omega) ej
      have htk : ys.take (i + 1) = ys.take i ++ [ys[i]] := by rw [List.take_add_one, List.getElem?_eq_getElem hi]; rfl
      have hpl : ps.length ≤ 3 := by have := congrArg List.length hps; rw [List.length_map, List.length_take] at this; omega
      -- what is stored
      have put : ∀ (z : Int) (H2 : Hp), Ext H H2 → H2 d = some (.dK (kvI ps)) → 1 ≤ z → z ≤ g →
          ∃ ps', (upd H2 d (.dK (putK (kvI ps) (.inr ys[i]) (.int z)))) d = some (.dK (kvI ps')) ∧ ps'.map (·.1) = ys.take (i + 1) ∧ (∀ q ∈ ps', 1 ≤ q.2 ∧ q.2 ≤ g) := by
        intro z H2 e2 h2 z1 z3
        refine ⟨ps ++ [(ys[i], z)], ?_, ?_, ?_⟩
        · rw [upd_same, putK_new (kvI_none hni)]
          unfold kvI
          rw [List.map_append]
          rfl
        · rw [List.map_append, hps, htk]
          rfl
        · intro q hq
          rcases List.mem_append.mp hq with h | h
          · exact hb q h
          · rw [List.mem_singleton.mp h]; exact ⟨z1, z3⟩
      refine ⟨_, rfl, an, _, rfl, .inl (SqL.of (e _ _ hN)), _, _, rfl, rfl, _, rfl, ?_⟩
      refine ite2 (fun _ => ?_) (fun _ => ?_)
      · obtain ⟨ps', g1', g2, g3⟩ := put 1 H1 e hd1 (by decide) hg1
        exact ⟨_, rfl, _, rfl, d, _, rfl, DPut.k (k := Sum.inr ys[i]) hd1 (by unfold kvI; rw [List.length_map]; exact Nat.lt_of_le_of_lt hpl (by decide)), _, ps', rfl, Ext.mut e hd, g1', g2, g3⟩
      · refine ⟨_, rfl, _, rfl, p, g, rfl, hB.up e, by omega, by omega, fun r r0 r1 => ?_⟩
        obtain ⟨ps', g1', g2, g3⟩ := put (1 + r) H1 e hd1 (by omega) (by omega)
        exact ⟨_, _, rfl, rfl, _, rfl, _, rfl, d, _, rfl, DPut.k (k := Sum.inr ys[i]) hd1 (by unfold kvI; rw [List.length_map]; exact Nat.lt_of_le_of_lt hpl (by decide)), _, ps', rfl, Ext.mut e hd, g1', g2, g3⟩
    · rintro σ H' ⟨v4, ps, rfl, e, hd1, hps, hb⟩
      rw [ml, List.take_length] at hps
      exact ⟨_, rfl, q d H' ps hd e hd1 hps hb⟩
end
end K41

set_option Elab.async false
set_option linter.all false
set_option maxRecDepth 100000
set_option maxHeartbeats 4000000
namespace K41
open PySem PySem.Spec PyProof.Rows L2 Ol RZ
open TL (tl)
def words4 : List Str := ["close", "ended", "send", "take"]
theorem DqAll_snoc {H : Hp} : ∀ {xs : List V} {ds : List PyData} {v : V} {d : PyData}, DqAll H xs ds → Dq H v d → DqAll H (xs ++ [v]) (ds ++ [d])
  | _, _, _, _, .nil, h => .cons h .nil
  | _, _, _, _, .cons a t, h => .cons a (DqAll_snoc t h)
section
variable {P : Program} {w : World} {K : PySem.W.Frag} {mg : Str → Option Value} {base : Heap}
def wordsV : List V := [.str "close", .str "ended", .str "send", .str "take"]
theorem inV_words (x : Str) : inV (.str x) wordsV = isWordS x := by
  show ((("close" : Str) == x) || ((("ended" : Str) == x) || ((("send" : Str) == x) || ((("take" : Str) == x) || false)))) = isWordS x
  unfold isWordS
  rw [Bool.eq_iff_iff]
  simp only [Bool.or_eq_true, beq_iff_eq, decide_eq_true_eq, Bool.or_false]
  constructor
  · rintro (h | h | h | h)
    · exact Or.inl h.symm
    · exact Or.inr (Or.inl h.symm)
    · exact Or.inr (Or.inr (Or.inl h.symm))
    · exact Or.inr (Or.inr (Or.inr h.symm))
  · rintro (h | h | h | h)
    · exact Or.inl h.symm
    · exact Or.inr (Or.inl h.symm)
    · exact Or.inr (Or.inr (Or.inl h.symm))
    · exact Or.inr (Or.inr (Or.inr h.symm))
theorem kS_no {d : PyData} (h : ¬ kS d = true) : isWordD d = false ∧ isElseD d = false ∧ isNameD d = false := by
  cases d with
  | str x => exact absurd rfl h
  | _ => exact ⟨rfl, rfl, rfl⟩

abbrev s_is_word : Stmt := (topS 20)
theorem sc_is_word : FnScope ["thing"] ["thing"] (defScope s_is_word) := ⟨rfl, rfl, rfl, by decide +kernel, rfl, by decide +kernel, by decide +kernel⟩
theorem ok_is_word {f : Addr} {fd : FuncData} (F : Fun K "is_word" "is_word" s_is_word f fd) (T : BT mg) {aW : Addr} (gW : mg "WORDS" = some (.ref aW)) (hW : ∀ H, SqT K H aW wordsV) :
    FnOk P w K mg base CX0 1 f fd ["thing"] (spPred Any isWordD) := by
  refine F.ok sc_is_word (fun vs H Q E h => ?_) (fun cdv A outer s H vs Q E hr h => ?_)
  · obtain ⟨v, d, rfl, _⟩ := h
    rfl
  · obtain ⟨v, d, rfl, hd, hz, q⟩ := h
    have q' := q H (Ext.refl H)
    refine ⟨_, (pss_one (ps_ret (pe_and (pe_callB call_isi (by rfl) T.n_isinstance (by decide +kernel) (pa_cons (pv 0) (pa_cons (pe_bltn (v := .ty "str") (by rfl) T.n_str (by decide +kernel) rfl) pa_nil))) (pe_one (pe_cmpR op_in_seq (pv 0) (pe_glob (v := .ref aW) rfl gW rfl) (by rfl)))))), ?_⟩
    refine ⟨_, rfl, _, _, _, _, _, rfl, .ty "str", ty_of hd, ki_str d, _, rfl, ?_⟩
    refine ite2 (fun h => ?_) (fun h => ?_)
    · obtain ⟨x, rfl, rfl⟩ := dq_str hd h
      refine ⟨_, rfl, aW, _, rfl, .inr (hW _), rfl, by decide +kernel, ?_⟩
      have e : (if false = true then !inV (.str x) wordsV else inV (.str x) wordsV) = isWordD (.str x) := by
        rw [if_neg Bool.false_ne_true, inV_words]
        rfl
      rw [e]
      exact q'
    · rw [(kS_no h).1] at q'
      exact q'

abbrev s_is_arm : Stmt := (topS 22)
theorem sc_is_arm : FnScope ["thing"] ["thing"] (defScope s_is_arm) := ⟨rfl, rfl, rfl, by decide +kernel, rfl, by decide +kernel, by decide +kernel⟩
theorem kT_not {d : PyData} (h : (!kT d) = true) : isArmD d = false := by
  cases d with
  | tuple ds => cases h
  | _ => rfl
theorem kT_yes {d : PyData} (h : ¬ (!kT d) = true) : kT d = true := by
  cases e : kT d with
  | true => rfl
  | false => rw [e] at h; exact absurd rfl h
theorem isArm_len {ds : List PyData} (h2 : ds.length ≠ 2) (h3 : ds.length ≠ 3) : isArmD (.tuple ds) = false := by
  match ds, h2, h3 with
  | [], _, _ => rfl
  | [_], _, _ => rfl
  | [_, _], h, _ => exact absurd rfl h
  | [_, _, _], _, h => exact absurd rfl h
  | _ :: _ :: _ :: _ :: _, _, _ => rfl
theorem two_of {H : Hp} {xs : List V} {ds : List PyData} (t : DqAll H xs ds) (h : xs.length = 2) : ∃ v0 v1 d0 d1, xs = [v0, v1] ∧ ds = [d0, d1] ∧ Dq H v0 d0 ∧ Dq H v1 d1 := by
  cases t with
  | nil => cases h
  | cons a t => cases t with
    | nil => cases h
    | cons b t => cases t with
      | nil => exact ⟨_, _, _, _, rfl, rfl, a, b⟩
      | cons c t => simp at h
theorem three_of {H : Hp} {xs : List V} {ds : List PyData} (t : DqAll H xs ds) (h : xs.length = 3) : ∃ v0 v1 v2 d0 d1 d2, xs = [v0, v1, v2] ∧ ds = [d0, d1, d2] ∧ Dq H v0 d0 ∧ Dq H v1 d1 ∧ Dq H v2 d2 := by
  cases t with
  | nil => cases h
  | cons a t => cases t with
    | nil => cases h
    | cons b t => cases t with
      | nil => cases h
      | cons c t => cases t with
        | nil => exact ⟨_, _, _, _, _, _, rfl, rfl, a, b, c⟩
        | cons e t => simp at h
theorem ok_is_arm {f : Addr} {fd : FuncData} (F : Fun K "is_arm" "is_arm" s_is_arm f fd) (T : BT mg)
    (C2 : Ca P w K mg base 2 "is_number" ["thing"] (spPred Any isNumD)) (C3 : Ca P w K mg base 1 "is_name" ["thing"] (spPred Ok1 isNameD)) (C4 : Ca P w K mg base 1 "is_word" ["thing"] (spPred Any isWordD)) :
    FnOk P w K mg base CX0 3 f fd ["thing"] (spPred OkT isArmD) := by
  refine F.ok sc_is_arm (fun vs H Q E h => ?_) (fun cdv A outer s H vs Q E hr h => ?_)
  · obtain ⟨v, d, rfl, _⟩ := h
    rfl
  · obtain ⟨v, d, rfl, hd, hz, q⟩ := h
    refine ⟨_, (pss_cons (ps_if (pt_not (pt_val (pe_callB call_isi (by rfl) T.n_isinstance (by decide +kernel) (pa_cons (pv 0) (pa_cons (pe_bltn (v := .ty "tuple") (by rfl) T.n_tuple (by decide +kernel) rfl) pa_nil)))))
      (pss_one (ps_ret pe_bl))
      pss_nil)
    (pss_cons (ps_if (pt_cmpR op_eq (pe_callB call_len_seq (by rfl) T.n_len (by decide +kernel) (pa_cons (pv 0) pa_nil)) pe_int (nomark _))
      (pss_one (ps_ret (pe_and (pe_callB call_isi (by rfl) T.n_isinstance (by decide +kernel) (pa_cons (pe_ix ix_tup (pv 0) pe_int (fun _ _ => rfl)) (pa_cons (pe_bltn (v := .ty "str") (by rfl) T.n_str (by decide +kernel) rfl) pa_nil))) (pe_and (pe_cmpR op_eq (pe_ix ix_tup (pv 0) pe_int (fun _ _ => rfl)) pe_str (nomark _)) (pe_one (pe_ca C2 (hr.mono (by decide)) (by rfl) (pa_cons (pe_ix ix_tup (pv 0) pe_int (fun _ _ => rfl)) pa_nil)))))))
      pss_nil)
    (pss_one (ps_ret (pe_and (pe_cmpR op_eq (pe_callB call_len_seq (by rfl) T.n_len (by decide +kernel) (pa_cons (pv 0) pa_nil)) pe_int (nomark _)) (pe_and (pe_ca C4 (hr.mono (by decide)) (by rfl) (pa_cons (pe_ix ix_tup (pv 0) pe_int (fun _ _ => rfl)) pa_nil)) (pe_and (pe_ca C3 (hr.mono (by decide)) (by rfl) (pa_cons (pe_ix ix_tup (pv 0) pe_int (fun _ _ => rfl)) pa_nil)) (pe_one (pe_ca C2 (hr.mono (by decide)) (by rfl) (pa_cons (pe_ix ix_tup (pv 0) pe_int (fun _ _ => rfl)) pa_nil)))))))))), ?_⟩
    refine ⟨_, rfl, _, _, _, _, _, rfl, .ty "tuple", ty_of hd, ki_tuple d, _, rfl, ?_⟩
    refine ite2 (fun h => ?_) (fun h => ?_)
    · have q' := q H (Ext.refl H)
      rw [kT_not h] at q'
      exact q'
    · obtain ⟨a, xs, ds, rfl, rfl, ha, t⟩ := dq_tup hd (kT_yes h)
      have sa : ∀ {H1}, Ext H H1 → SqT K H1 a xs := fun e => SqT.of (e _ _ ha)
      have hl := t.len
      refine ⟨_, rfl, a, _, rfl, .inr (SqT.of ha), rfl, _, rfl, ?_⟩
      refine ite2 (fun h2 => ?_) (fun h2 => ?_)
      · have h2' : xs.length = 2 := by
          have z := of_decide_eq_true h2
          injection z with z
          omega
        obtain ⟨v0, v1, d0, d1, rfl, rfl, t0, t1⟩ := two_of t h2'
        have ea : isArmD (.tuple [d0, d1]) = (isElseD d0 && isNumD d1) := rfl
        rw [ea] at q
        refine ⟨_, rfl, a, _, _, _, rfl, rfl, SqT.of ha, rfl, _, _, _, _, _, rfl, .ty "str", ty_of t0, ki_str d0, _, rfl, ?_⟩
        refine ite2 (fun h0 => ?_) (fun h0 => ?_)
        · obtain ⟨x, rfl, rfl⟩ := dq_str t0 h0
          refine ⟨_, rfl, a, _, _, _, rfl, rfl, SqT.of ha, rfl, rfl, _, rfl, ?_⟩
          refine ite2 (fun h1 => ?_) (fun h1 => ?_)
          · refine ⟨_, rfl, a, _, _, _, rfl, rfl, SqT.of ha, rfl, v1, d1, rfl, t1, trivial, fun H1 e1 => ?_⟩
            have z := q H1 e1
            have e0 : isElseD (.str x) = true := by
              have z := of_decide_eq_true h1
              injection z with z
              exact decide_eq_true z
            rw [e0, Bool.true_and] at z
            exact z
          · have z := q H (Ext.refl H)
            have e0 : isElseD (.str x) = false := decide_eq_false fun z => h1 (decide_eq_true (by rw [z]))
            rw [e0, Bool.false_and] at z
            exact z
        · have z := q H (Ext.refl H)
          rw [(kS_no h0).2.1, Bool.false_and] at z
          exact z
      · have h2' : xs.length ≠ 2 := fun z => h2 (decide_eq_true (by rw [z]; rfl))
        refine ⟨_, rfl, a, _, rfl, .inr (SqT.of ha), rfl, _, rfl, ?_⟩
        refine ite2 (fun h3 => ?_) (fun h3 => ?_)
        · have h3' : xs.length = 3 := by
            have z := of_decide_eq_true h3
            injection z with z
            omega
          obtain ⟨v0, v1, v2, d0, d1, d2, rfl, rfl, t0, t1, t2⟩ := three_of t h3'
          have ea : isArmD (.tuple [d0, d1, d2]) = (isWordD d0 && (isNameD d1 && isNumD d2)) := rfl
          rw [ea] at q
          refine ⟨_, rfl, a, _, _, _, rfl, rfl, SqT.of ha, rfl, v0, d0, rfl, t0, trivial, fun H1 e1 => ⟨_, rfl, ?_⟩⟩
          refine ite2 (fun g0 => ?_) (fun g0 => ?_)
          · rw [g0, Bool.true_and] at q
            refine ⟨_, rfl, a, _, _, _, rfl, rfl, sa e1, rfl, v1, d1, rfl, t1.up e1, hz _ _ rfl (by simp), fun H2 e2 => ⟨_, rfl, ?_⟩⟩
            refine ite2 (fun g1 => ?_) (fun g1 => ?_)
            · rw [g1, Bool.true_and] at q
              refine ⟨_, rfl, a, _, _, _, rfl, rfl, sa (e1.trans e2), rfl, v2, d2, rfl, t2.up (e1.trans e2), trivial, fun H3 e3 => ?_⟩
              exact q H3 ((e1.trans e2).trans e3)
            · have z := q H2 (e1.trans e2)
              rw [Bool.eq_false_iff.mpr g1, Bool.false_and] at z
              exact z
          · have z := q H1 e1
            rw [Bool.eq_false_iff.mpr g0, Bool.false_and] at z
            exact z
        · have h3' : xs.length ≠ 3 := fun z => h3 (decide_eq_true (by rw [z]; rfl))
          have z := q H (Ext.refl H)
          rw [isArm_len (by omega) (by omega)] at z
          exact z
end
end K41

set_option Elab.async false
set_option linter.all false
set_option maxRecDepth 100000
set_option maxHeartbeats 4000000
namespace Ol
open PySem PySem.Spec PyProof.Rows L2

theorem lt_anti : ∀ a b : List Nat, ltCps a b = false → ltCps b a = false → a = b
  | [], [], _, _ => rfl
  | [], _ :: _, h, _ => by cases h
  | _ :: _, [], _, h => by cases h
  | a :: r, b :: t, h1, h2 => by
    unfold ltCps at h1 h2
    simp only [Bool.or_eq_false_iff, decide_eq_false_iff_not, Bool.and_eq_false_iff, beq_eq_false_iff_ne] at h1 h2
    have e : a = b := by omega
    subst e
    have r1 : ltCps r t = false := h1.2.resolve_left (fun z => z rfl)
    have r2 : ltCps t r = false := h2.2.resolve_left (fun z => z rfl)
    rw [lt_anti r t r1 r2]
theorem lt_trans : ∀ x y z : List Nat, ltCps y x = false → ltCps z y = false → ltCps z x = false
  | [], _, [], _, _ => rfl
  | [], _, _ :: _, _, _ => rfl
  | _ :: _, [], _, h, _ => by cases h
  | _ :: _, _ :: _, [], _, h => by cases h
  | c :: r, b :: t, d :: u, h1, h2 => by
    unfold ltCps at h1 h2 ⊢
    simp only [Bool.or_eq_false_iff, decide_eq_false_iff_not, Bool.and_eq_false_iff, beq_eq_false_iff_ne] at h1 h2 ⊢
    refine ⟨by omega, ?_⟩
    by_cases e : d = c
    · right
      have e1 : b = c := by omega
      have e2 : d = b := by omega
      exact lt_trans r t u (h1.2.resolve_left (fun z => z e1)) (h2.2.resolve_left (fun z => z e2))
    · exact .inl e
theorem rising_pw : ∀ (p : Str) (l : List Str), risingS p l = true → (p :: l).Pairwise (fun a b => ltCps b.cps.toList a.cps.toList = false)
  | p, [], _ => by simp
  | p, x :: r, h => by
    unfold risingS at h
    rw [Bool.and_eq_true, Bool.not_eq_true'] at h
    have ih := rising_pw x r h.2
    refine List.pairwise_cons.mpr ⟨fun y hy => ?_, ih⟩
    rcases List.mem_cons.mp hy with rfl | hy
    · exact h.1
    · exact lt_trans _ _ _ h.1 (List.rel_of_pairwise_cons ih hy)
theorem sorted_pw : ∀ l : List Str, sortedS l = true → l.Pairwise (fun a b => ltCps b.cps.toList a.cps.toList = false)
  | [], _ => .nil
  | x :: r, h => rising_pw x r h
theorem sorted_one {xs ys : List Str} (h1 : sortedS xs = true) (h2 : sortedS ys = true) (hp : xs.Perm ys) : xs = ys :=
  List.Perm.eq_of_pairwise (fun a b _ _ q1 q2 => by
    have e : a.cps.toList = b.cps.toList := lt_anti _ _ q2 q1
    cases a with | mk a => cases b with | mk b => have e2 : a = b := Array.toList_inj.mp e; rw [e2]) (sorted_pw _ h1) (sorted_pw _ h2) hp

/-! ### data without dicts -/
mutual
inductive Nd : PyData → Prop
  | non : Nd .none
  | bl (b : Bool) : Nd (.bool b)
  | int (i : Int) : Nd (.int i)
  | str (x : Str) : Nd (.str x)
  | lst {ds : List PyData} : NdAll ds → Nd (.list ds)
  | tup {ds : List PyData} : NdAll ds → Nd (.tuple ds)
inductive NdAll : List PyData → Prop
  | nil : NdAll []
  | cons {d : PyData} {ds : List PyData} : Nd d → NdAll ds → NdAll (d :: ds)
end
theorem NdAll.of : ∀ {ds : List PyData}, (∀ d ∈ ds, Nd d) → NdAll ds
  | [], _ => .nil
  | d :: ds, h => .cons (h d List.mem_cons_self) (NdAll.of fun e he => h e (List.mem_cons_of_mem _ he))
mutual
theorem Dq.off {H : Hp} {p : Addr} {kv : List (Key × V)} (hp : H p = some (.dK kv)) : ∀ {v : V} {d : PyData}, Dq H v d → Nd d → Dq (del H p) v d
  | _, _, .non, _ => .non
  | _, _, .bl b, _ => .bl b
  | _, _, .int i, _ => .int i
  | _, _, .str x, _ => .str x
  | _, _, .lst h t, n => .lst (by rw [del_ne (fun z => by rw [z, hp] at h; cases h)]; exact h) (DqAll.off hp t (by cases n; assumption))
  | _, _, .tup h t, n => .tup (by rw [del_ne (fun z => by rw [z, hp] at h; cases h)]; exact h) (DqAll.off hp t (by cases n; assumption))
  | _, _, .dct h t, n => by cases n
theorem DqAll.off {H : Hp} {p : Addr} {kv : List (Key × V)} (hp : H p = some (.dK kv)) : ∀ {vs : List V} {ds : List PyData}, DqAll H vs ds → NdAll ds → DqAll (del H p) vs ds
  | _, _, .nil, _ => .nil
  | _, _, .cons h t, n => .cons (Dq.off hp h (by cases n; assumption)) (DqAll.off hp t (by cases n; assumption))
end
end Ol

set_option Elab.async false
set_option linter.all false
set_option maxRecDepth 100000
set_option maxHeartbeats 4000000
namespace Ol
open PySem PySem.Spec PyProof.Rows L2
/-- data not in a list of data -/
def rNotInQ : R2 := fun x y H Q => ∃ d ds, Sys H ∧ Dq H x d ∧ Dq H y (.list ds) ∧ SeqAt.shaped d = true ∧ SeqAt.shaped (.list ds) = true ∧ Q (.bl (!ds.any fun z => PyData.eqv z d)) H
theorem op_notInQ {X : Cx} (hu : X.A.units + 65 < cLine) : OpR X (compareOp .NotIn) rNotInQ := by
  intro pins s σ H x y v u Q I rx ry h
  obtain ⟨d, ds, S, hd, he, sd, se, q⟩ := h
  obtain ⟨as, r1, _⟩ := Dq.reads I S hd rx
  obtain ⟨bs, r2, _⟩ := Dq.reads I S he ry
  exact SeqAt.notIn_list_reads r2 r1 (SeqAt.canLay_of_shaped se) (SeqAt.canLay_of_shaped sd) (room_in_shaped sd hu) ⟨.bl _, H, I, rfl, q⟩
end Ol

set_option Elab.async false
set_option linter.all false
set_option maxRecDepth 100000
set_option maxHeartbeats 4000000
namespace K41
open PySem PySem.Spec PyProof.Rows L2 Ol RZ
open TL (tl)
/-! ### sizes -/
theorem nd_st (c : Nat) (b : Bool) : Nd (stD c b) := .tup (.cons (.int _) (.cons (.bl _) .nil))
theorem nd_ct (cs : List (Nat × Bool)) : Nd (ctD cs) := .tup (NdAll.of fun d hd => by
  obtain ⟨s, _, rfl⟩ := List.mem_map.mp hd
  exact nd_st _ _)
theorem nd_all (f : List (List (Nat × Bool))) : Nd (.list (f.map ctD)) := .lst (NdAll.of fun d hd => by
  obtain ⟨s, _, rfl⟩ := List.mem_map.mp hd
  exact nd_ct _)
theorem lay_all : ∀ {ds : List PyData}, (∀ d ∈ ds, d.canLay0 = true) → PyData.canLayAll0 ds = true
  | [], _ => by simp [PyData.canLayAll0]
  | d :: ds, h => by simp [PyData.canLayAll0, h d List.mem_cons_self, lay_all fun e he => h e (List.mem_cons_of_mem _ he)]
theorem lay_shaped {d : PyData} (h : d.canLay0 = true) (hd : d.depth ≤ 64) : SeqAt.shaped d = true := by
  unfold SeqAt.shaped
  rw [h, decide_eq_true hd]
  rfl
theorem lay_st (c : Nat) (b : Bool) : (stD c b).canLay0 = true := by simp [stD, PyData.canLay0, PyData.canLayAll0]
theorem lay_ct (cs : List (Nat × Bool)) : (ctD cs).canLay0 = true := by
  unfold ctD
  rw [PyData.canLay0]
  refine lay_all fun d hd => ?_
  obtain ⟨s, _, rfl⟩ := List.mem_map.mp hd
  exact lay_st _ _
theorem lay_cts (f : List (List (Nat × Bool))) : (PyData.list (f.map ctD)).canLay0 = true := by
  rw [PyData.canLay0]
  refine lay_all fun d hd => ?_
  obtain ⟨s, _, rfl⟩ := List.mem_map.mp hd
  exact lay_ct _
theorem gd_st (c : Nat) (b : Bool) (h : c ≤ 3) : Gd 1 (stD c b) := by
  refine gd_tuple (fun d hd => ?_) (by simp)
  simp only [List.mem_cons, List.not_mem_nil, or_false] at hd
  rcases hd with rfl | rfl
  · have : c = 0 ∨ c = 1 ∨ c = 2 ∨ c = 3 := by omega
    rcases this with rfl | rfl | rfl | rfl <;> exact gd_int _ (by decide +kernel) (by decide +kernel)
  · exact gd_bl b
theorem gd_ct (cs : List (Nat × Bool)) (hl : cs.length ≤ 3) (h : ∀ s ∈ cs, s.1 ≤ 3) : Gd 2 (ctD cs) := by
  refine gd_tuple (fun d hd => ?_) (by unfold ctL; rw [List.length_map]; omega)
  obtain ⟨s, hs, rfl⟩ := List.mem_map.mp hd
  exact gd_st _ _ (h s hs)
theorem fits_list {n : Nat} {ds : List PyData} (h : ∀ d ∈ ds, Gd n d) (hn : n ≤ 3) (h5 : ds.length ≤ 20) : Fits (.list ds) := by
  have h' : ∀ d ∈ ds, Gd 3 d := fun d hd => (h d hd).up hn
  obtain ⟨h1, h2, h3, h4⟩ := all_sh h'
  refine ⟨by simpa [PyData.showable] using h1, by simp only [PyData.depth]; omega, ?_⟩
  simp only [PyData.shown]
  have z := pile_le _ h3
  have z1 := listText_le (PyData.shownAll ds)
  rw [h4] at z
  have z2 : ds.length * (200 * 8 ^ 3 + 2) ≤ 20 * (200 * 8 ^ 3 + 2) := Nat.mul_le_mul_right _ h5
  exact Nat.le_trans (show _ ≤ 20 * (200 * 8 ^ 3 + 2) + 2 by omega) (by decide)
theorem name_gd {x : Str} (h : isNameS x = true) : Gd 0 (.str x) := by
  obtain ⟨h1, h2, h3⟩ := name_tl h
  exact gd_str x (by rw [tlen]; omega) fun c hc => abc_low c (h3 c hc)
theorem word_gd : ∀ x ∈ words4, Gd 0 (.str x) := fun x hx => by
  unfold words4 at hx
  simp only [List.mem_cons, List.not_mem_nil, or_false] at hx
  rcases hx with rfl | rfl | rfl | rfl <;> exact gd_str _ (by decide +kernel) (by decide +kernel)
theorem name_ok {x : Str} (h : isNameS x = true) : PyData.strOk x = true := by
  obtain ⟨h1, h2, h3⟩ := name_tl h
  unfold PyData.strOk
  rw [Array.all_eq_true_iff_forall_mem]
  intro c hc
  have hc' : c ∈ tl x := Array.mem_toList_iff.mpr hc
  exact decide_eq_true (Nat.lt_of_lt_of_le (abc_low c (h3 c hc')) (by decide))
theorem word_ok : ∀ x ∈ words4, PyData.strOk x = true := by decide +kernel
/-! ### what an arm does, by counting -/
def addW (word : Str) : Int := if word = "send" then 1 else if word = "take" then -1 else 0
theorem beh_counts {word : Str} {c : Nat} {b : Bool} {bd : Int} {s' : Nat × Bool} (hc : (c : Int) ≤ bd) (h : beh word c b bd = some s') :
    ((s'.1 : Nat) : Int) = (c : Int) + addW word ∧ s'.2 = (b || decide (word = "close")) ∧ (s'.1 : Int) ≤ bd := by
  unfold beh at h
  split at h
  · rename_i g
    obtain ⟨rfl, rfl, g3⟩ := g
    cases h
    refine ⟨by unfold addW; rw [if_pos rfl]; omega, by rw [decide_eq_false (by decide +kernel)]; rfl, by omega⟩
  · rename_i g0
    unfold beh2 at h
    split at h
    · rename_i g
      obtain ⟨rfl, g2⟩ := g
      cases h
      refine ⟨?_, ?_, by show ((c - 1 : Nat) : Int) ≤ bd; omega⟩
      · unfold addW
        rw [if_neg (by decide +kernel), if_pos rfl]
        show ((c - 1 : Nat) : Int) = _
        omega
      · rw [decide_eq_false (by decide +kernel), Bool.or_false]
    · rename_i g1
      unfold beh3 at h
      split at h
      · rename_i g
        obtain ⟨rfl, rfl, rfl⟩ := g
        cases h
        refine ⟨?_, by rfl, by omega⟩
        unfold addW
        rw [if_neg (by decide +kernel), if_neg (by decide +kernel)]
        omega
      · unfold beh4 at h
        split at h
        · rename_i g
          obtain ⟨rfl, rfl⟩ := g
          cases h
          refine ⟨?_, by rw [decide_eq_true rfl]; rfl, by omega⟩
          unfold addW
          rw [if_neg (by decide +kernel), if_neg (by decide +kernel)]
          omega
        · cases h
theorem ix_get {ns : List Str} (j : Nat) (hj : j < ns.length) : (ns.map V.str)[j]? = some (.str ns[j]) := by
  rw [List.getElem?_map, List.getElem?_eq_getElem hj]
  rfl
end K41

set_option Elab.async false
set_option linter.all false
set_option maxRecDepth 100000
set_option maxHeartbeats 4000000
namespace K41
open PySem PySem.Spec PyProof.Rows L2 Ol RZ
open TL (tl)
/-! ### arms and places -/
abbrev Arm := Option (Str × Str) × Nat
def armD : Arm → PyData
  | (some (w, l), g) => .tuple [.str w, .str l, .int g]
  | (none, g) => .tuple [.str "else", .int g]
def GArm (a : Arm) : Prop := match a.1 with
  | some (w, l) => w ∈ words4 ∧ isNameS l = true
  | none => True
abbrev Place := Str × List Arm
def placeD (p : Place) : PyData := .tuple [.str p.1, .tuple (p.2.map armD)]
/-- places of a program with n of them -/
structure GPlace (n : Nat) (p : Place) : Prop where
  mode : p.1 = "first" ∨ p.1 = "any"
  arms : ∀ a ∈ p.2, GArm a ∧ a.2 < n
  els : (p.2.filter fun a => a.1.isNone).length ≤ 1
  few : p.2.length ≤ 5
theorem isArm_of {a : Arm} (h : GArm a) : isArmD (armD a) = true ∧ OkT (armD a) := by
  obtain ⟨o, g⟩ := a
  cases o with
  | none =>
    refine ⟨?_, fun ds e he hm => ?_⟩
    · show (isElseD (.str "else") && isNumD (.int (g : Int))) = true
      have : (0 : Int) ≤ (g : Int) := by omega
      simp [isElseD, isNumD, this]
    · cases he
      simp only [List.mem_cons, List.not_mem_nil, or_false] at hm
      rcases hm with rfl | rfl
      · exact fun y hy => by cases hy; exact ⟨by decide +kernel, by decide +kernel⟩
      · exact nope1 rfl
  | some p =>
    obtain ⟨w, l⟩ := p
    have h' : w ∈ words4 ∧ isNameS l = true := h
    have hw : isWordS w = true := by
      unfold isWordS
      have := h'.1
      unfold words4 at this
      simp only [List.mem_cons, List.not_mem_nil, or_false] at this
      exact decide_eq_true this
    refine ⟨?_, fun ds e he hm => ?_⟩
    · show (isWordD (.str w) && (isNameD (.str l) && isNumD (.int (g : Int)))) = true
      have : (0 : Int) ≤ (g : Int) := by omega
      have e1 : isWordD (.str w) = true := hw
      have e2 : isNameD (.str l) = true := h'.2
      rw [e1, e2]
      simp [isNumD, this]
    · cases he
      simp only [List.mem_cons, List.not_mem_nil, or_false] at hm
      rcases hm with rfl | rfl | rfl
      · exact fun y hy => by
          cases hy
          have := h'.1
          unfold words4 at this
          simp only [List.mem_cons, List.not_mem_nil, or_false] at this
          rcases this with rfl | rfl | rfl | rfl <;> exact ⟨by decide +kernel, by decide +kernel⟩
      · exact fun y hy => by cases hy; exact name_tx h'.2
      · exact nope1 rfl
section
variable {P : Program} {w : World} {K : PySem.W.Frag} {mg : Str → Option Value} {base : Heap} {C : Addr}
/-! ### is_mode -/
def modesV : List V := [.str "any", .str "first"]
def spGood (G : PyData → Prop) : Sp := fun vs H Q _ => ∃ (v : V) (d : PyData), vs = [v] ∧ Dq H v d ∧ G d ∧ ∀ H', Ext H H' → Q (.bl true) H'
abbrev s_mode : Stmt := (topS 21)
theorem sc_mode : FnScope ["thing"] ["thing"] (defScope s_mode) := ⟨rfl, rfl, rfl, by decide +kernel, rfl, by decide +kernel, by decide +kernel⟩
theorem ok_mode {f : Addr} {fd : FuncData} (F : Fun K "is_mode" "is_mode" s_mode f fd) (T : BT mg) {aM : Addr} (gM : mg "MODES" = some (.ref aM)) (hM : ∀ H, SqT K H aM modesV) :
    FnOk P w K mg base CX0 1 f fd ["thing"] (spGood fun d => d = .str "first" ∨ d = .str "any") := by
  refine F.ok sc_mode (fun vs H Q E h => ?_) (fun cdv A outer s H vs Q E hr h => ?_)
  · obtain ⟨v, d, rfl, _⟩ := h
    rfl
  · obtain ⟨v, d, rfl, hd, hg, q⟩ := h
    refine ⟨_, (pss_one (ps_ret (pe_and (pe_callB call_isi (by rfl) T.n_isinstance (by decide +kernel) (pa_cons (pv 0) (pa_cons (pe_bltn (v := .ty "str") (by rfl) T.n_str (by decide +kernel) rfl) pa_nil))) (pe_one (pe_cmpR op_in_seq (pv 0) (pe_glob (v := .ref aM) rfl gM rfl) (by rfl)))))), ?_⟩
    refine ⟨_, rfl, _, _, _, _, _, rfl, .ty "str", ty_of hd, ki_str d, _, rfl, ?_⟩
    have ks : kS d = true := by rcases hg with rfl | rfl <;> rfl
    rw [ks]
    refine iteT ?_
    obtain ⟨x, rfl, rfl⟩ := dq_str hd ks
    refine ⟨_, rfl, aM, _, rfl, .inr (hM _), rfl, by decide +kernel, ?_⟩
    have e : (if false = true then !inV (.str x) modesV else inV (.str x) modesV) = true := by
      rw [if_neg Bool.false_ne_true]
      rcases hg with z | z <;> cases z <;> decide +kernel
    rw [e]
    exact q _ (Ext.refl _)
/-! ### is_row_of -/
def spRow (G : PyData → Prop) (fN : Addr) : Sp := fun vs H Q _ => ∃ (a : Addr) (xs : List V) (ds : List PyData), vs = [.ref a, .ref fN] ∧ (H a = some (.lst xs) ∨ H a = some (.tup xs)) ∧ DqAll H xs ds ∧ (∀ d ∈ ds, G d) ∧ ds.length ≤ 60 ∧ ∀ H', Ext H H' → Q (.bl true) H'
abbrev s_row : Stmt := (topS 23)
theorem sc_row : FnScope ["thing", "is_part", "part"] ["thing", "is_part"] (defScope s_row) := ⟨rfl, rfl, rfl, by decide +kernel, rfl, by decide +kernel, by decide +kernel⟩
theorem kit_lt : PySem.W.kitAny K (.type "list") [.type "list", .type "tuple"] = some true :=
  kitAny_cons (kit_ty (by decide +kernel : kitB "list" "list" = some true)) (fun z => Bool.noConfusion z) (fun _ => rfl)
theorem kit_tt : PySem.W.kitAny K (.type "tuple") [.type "list", .type "tuple"] = some true :=
  kitAny_cons (kit_ty (by decide +kernel : kitB "tuple" "list" = some false)) (fun _ => kitAny_cons (kit_ty (by decide +kernel : kitB "tuple" "tuple" = some true)) (fun z => Bool.noConfusion z) (fun _ => rfl)) (fun z => Bool.noConfusion z)
theorem ok_row {G : PyData → Prop} {k : Nat} {f fN : Addr} {fd fdN : FuncData} (F : Fun K "is_row_of" "is_row_of" s_row f fd) (T : BT mg)
    (FN : FnOk P w K mg base CX0 k fN fdN ["thing"] (spGood G)) (kN : PySem.W.keepIn K (.ref fN) = true) (bN : Binds K fdN ["thing"] []) :
    FnOk P w K mg base CX0 (k + 1) f fd ["thing", "is_part"] (spRow G fN) := by
  refine F.ok sc_row (fun vs H Q E h => ?_) (fun cdv A outer s H vs Q E hr h => ?_)
  · obtain ⟨a, xs, ds, rfl, _⟩ := h
    rfl
  · obtain ⟨a, xs, ds, rfl, ha, hx, hg, hl, q⟩ := h
    have lx : xs.length = ds.length := hx.len
    rcases ha with ha | ha
    · refine ⟨_, (pss_one (ps_ret (pe_and (pe_callB call_isiT (by rfl) T.n_isinstance (by decide +kernel) (pa_cons (pv 0) (pa_cons (pe_tup (pa_cons (pe_bltn (v := .ty "list") (by rfl) T.n_list (by decide +kernel) rfl) (pa_cons (pe_bltn (v := .ty "tuple") (by rfl) T.n_tuple (by decide +kernel) rfl) pa_nil))) pa_nil)))
        (pe_one (pe_callB (cr_all rfl) (by rfl) T.n_all (by decide +kernel) (pa_cons (pe_lc (own := [("part", 2)]) (g := gName 2) (tt := tYes) rfl sc_row.nd (pi_list (pv 0)) (blkOk_by (N := ["thing", "is_part", "part"]) (sc := defScope s_row) (by decide +kernel)) (fun _ _ _ _ _ => pg_name (i := 2) sc_row.nd rfl (.inl rfl)) (fun _ _ _ _ _ => pts_nil)
          (fun _ _ _ _ _ => pe_callL (i := 1) FN (hr.mono (by omega)) rfl (by first | exact .inl rfl | exact .inr (.inl rfl) | exact .inr (.inr rfl)) kN bN .nil pass0 (pa_cons (pv 2) pa_nil))) pa_nil)))))), ?_⟩
      refine ⟨_, rfl, by show 2 ≤ sizeLine; decide, fun tp htp => ?_⟩
      have e1 := Ext.new (o := .tup [.ty "list", .ty "tuple"]) htp
      refine ⟨_, tp, _, _, _, true, rfl, upd_same, .cons (.ty _) (.cons (.ty _) .nil), .base (.lst (e1 _ _ ha)), kit_lt, _, rfl, ?_⟩
      refine iteT ?_
      have ha1 := e1 _ _ ha
      refine ⟨_, rfl, a, rfl, ⟨_, SqL.of ha1⟩, fun D hD => ?_⟩
      refine lc1_acc (walk_list (xs := xs)) (fun i ys _ => ys = List.replicate i (V.bl true) ∧ i ≤ 60) (fun _ _ _ _ _ h => h) ⟨rfl, by decide⟩ hD (fun i ys _ h => by rw [h.1, List.length_replicate]; exact Nat.lt_of_le_of_lt h.2 (by decide)) (fun H' e => SqL.of (e _ _ ha1)) ?_ ?_
      · rintro i x Hi H' ys hi e hy ⟨rfl, hxi⟩ ⟨hp, _⟩ QY QN kY kN
        have hi2 : i < ds.length := by omega
        obtain ⟨x', hx', dx⟩ := DqAll_get hx i ds[i] (List.getElem?_eq_getElem hi2)
        rw [hxi] at hx'
        cases hx'
        refine ⟨rfl, ?_⟩
        refine tyes ?_
        refine ⟨rfl, _, rfl, x, ds[i], rfl, dx.up (e1.trans e), hg _ (List.getElem_mem hi2), fun H4 e4 => ?_⟩
        exact kY _ H4 e4 ⟨by rw [hp, List.replicate_succ'], by omega⟩
      · rintro H4 ys e4 hy ⟨hp, _⟩
        refine ⟨D, List.replicate xs.length true, rfl, SqL.of (by rw [hy, hp, List.map_replicate]), ?_⟩
        rw [show (List.replicate xs.length true).all id = true by simp]
        exact q _ (e1.trans e4)
    · refine ⟨_, (pss_one (ps_ret (pe_and (pe_callB call_isiT (by rfl) T.n_isinstance (by decide +kernel) (pa_cons (pv 0) (pa_cons (pe_tup (pa_cons (pe_bltn (v := .ty "list") (by rfl) T.n_list (by decide +kernel) rfl) (pa_cons (pe_bltn (v := .ty "tuple") (by rfl) T.n_tuple (by decide +kernel) rfl) pa_nil))) pa_nil)))
        (pe_one (pe_callB (cr_all rfl) (by rfl) T.n_all (by decide +kernel) (pa_cons (pe_lc (own := [("part", 2)]) (g := gName 2) (tt := tYes) rfl sc_row.nd (pi_tup (pv 0)) (blkOk_by (N := ["thing", "is_part", "part"]) (sc := defScope s_row) (by decide +kernel)) (fun _ _ _ _ _ => pg_name (i := 2) sc_row.nd rfl (.inl rfl)) (fun _ _ _ _ _ => pts_nil)
          (fun _ _ _ _ _ => pe_callL (i := 1) FN (hr.mono (by omega)) rfl (by first | exact .inl rfl | exact .inr (.inl rfl) | exact .inr (.inr rfl)) kN bN .nil pass0 (pa_cons (pv 2) pa_nil))) pa_nil)))))), ?_⟩
      refine ⟨_, rfl, by show 2 ≤ sizeLine; decide, fun tp htp => ?_⟩
      have e1 := Ext.new (o := .tup [.ty "list", .ty "tuple"]) htp
      refine ⟨_, tp, _, _, _, true, rfl, upd_same, .cons (.ty _) (.cons (.ty _) .nil), .base (.tup (e1 _ _ ha)), kit_tt, _, rfl, ?_⟩
      refine iteT ?_
      have ha1 := e1 _ _ ha
      refine ⟨_, rfl, a, rfl, ⟨_, SqT.of ha1⟩, fun D hD => ?_⟩
      refine lc1_acc (walk_tup (xs := xs)) (fun i ys _ => ys = List.replicate i (V.bl true) ∧ i ≤ 60) (fun _ _ _ _ _ h => h) ⟨rfl, by decide⟩ hD (fun i ys _ h => by rw [h.1, List.length_replicate]; exact Nat.lt_of_le_of_lt h.2 (by decide)) (fun H' e => SqT.of (e _ _ ha1)) ?_ ?_
      · rintro i x Hi H' ys hi e hy ⟨rfl, hxi⟩ ⟨hp, _⟩ QY QN kY kN
        have hi2 : i < ds.length := by omega
        obtain ⟨x', hx', dx⟩ := DqAll_get hx i ds[i] (List.getElem?_eq_getElem hi2)
        rw [hxi] at hx'
        cases hx'
        refine ⟨rfl, ?_⟩
        refine tyes ?_
        refine ⟨rfl, _, rfl, x, ds[i], rfl, dx.up (e1.trans e), hg _ (List.getElem_mem hi2), fun H4 e4 => ?_⟩
        exact kY _ H4 e4 ⟨by rw [hp, List.replicate_succ'], by omega⟩
      · rintro H4 ys e4 hy ⟨hp, _⟩
        refine ⟨D, List.replicate xs.length true, rfl, SqL.of (by rw [hy, hp, List.map_replicate]), ?_⟩
        rw [show (List.replicate xs.length true).all id = true by simp]
        exact q _ (e1.trans e4)
/-! ### is_place, is_else -/
abbrev GA : PyData → Prop := fun d => ∃ a, GArm a ∧ d = armD a
abbrev GP : PyData → Prop := fun d => ∃ n p, GPlace n p ∧ d = placeD p
abbrev s_place : Stmt := (topS 29)
theorem sc_place : FnScope ["thing"] ["thing"] (defScope s_place) := ⟨rfl, rfl, rfl, by decide +kernel, rfl, by decide +kernel, by decide +kernel⟩
theorem place_inv {H : Hp} {v : V} {p : Place} (h : Dq H v (placeD p)) : ∃ a t xs, v = .ref a ∧ H a = some (.tup [.str p.1, .ref t]) ∧ H t = some (.tup xs) ∧ DqAll H xs (p.2.map armD) := by
  obtain ⟨a, xs, ds, rfl, e, h1, h2⟩ := dq_tup h rfl
  unfold placeD at e
  cases e
  cases h2 with
  | cons a1 t1 => cases t1 with
    | cons a2 t2 =>
      cases t2
      cases a1
      obtain ⟨t, ys, es, rfl, e2, h3, h4⟩ := dq_tup a2 rfl
      cases e2
      exact ⟨a, t, ys, rfl, h1, h3, h4⟩
theorem ok_place {f fA : Addr} {fd : FuncData} (F : Fun K "is_place" "is_place" s_place f fd) (T : BT mg) (gA : mg "is_arm" = some (.ref fA))
    (CM : Ca P w K mg base 1 "is_mode" ["thing"] (spGood fun d => d = .str "first" ∨ d = .str "any")) (CR : Ca P w K mg base 4 "is_row_of" ["thing", "is_part"] (spRow GA fA)) :
    FnOk P w K mg base CX0 5 f fd ["thing"] (spGood GP) := by
  refine F.ok sc_place (fun vs H Q E h => ?_) (fun cdv A outer s H vs Q E hr h => ?_)
  · obtain ⟨v, d, rfl, _⟩ := h
    rfl
  · obtain ⟨v, d, rfl, hd, ⟨n, p, hp, rfl⟩, q⟩ := h
    obtain ⟨a, t, xs, rfl, ha, ht, hx⟩ := place_inv hd
    refine ⟨_, (pss_cons (ps_if (PW.pt (pw_or (pt_not (pt_val (pe_callB call_isiT (by rfl) T.n_isinstance (by decide +kernel) (pa_cons (pv 0) (pa_cons (pe_tup (pa_cons (pe_bltn (v := .ty "list") (by rfl) T.n_list (by decide +kernel) rfl) (pa_cons (pe_bltn (v := .ty "tuple") (by rfl) T.n_tuple (by decide +kernel) rfl) pa_nil))) pa_nil))))) (pw_or1 (pt_cmpR op_ne (pe_callB call_len_seq (by rfl) T.n_len (by decide +kernel) (pa_cons (pv 0) pa_nil)) pe_int (nomark _))))) (pss_one (ps_ret pe_bl)) pss_nil)
      (pss_one (ps_ret (pe_and (pe_ca CM (hr.mono (by decide)) (by rfl) (pa_cons (pe_ix ix_tup (pv 0) pe_int (fun _ _ => rfl)) pa_nil)) (pe_one (pe_ca CR (hr.mono (by decide)) (by rfl) (pa_cons (pe_ix ix_tup (pv 0) pe_int (fun _ _ => rfl)) (pa_cons (pe_glob (v := .ref fA) rfl gA rfl) pa_nil)))))))), ?_⟩
    refine ⟨_, rfl, by show 2 ≤ sizeLine; decide, fun tp htp => ?_⟩
    have e1 := Ext.new (o := .tup [.ty "list", .ty "tuple"]) htp
    refine ⟨_, tp, _, _, _, true, rfl, upd_same, .cons (.ty _) (.cons (.ty _) .nil), .base (.tup (e1 _ _ ha)), kit_tt, _, rfl, ?_⟩
    refine iteF ?_
    refine ⟨_, rfl, a, _, rfl, .inr (SqT.of (e1 _ _ ha)), rfl, _, rfl, ?_⟩
    refine iteF ?_
    refine ⟨_, rfl, a, _, _, _, rfl, rfl, SqT.of (e1 _ _ ha), rfl, _, _, rfl, .str _, ?_, fun H2 e2 => ⟨_, rfl, ?_⟩⟩
    · rcases hp.mode with z | z
      · exact .inl (by rw [z])
      · exact .inr (by rw [z])
    refine iteT ?_
    have e12 := e1.trans e2
    refine ⟨_, rfl, a, _, _, _, rfl, rfl, SqT.of (e12 _ _ ha), rfl, t, xs, p.2.map armD, rfl, .inr (e12 _ _ ht), DqAll.up e12 hx, fun d hd => ?_, by rw [List.length_map]; have := hp.few; omega, fun H3 e3 => q _ (e12.trans e3)⟩
    obtain ⟨b, hb, rfl⟩ := List.mem_map.mp hd
    exact ⟨b, (hp.arms b hb).1, rfl⟩
def spElse : Sp := fun vs H Q _ => ∃ (v : V) (a : Arm), vs = [v] ∧ Dq H v (armD a) ∧ Q (.bl a.1.isNone) H
abbrev s_else : Stmt := (topS 30)
theorem sc_else : FnScope ["arm"] ["arm"] (defScope s_else) := ⟨rfl, rfl, rfl, by decide +kernel, rfl, by decide +kernel, by decide +kernel⟩
theorem ok_else {f : Addr} {fd : FuncData} (F : Fun K "is_else" "is_else" s_else f fd) (T : BT mg) :
    FnOk P w K mg base CX0 1 f fd ["arm"] spElse := by
  refine F.ok sc_else (fun vs H Q E h => ?_) (fun cdv A outer s H vs Q E hr h => ?_)
  · obtain ⟨v, a, rfl, _⟩ := h
    rfl
  · obtain ⟨v, a, rfl, hd, q⟩ := h
    refine ⟨_, (pss_one (ps_ret (pe_cmpR op_eq (pe_callB call_len_seq (by rfl) T.n_len (by decide +kernel) (pa_cons (pv 0) pa_nil)) pe_int (nomark _)))), ?_⟩
    obtain ⟨o, g⟩ := a
    cases o with
    | none =>
      obtain ⟨b, xs, ds, rfl, e, h1, h2⟩ := dq_tup (d := .tuple [.str "else", .int (g : Int)]) hd rfl
      cases e
      have l := h2.len
      refine ⟨_, rfl, b, _, rfl, .inr (SqT.of h1), rfl, ?_⟩
      rw [l]
      exact q
    | some p =>
      obtain ⟨b, xs, ds, rfl, e, h1, h2⟩ := dq_tup (d := .tuple [.str p.1, .str p.2, .int (g : Int)]) hd rfl
      cases e
      have l := h2.len
      refine ⟨_, rfl, b, _, rfl, .inr (SqT.of h1), rfl, ?_⟩
      rw [l]
      exact q
end
end K41

set_option Elab.async false
set_option linter.all false
set_option maxRecDepth 100000
set_option maxHeartbeats 4000000
namespace K41
open PySem PySem.Spec PyProof.Rows L2 Ol RZ
open TL (tl)
theorem arm_inv {H : Hp} {v : V} {a : Arm} (h : Dq H v (armD a)) : ∃ t xs, v = .ref t ∧ H t = some (.tup xs) ∧ atI xs (-1) = some (.int (a.2 : Int)) ∧ atI xs 0 = some (.str (match a.1 with | some p => p.1 | none => "else")) ∧ (∀ p, a.1 = some p → atI xs 1 = some (.str p.2)) := by
  obtain ⟨o, g⟩ := a
  cases o with
  | none =>
    obtain ⟨t, xs, ds, rfl, e, h1, h2⟩ := dq_tup (d := .tuple [.str "else", .int (g : Int)]) h rfl
    cases e
    cases h2 with
    | cons a1 t1 => cases t1 with
      | cons a2 t2 =>
        cases t2
        cases a1
        cases a2
        exact ⟨t, _, rfl, h1, rfl, rfl, fun p z => nomatch z⟩
  | some p =>
    obtain ⟨t, xs, ds, rfl, e, h1, h2⟩ := dq_tup (d := .tuple [.str p.1, .str p.2, .int (g : Int)]) h rfl
    cases e
    cases h2 with
    | cons a1 t1 => cases t1 with
      | cons a2 t2 => cases t2 with
        | cons a3 t3 =>
          cases t3
          cases a1
          cases a2
          cases a3
          exact ⟨t, _, rfl, h1, rfl, rfl, fun q z => by cases z; rfl⟩
section
variable {P : Program} {w : World} {K : PySem.W.Frag} {mg : Str → Option Value} {base : Heap} {C : Addr}
/-- what the text says of the class Program -/
structure PT (K : PySem.W.Frag) (mg : Str → Option Value) (C : Addr) : Prop where
  cl : Cls K C
  nP : NoAttr K C "_places"
  nU : NoAttr K C "_used"
  gC : mg "Program" = some (.ref C)
  n_enum : mg "enumerate" = none
abbrev cP (i : Nat) : Stmt := inClass (topS 31) i
/-- the places of a program -/
structure Pls (ps : List Place) : Prop where
  ne : ps ≠ []
  few : ps.length ≤ 6
  ok : ∀ p ∈ ps, GPlace ps.length p
def spCheck (C : Addr) : Sp := fun vs H Q _ => ∃ (p dx t : Addr) (fs : List (Str × V)) (xs : List V) (ps : List Place), vs = [.ref p] ∧ H p = some (.ins C dx fs) ∧ fs.lookup ("_places" : Str) = some (.ref t) ∧ fs.lookup ("_check" : Str) = none ∧ H t = some (.tup xs) ∧ DqAll H xs (ps.map placeD) ∧ Pls ps ∧ ∀ H', Ext H H' → Q .non H'
abbrev nChk : List Str := ["self", "_", "arms", "arm", "place"]
theorem sc_check : FnScope nChk ["self"] (defScope (cP 1)) := ⟨rfl, rfl, rfl, by decide +kernel, rfl, by decide +kernel, by decide +kernel⟩
theorem ok_check {f : Addr} {fd : FuncData} (F : Fun K "_check" "Program._check" (cP 1) f fd) (T : BT mg) (L : PT K mg C) (CE : Ca P w K mg base 1 "is_else" ["arm"] spElse) :
    FnOk P w K mg base CX0 2 f fd ["self"] (spCheck C) := by
  refine F.ok sc_check (fun vs H Q E h => ?_) (fun cdv A outer s H vs Q E hr h => ?_)
  · obtain ⟨p, dx, t, fs, xs, ps, rfl, _⟩ := h
    rfl
  · obtain ⟨p, dx, t, fs, xs, ps, rfl, hp, hl, _, ht, hx, ok, q⟩ := h
    refine ⟨_, (pss_cons (ps_for PassesOwn.never rfl (pi_tup (pe_fld (pv 0) rfl)) (pg_tup (by rfl) (pgs_cons (pg_name (i := 1) sc_check.nd rfl (.inl rfl)) (pgs_cons (pg_name (i := 2) sc_check.nd rfl (.inl rfl)) pgs_nil)))
        (pss_one (ps_for PassesOwn.never rfl (pi_tup (pv 2)) (pg_name (i := 3) sc_check.nd rfl (.inl rfl))
          (pss_one (ps_if (pt_cmpR op_ge (pe_ix ix_tup (pv 3) (pe_un un_neg pe_int) (fun _ _ => rfl)) (pe_callB call_len_seq (by rfl) T.n_len (by decide +kernel) (pa_cons (pe_fld (pv 0) rfl) pa_nil)) (nomark _)) (pss_one ps_never) pss_nil)))))
      (pss_one (ps_for PassesOwn.never rfl (pi_enumT (by rfl) L.n_enum (pa_cons (pe_fld (pv 0) rfl) pa_nil)) (pg_tup (by rfl) (pgs_cons (pg_name (i := 4) sc_check.nd rfl (.inl rfl)) (pgs_cons (pg_tup (by rfl) (pgs_cons (pg_name (i := 1) sc_check.nd rfl (.inl rfl)) (pgs_cons (pg_name (i := 2) sc_check.nd rfl (.inl rfl)) pgs_nil))) pgs_nil)))
        (pss_one (ps_if (pt_cmpR op_gt (pe_callB call_len_seq (by rfl) T.n_len (by decide +kernel) (pa_cons (pe_lc (own := [("arm", 3)]) (g := gName 3) rfl sc_check.nd (pi_tup (pv 2)) (blkOk_by (N := nChk) (sc := defScope (cP 1)) (by decide +kernel)) (fun _ _ _ _ _ => pg_name (i := 3) sc_check.nd rfl (.inl rfl)) (fun _ _ _ _ _ => pts_one (pt_val (pe_ca CE (hr.mono (by decide)) (by rfl) (pa_cons (pv 3) pa_nil)))) (fun _ _ _ _ _ => pv 3)) pa_nil)) pe_int (nomark _)) (pss_one ps_never) pss_nil))))), ?_⟩
    have lx : xs.length = ps.length := by rw [hx.len, List.length_map]
    refine ⟨_, rfl, p, C, dx, _, _, rfl, hp, L.cl, L.nP, hl, t, rfl, ⟨_, SqT.of ht⟩, ?_⟩
    refine for_tup (xs := xs) (fun i σ H' => ∃ s1 s2 s3, σ = [some (.ref p), s1, s2, s3, none] ∧ H' = H)
      ⟨none, none, none, rfl, rfl⟩ (fun i σ H' _ ⟨_, _, _, _, e⟩ => by rw [e]; exact SqT.of ht) ?_ ?_
    · rintro i x σ H1 hxi ⟨s1, s2, s3, rfl, rfl⟩
      have hi : i < ps.length := by have := (List.getElem?_eq_some_iff.mp hxi).1; omega
      obtain ⟨x', hx', dx'⟩ := DqAll_get hx i (placeD ps[i]) (by rw [List.getElem?_map, List.getElem?_eq_getElem hi]; rfl)
      rw [hxi] at hx'
      cases hx'
      obtain ⟨a, t2, ys, rfl, ha, ht2, hys⟩ := place_inv dx'
      have gp := ok.ok _ (List.getElem_mem hi)
      have ly : ys.length = ps[i].2.length := by rw [hys.len, List.length_map]
      refine ⟨a, _, rfl, SqT.of ha, rfl, _, _, rfl, _, _, rfl, rfl, ?_⟩
      refine ⟨_, rfl, t2, rfl, ⟨_, SqT.of ht2⟩, ?_⟩
      refine for_tup (xs := ys) (fun j σ H' => ∃ s3, σ = [some (.ref p), some (.str ps[i].1), some (.ref t2), s3, none] ∧ H' = H1)
        ⟨_, rfl, rfl⟩ (fun j σ H' _ ⟨_, _, e⟩ => by rw [e]; exact SqT.of ht2) ?_ ?_
      · rintro j y σ H2 hyj ⟨s3, rfl, rfl⟩
        have hj : j < ps[i].2.length := by have := (List.getElem?_eq_some_iff.mp hyj).1; omega
        obtain ⟨y', hy', dy'⟩ := DqAll_get hys j (armD ps[i].2[j]) (by rw [List.getElem?_map, List.getElem?_eq_getElem hj]; rfl)
        rw [hyj] at hy'
        cases hy'
        obtain ⟨t3, zs, rfl, h3, l3, _⟩ := arm_inv dy'
        have lt := (gp.arms _ (List.getElem_mem hj)).2
        refine ⟨_, rfl, _, rfl, t3, _, _, _, rfl, rfl, SqT.of h3, l3, _, rfl, p, C, dx, _, _, rfl, hp, L.cl, L.nP, hl, t, _, rfl, .inr (SqT.of ht), _, _, rfl, rfl, _, rfl, ?_⟩
        refine ite2 (fun g => ?_) (fun _ => ?_)
        · have := of_decide_eq_true g
          omega
        · exact ⟨_, rfl, rfl⟩
      · rintro σ H2 ⟨s3, rfl, rfl⟩
        exact ⟨_, _, _, rfl, rfl⟩
    · rintro σ H1 ⟨s1, s2, s3, rfl, rfl⟩
      refine ⟨_, rfl, p, C, dx, _, _, rfl, hp, L.cl, L.nP, hl, t, _, rfl, SqT.of ht, ?_⟩
      refine for_it (walk_enumT (xs := xs)) (fun i σ H' => ∃ s1 s2 s3 s4, σ = [some (.ref p), s1, s2, s3, s4] ∧ Ext H1 H')
        ⟨_, _, _, _, rfl, Ext.refl _⟩ (fun i σ H' _ ⟨_, _, _, _, _, e⟩ => SqT.of (e _ _ ht)) ?_ ?_
      · rintro i v σ H2 H3 hi ⟨s1, s2, s3, s4, rfl, e⟩ ⟨T', y1, y2, rfl, hT, rfl, g1, g2⟩
        have hi2 : i < ps.length := by omega
        obtain ⟨x', hx', dx'⟩ := DqAll_get hx i (placeD ps[i]) (by rw [List.getElem?_map, List.getElem?_eq_getElem hi2]; rfl)
        cases g1
        dsimp only at g2
        rw [hx'] at g2
        cases g2
        obtain ⟨a, t2, ys, rfl, ha, ht2, hys⟩ := place_inv dx'
        have gp := ok.ok _ (List.getElem_mem hi2)
        have ly : ys.length = ps[i].2.length := by rw [hys.len, List.length_map]
        have eT := Ext.new (o := .tup [.int (i : Int), .ref a]) hT
        have e2 := e.trans eT
        refine ⟨T', _, rfl, SqT.of upd_same, rfl, _, _, rfl, _, _, rfl, a, _, rfl, SqT.of (e2 _ _ ha), rfl, _, _, rfl, _, _, rfl, rfl, rfl, ?_⟩
        refine ⟨_, rfl, t2, rfl, ⟨_, SqT.of (e2 _ _ ht2)⟩, fun D hD => ?_⟩
        refine lc1_acc (walk_tup (xs := ys)) (fun k zs _ => zs.length = ((ps[i].2.take k).filter fun a => a.1.isNone).length) (fun _ _ _ _ _ h => h) rfl hD
          (fun k zs _ h => by rw [h]; exact Nat.lt_of_le_of_lt (Nat.le_trans (List.length_filter_le ..) (by rw [List.length_take]; have := gp.few; omega : _ ≤ 10)) (by decide)) (fun H' e' => SqT.of ((e2.trans e') _ _ ht2)) ?_ ?_
        · rintro k y Hi H' zs hk e' hy ⟨rfl, hyk⟩ hz QY QN kY kN
          have hk2 : k < ps[i].2.length := by omega
          obtain ⟨y', hy', dy'⟩ := DqAll_get hys k (armD ps[i].2[k]) (by rw [List.getElem?_map, List.getElem?_eq_getElem hk2]; rfl)
          rw [hyk] at hy'
          cases hy'
          refine ⟨rfl, _, rfl, y, ps[i].2[k], rfl, dy'.up (e2.trans e'), _, rfl, ?_⟩
          refine ite2 (fun g => ?_) (fun g => ?_)
          · refine ⟨_, rfl, kY _ _ (Ext.refl _) ?_⟩
            rw [List.take_add_one, List.getElem?_eq_getElem hk2, Option.toList_some, List.filter_append, List.length_append, List.length_append, hz, List.filter_cons_of_pos (p := fun a : Arm => a.1.isNone) (a := ps[i].2[k]) g]
            rfl
          · refine kN _ (Ext.refl _) ?_
            rw [List.take_add_one, List.getElem?_eq_getElem hk2, Option.toList_some, List.filter_append, List.length_append, hz, List.filter_cons_of_neg (p := fun a : Arm => a.1.isNone) (a := ps[i].2[k]) g]
            rfl
        · rintro H4 zs e4 h4 hz
          rw [ly, List.take_length] at hz
          refine ⟨D, _, rfl, .inl (SqL.of h4), _, _, rfl, rfl, _, rfl, ?_⟩
          refine ite2 (fun g => ?_) (fun _ => ?_)
          · have := of_decide_eq_true g
            have := gp.els
            omega
          · exact ⟨_, _, _, _, rfl, e2.trans e4⟩
      · rintro σ H2 ⟨s1, s2, s3, s4, rfl, e⟩
        exact q _ e
end
end K41

set_option Elab.async false
set_option linter.all false
set_option maxRecDepth 100000
set_option maxHeartbeats 4000000
namespace K41
open PySem PySem.Spec PyProof.Rows L2 Ol RZ
open TL (tl)
/-- the fields -/
def pf (t u : Addr) : List (Str × V) := [("_places", .ref t), ("_used", .ref u)]
theorem p_u : ¬ (("_places" : Str) = "_used") := by decide +kernel
theorem u_p : ¬ (("_used" : Str) = "_places") := by decide +kernel
theorem pf_p (t u : Addr) : (pf t u).lookup ("_places" : Str) = some (.ref t) := by
  unfold pf
  rw [List.lookup_cons_self]
theorem pf_u (t u : Addr) : (pf t u).lookup ("_used" : Str) = some (.ref u) := by
  unfold pf
  rw [List.lookup_cons, beq_eq_false_iff_ne.mpr u_p]
  dsimp only
  rw [List.lookup_cons_self]
theorem pf_no (t u : Addr) {m : Str} (h1 : ¬ m = "_places") (h2 : ¬ m = "_used") : (pf t u).lookup m = none := by
  unfold pf
  rw [List.lookup_cons, beq_eq_false_iff_ne.mpr h1]
  dsimp only
  rw [List.lookup_cons, beq_eq_false_iff_ne.mpr h2]
  rfl
theorem putp1 (t : Addr) : putF "_places" (.ref t) [] = ([("_places", V.ref t)] : List (Str × V)) := rfl
theorem putp2 (t u : Addr) : putF "_used" (.ref u) [("_places", V.ref t)] = pf t u := by
  show (if ("_places" : Str) = "_used" then _ else (("_places" : Str), V.ref t) :: putF "_used" (V.ref u) []) = _
  rw [if_neg p_u]
  rfl
/-- the lanes that stand in arms -/
def lanesA (as : List Arm) : List Str := as.filterMap fun a => a.1.map (·.2)
def lanesP (ps : List Place) : List Str := ps.flatMap fun p => lanesA p.2
theorem lanesA_snoc (as : List Arm) (a : Arm) : lanesA (as ++ [a]) = lanesA as ++ lanesA [a] := List.filterMap_append ..
theorem lanesP_snoc (ps : List Place) (p : Place) : lanesP (ps ++ [p]) = lanesP ps ++ lanesA p.2 := by
  unfold lanesP
  rw [List.flatMap_append]
  simp
/-- a Program of these places stands at p -/
def ProgAt (C : Addr) (H : Hp) (p : Addr) (ps : List Place) : Prop :=
  ∃ dx t u xs us, H p = some (.ins C dx (pf t u)) ∧ H t = some (.tup xs) ∧ DqAll H xs (ps.map placeD) ∧ H u = some (.tup (us.map V.str)) ∧ sortedS us = true ∧ us.Nodup ∧ us.length ≤ 40 ∧ (∀ x, x ∈ us ↔ x ∈ lanesP ps) ∧ Pls ps
theorem ProgAt.up {C : Addr} {H H' : Hp} {p : Addr} {ps : List Place} (e : Ext H H') : ProgAt C H p ps → ProgAt C H' p ps
  | ⟨dx, t, u, xs, us, h1, h2, h3, h4, r⟩ => ⟨dx, t, u, xs, us, e _ _ h1, e _ _ h2, DqAll.up e h3, e _ _ h4, r⟩
def kvT (ns : List Str) : List (Key × V) := ns.map fun x => (.inr x, .bl true)
theorem kvT_val {ns : List Str} {x : Str} : valV (kvT ns) (.inr x) = if x ∈ ns then some (.bl true) else none := by
  induction ns with
  | nil => rfl
  | cons y ns ih =>
    unfold kvT
    rw [List.map_cons]
    by_cases c : y = x
    · rw [valV_pos (by rw [c]), if_pos (by rw [c]; exact List.mem_cons_self)]
    · rw [valV_neg (fun z => c (Sum.inr.inj z))]
      have ih' : valV (ns.map fun x => (Sum.inr x, V.bl true)) (.inr x) = if x ∈ ns then some (.bl true) else none := ih
      rw [ih']
      by_cases m : x ∈ ns
      · rw [if_pos m, if_pos (List.mem_cons_of_mem _ m)]
      · rw [if_neg m, if_neg]
        intro z
        rcases List.mem_cons.mp z with z | z
        · exact c z.symm
        · exact m z
section
variable {P : Program} {w : World} {K : PySem.W.Frag} {mg : Str → Option Value} {base : Heap} {C : Addr}
abbrev rTupOf (K : PySem.W.Frag) : List V → Hp → VK → Prop := fun xs H Q => ∃ p ys, xs = [.ref p] ∧ ((SqL K H p ys ∧ ∀ l, H l = none → Q (.ref l) (upd H l (.tup ys))) ∨ (SqT K H p ys ∧ Q (.ref p) H))
theorem kvT_put {ns : List Str} {x : Str} (h : x ∈ ns) : putK (kvT ns) (.inr x) (.bl true) = kvT ns := by
  have some_ : (valV (kvT ns) (.inr x)).isSome = true := by rw [kvT_val, if_pos h]; rfl
  unfold putK
  rw [valV_any, some_, if_pos rfl]
  unfold kvT
  rw [List.map_map]
  refine List.map_congr_left fun y _ => ?_
  show (if Sum.inr y = (Sum.inr x : Key) then (Sum.inr y, V.bl true) else (Sum.inr y, V.bl true)) = _
  split <;> rfl
theorem kvT_new {ns : List Str} {x : Str} (h : x ∉ ns) : putK (kvT ns) (.inr x) (.bl true) = kvT (ns ++ [x]) := by
  rw [putK_new (by rw [kvT_val, if_neg h])]
  unfold kvT
  rw [List.map_append]
  rfl
def armsAt (ps : List Place) (i : Nat) : List Arm := (ps[i]?.map (·.2)).getD []
theorem one_field (t : Addr) {m : Str} (h : ¬ m = "_places") : ([("_places", V.ref t)] : List (Str × V)).lookup m = none := by
  rw [List.lookup_cons, beq_eq_false_iff_ne.mpr h]
  rfl
theorem dq_app {H : Hp} : ∀ {a b : List V} {da db : List PyData}, DqAll H a da → DqAll H b db → DqAll H (a ++ b) (da ++ db)
  | _, _, _, _, .nil, h => h
  | _, _, _, _, .cons x t, h => .cons x (dq_app t h)
structure ChM (P : Program) (w : World) (K : PySem.W.Frag) (mg : Str → Option Value) (base : Heap) (C : Addr) : Prop where
  has : ∃ (f : Addr) (fd : FuncData), FnOk P w K mg base CX0 2 f fd ["self"] (spCheck C) ∧ Meth K C "_check" f ∧ Binds K fd ["self"] []
def spProg (C : Addr) : Sp := fun vs H Q _ => ∃ (H0 : Hp) (p dx a : Addr) (xs : List V) (ps : List Place), vs = [.ref p, .ref a] ∧ H0 p = none ∧ Ext H0 H ∧ H p = some (.ins C dx []) ∧ H0 a = some (.lst xs) ∧ DqAll H0 xs (ps.map placeD) ∧ Pls ps ∧
  ∀ H', Ext H0 H' → ProgAt C H' p ps → Q .non H'
abbrev nInit : List Str := ["self", "places", "names", "_", "arms", "arm", "mode"]
theorem sc_prog : FnScope nInit ["self", "places"] (defScope (cP 0)) := ⟨rfl, rfl, rfl, by decide +kernel, rfl, by decide +kernel, by decide +kernel⟩
theorem ok_prog {f fP : Addr} {fd : FuncData} (F : Fun K "__init__" "Program.__init__" (cP 0) f fd) (T : BT mg) (L : PT K mg C) (gP : mg "is_place" = some (.ref fP))
    (CR : Ca P w K mg base 6 "is_row_of" ["thing", "is_part"] (spRow GP fP)) (CE : Ca P w K mg base 1 "is_else" ["arm"] spElse) (MC : ChM P w K mg base C) :
    FnOk P w K mg base CX0 7 f fd ["self", "places"] (spProg C) := by
  obtain ⟨fC, fdC, FC, mc, bC⟩ := MC.has
  refine F.ok sc_prog (fun vs H Q E h => ?_) (fun cdv A outer s H vs Q E hr h => ?_)
  · obtain ⟨H0, p, dx, a, xs, ps, rfl, _⟩ := h
    rfl
  · obtain ⟨H0, p, dx, a, xs, ps, rfl, hp0, e0, hp, ha, hx, ok, q⟩ := h
    refine ⟨_, (pss_cons (ps_if (PW.pt (pw_or (pt_not (pt_val (pe_ca CR (hr.mono (by decide)) (by rfl) (pa_cons (pv 1) (pa_cons (pe_glob (v := .ref fP) rfl gP rfl) pa_nil))))) (pw_or1 (pt_cmpR op_eq (pe_callB call_len_seq (by rfl) T.n_len (by decide +kernel) (pa_cons (pv 1) pa_nil)) pe_int (nomark _))))) (pss_one ps_never) pss_nil)
      (pss_cons (ps_fld (pv 0) (pe_callTy call_tuple_of (by rfl) T.n_tuple (by decide +kernel) (pa_cons (pe_lc (own := [("mode", 6), ("arms", 4)]) (g := gTup K 2 (gCons (gName 6) (gCons (gName 4) gNil))) (tt := tYes) rfl sc_prog.nd (pi_list (pv 1)) (blkOk_by (N := nInit) (sc := defScope (cP 0)) (by decide +kernel)) (fun _ _ _ _ _ => pg_tup (by rfl) (pgs_cons (pg_name (i := 6) sc_prog.nd rfl (.inl rfl)) (pgs_cons (pg_name (i := 4) sc_prog.nd rfl (.inl rfl)) pgs_nil))) (te := tTup (tCons (tVar 6) (tCons (tCB (rTupOf K) (tCons (tVar 4) tNil)) tNil))) (fun _ _ _ _ _ => pts_nil) (fun _ _ _ _ _ => pe_tup (pa_cons (pv 6) (pa_cons (pe_callTy (r := rTupOf K) (T := "tuple") call_tuple_of (by rfl) T.n_tuple (by decide +kernel) (pa_cons (pv 4) pa_nil)) pa_nil)))) pa_nil)) rfl)
      (pss_cons (ps_expr (pe_meth0 (pv 0) L.cl mc FC (hr.mono (by decide)) bC .nil pass0))
      (pss_cons (ps_setDc2 (i := 2) (own := [("_", 3), ("arms", 4), ("arm", 5)]) (vs1 := [5]) (g := gTup K 2 (gCons (gName 3) (gCons (gName 4) gNil))) (g1 := gName 5) (tt := tYes) (wi1 := iTup K (tVar 4)) rfl sc_prog.nd rfl rfl (sw_dict rfl rfl rfl (by decide +kernel)) (pi_tup (pe_fld (pv 0) rfl)) (blkOk_by (N := nInit) (sc := defScope (cP 0)) (by decide +kernel)) (by decide)
          (fun _ _ _ _ _ => pg_tup (by rfl) (pgs_cons (pg_name (i := 3) sc_prog.nd rfl (.inl rfl)) (pgs_cons (pg_name (i := 4) sc_prog.nd rfl (.inl rfl)) pgs_nil))) (fun _ _ _ _ _ => pts_nil) (fun _ _ _ _ _ => pi_tup (pv 4)) (fun _ _ _ _ _ => pg_name (i := 5) sc_prog.nd rfl (.inl rfl))
          (fun _ _ _ _ _ => pts_one (pt_not (pt_val (pe_ca CE (hr.mono (by decide)) (by rfl) (pa_cons (pv 5) pa_nil))))) (tk := tOp (rIxT K) (tVar 5) (tC (.int 1))) (fun _ _ _ _ _ => pe_ix ix_tup (pv 5) pe_int (fun _ _ => rfl)) (fun _ _ _ _ _ => pe_bl))
      (pss_one (ps_fld (pv 0) (pe_callTy call_tuple_of (by rfl) T.n_tuple (by decide +kernel) (pa_cons (pe_callB (call_sortedD rfl) (by rfl) T.n_sorted (by decide +kernel) (pa_cons (pv 2) pa_nil)) pa_nil)) rfl)))))), ?_⟩
    have lx : xs.length = ps.length := by rw [hx.len, List.length_map]
    have p0 : 0 < ps.length := List.length_pos_iff.mpr ok.ne
    have pf6 := ok.few
    refine ⟨_, rfl, a, xs, ps.map placeD, rfl, .inl (e0 _ _ ha), DqAll.up e0 hx, (fun d hd => by
      obtain ⟨b, hb, rfl⟩ := List.mem_map.mp hd
      exact ⟨_, b, ok.ok b hb, rfl⟩), by rw [List.length_map]; omega, fun H1 e1 => ⟨_, rfl, ?_⟩⟩
    refine iteF ?_
    have e01 := e0.trans e1
    have hp1 := e1 _ _ hp
    refine ⟨_, rfl, a, _, rfl, .inl (SqL.of (e01 _ _ ha)), rfl, _, rfl, ?_⟩
    refine ite2 (fun g => ?_) (fun _ => ?_)
    · have z := of_decide_eq_true g
      injection z with z
      omega
    -- the places
    refine ⟨_, rfl, a, rfl, ⟨_, SqL.of (e01 _ _ ha)⟩, fun D hD => ?_⟩
    refine lc1_acc (walk_list (xs := xs)) (fun i zs Hd => DqAll (del Hd p) zs ((ps.take i).map placeD)) (fun _ _ _ _ e h => DqAll.up (ext_del e) h) .nil hD
      (fun i zs _ h => by rw [h.len, List.length_map, List.length_take]; exact Nat.lt_of_le_of_lt (show _ ≤ 6 by omega) (by decide)) (fun H' e => SqL.of ((e01.trans e) _ _ ha)) ?_ ?_
    · rintro i x Hi H' zs hi e hy ⟨rfl, hxi⟩ hz QY QN kY kN
      have hi2 : i < ps.length := by omega
      obtain ⟨x', hx', dx'⟩ := DqAll_get hx i (placeD ps[i]) (by rw [List.getElem?_map, List.getElem?_eq_getElem hi2]; rfl)
      rw [hxi] at hx'
      cases hx'
      obtain ⟨b, t2, ys, rfl, hb, ht2, hys⟩ := place_inv dx'
      have e0i := e01.trans e
      refine ⟨b, _, rfl, SqT.of (e0i _ _ hb), rfl, _, _, rfl, _, _, rfl, rfl, rfl, ?_⟩
      refine tyes ?_
      refine ⟨_, rfl, _, rfl, t2, ys, rfl, .inr ⟨SqT.of (e0i _ _ ht2), by show 2 ≤ sizeLine; decide, fun t3 ht3 => ?_⟩⟩
      have e3 := Ext.new (o := .tup [.str ps[i].1, .ref t2]) ht3
      refine kY _ _ e3 ?_
      have n1 : t3 ≠ p := fun z => by rw [z, e _ _ hp1] at ht3; cases ht3
      have n2 : t3 ≠ D := fun z => by rw [z, hy] at ht3; cases ht3
      have hD0 : H0 D = none := e01.free hD
      have ex : Ext H0 (del (del (upd H' t3 (.tup [.str ps[i].1, .ref t2])) D) p) := ext_to (ext_to (e0i.trans e3) hD0) hp0
      rw [List.take_add_one, List.getElem?_eq_getElem hi2, Option.toList_some, List.map_append]
      have one : DqAll (del (del (upd H' t3 (.tup [.str ps[i].1, .ref t2])) D) p) [.ref t3] [placeD ps[i]] :=
        .cons (.tup (by rw [del_ne n1, del_ne n2]; exact upd_same) (.cons (.str _) (.cons (.tup (ex _ _ ht2) (DqAll.up ex hys)) .nil))) .nil
      exact dq_app (DqAll.up (ext_del (ext_del e3)) hz) one
    intro H2 zs e2 hD2 hz
    rw [lx, List.take_length] at hz
    have hp2 := e2 _ _ hp1
    refine ⟨D, _, rfl, .inl ⟨SqL.of hD2, fun t ht => ?_⟩⟩
    have et := Ext.new (o := .tup zs) ht
    have npt : p ≠ t := fun z => by rw [← z, hp2] at ht; cases ht
    refine ⟨_, rfl, p, C, dx, [], rfl, et _ _ hp2, L.cl, L.nP, (by show 0 < 1000; decide), ?_⟩
    rw [putp1]
    have e4 : Ext H0 (upd (upd H2 t (.tup zs)) p (.ins C dx [("_places", .ref t)])) := Ext.mut ((e01.trans e2).trans et) hp0
    have h4t : (upd (upd H2 t (.tup zs)) p (.ins C dx [("_places", .ref t)])) t = some (.tup zs) := by
      rw [upd_ne (Ne.symm npt)]
      exact upd_same
    have h4p : (upd (upd H2 t (.tup zs)) p (.ins C dx [("_places", .ref t)])) p = some (.ins C dx [("_places", .ref t)]) := upd_same
    have h4d : DqAll (del (upd (upd H2 t (.tup zs)) p (.ins C dx [("_places", .ref t)])) p) zs (ps.map placeD) := by
      rw [del_upd]
      exact DqAll.up (ext_del et) hz
    generalize upd (upd H2 t (.tup zs)) p (.ins C dx [("_places", .ref t)]) = H4 at *
    have h4z := DqAll.up del_ext h4d
    -- the check
    have lk : ([("_places", V.ref t)] : List (Str × V)).lookup ("_places" : Str) = some (.ref t) := List.lookup_cons_self
    have lc : ([("_places", V.ref t)] : List (Str × V)).lookup ("_check" : Str) = none := one_field t (by decide +kernel)
    refine ⟨_, rfl, p, dx, _, rfl, h4p, lc, p, dx, t, _, zs, ps, rfl, h4p, lk, lc, h4t, h4z, ok, fun H5 e5 => ?_⟩
    have h5p := e5 _ _ h4p
    have h5t := e5 _ _ h4t
    have h5z := DqAll.up e5 h4z
    have e05 := e4.trans e5
    have lz : zs.length = ps.length := by rw [h5z.len, List.length_map]
    -- the lanes in use
    refine ⟨_, rfl, p, C, dx, _, _, rfl, h5p, L.cl, L.nP, lk, t, rfl, ⟨_, SqT.of h5t⟩, fun D2 hD2 => ?_⟩
    refine dc2_acc (walk_tup (xs := zs)) (fun i j kvs _ => ∃ ns : List Str, kvs = kvT ns ∧ ns.Nodup ∧ (∀ x, x ∈ ns ↔ x ∈ lanesP (ps.take i) ++ lanesA ((armsAt ps i).take j)) ∧ ns.length ≤ 5 * i + j ∧ i ≤ 6 ∧ j ≤ 5) (fun _ _ _ _ _ _ h => h)
      ⟨[], rfl, List.nodup_nil, (fun x => by simp [lanesP, lanesA]), by decide, by decide, by decide⟩ hD2
      (fun i j kvs _ ⟨ns, e, _, _, h1, h2, h3⟩ => by rw [e]; unfold kvT; rw [List.length_map]; exact Nat.lt_of_le_of_lt (show _ ≤ 35 by omega) (by decide)) (fun H' e => SqT.of (e _ _ h5t)) ?_ ?_
    · rintro i x Hi H' kvs hi e hy ⟨rfl, hxi⟩ hP R hR
      have hi2 : i < ps.length := by omega
      obtain ⟨x', hx', dx'⟩ := DqAll_get h5z i (placeD ps[i]) (by rw [List.getElem?_map, List.getElem?_eq_getElem hi2]; rfl)
      rw [hxi] at hx'
      cases hx'
      obtain ⟨b, t2, ys, rfl, hb, ht2, hys⟩ := place_inv dx'
      have gp := ok.ok _ (List.getElem_mem hi2)
      have ly : ys.length = ps[i].2.length := by rw [hys.len, List.length_map]
      have ea : armsAt ps i = ps[i].2 := by
        unfold armsAt
        rw [List.getElem?_eq_getElem hi2]
        rfl
      refine ⟨b, _, rfl, SqT.of (e _ _ hb), rfl, _, _, rfl, _, _, rfl, rfl, rfl, ?_⟩
      refine ⟨_, rfl, t2, rfl, ⟨_, SqT.of (e _ _ ht2)⟩, hR _ _ _ ⟨Ext.refl _, ys.length, _, _, walk_tup (xs := ys), fun Hz ez => SqT.of (ez _ _ (ext_to e hD2 _ _ ht2)), ?_, ?_⟩⟩
      · rintro kvs Hz ⟨ns, h1, h2, h3, h4, h5, h6⟩
        refine ⟨ns, h1, h2, fun z => ?_, by omega, by omega, by omega⟩
        rw [h3 z, ea, ly, List.take_length, List.take_add_one, List.getElem?_eq_getElem hi2, Option.toList_some, lanesP_snoc, List.take_zero]
        simp [lanesA]
      · rintro j y Ha Hb kvs hj eH ha2 ⟨rfl, hyj⟩ ⟨ns, rfl, h2, h3, h4, h5, h6⟩ QY QN kY kN
        have hj2 : j < ps[i].2.length := by omega
        obtain ⟨y', hy', dy'⟩ := DqAll_get hys j (armD ps[i].2[j]) (by rw [List.getElem?_map, List.getElem?_eq_getElem hj2]; rfl)
        rw [hyj] at hy'
        cases hy'
        have dy := dy'.up ((ext_to e hD2).trans eH)
        obtain ⟨t4, ws, et4, h7, _, _, h8⟩ := arm_inv dy
        have few := gp.few
        have tk : (armsAt ps i).take (j + 1) = (armsAt ps i).take j ++ [ps[i].2[j]] := by
          rw [ea, List.take_add_one, List.getElem?_eq_getElem hj2]
          rfl
        refine ⟨rfl, _, rfl, y, ps[i].2[j], rfl, dy, _, rfl, ?_⟩
        cases ho : ps[i].2[j].1 with
        | none =>
          refine iteF ?_
          refine kN _ (Ext.refl _) ⟨ns, rfl, h2, fun z => ?_, by omega, h5, by omega⟩
          have l0 : lanesA [ps[i].2[j]] = [] := by simp [lanesA, ho]
          rw [h3 z, tk, lanesA_snoc, l0, List.append_nil]
        | some pr =>
          refine iteT ?_
          refine ⟨_, rfl, t4, ws, 1, .str pr.2, et4, rfl, SqT.of h7, h8 pr ho, ?_⟩
          have l1 : lanesA [ps[i].2[j]] = [pr.2] := by simp [lanesA, ho]
          by_cases m : pr.2 ∈ ns
          · refine kY (.inr pr.2) (.bl true) _ (Ext.refl _) ⟨ns, kvT_put m, h2, fun z => ?_, by omega, h5, by omega⟩
            rw [tk, lanesA_snoc, l1]
            constructor
            · intro hz
              have := (h3 z).mp hz
              simp only [List.mem_append] at this ⊢
              rcases this with h | h
              · exact .inl h
              · exact .inr (.inl h)
            · intro hz
              simp only [List.mem_append, List.mem_singleton] at hz
              rcases hz with h | h | h
              · exact (h3 z).mpr (List.mem_append_left _ h)
              · exact (h3 z).mpr (List.mem_append_right _ h)
              · rw [h]; exact m
          · refine kY (.inr pr.2) (.bl true) _ (Ext.refl _) ⟨ns ++ [pr.2], kvT_new m, ?_, fun z => ?_, by rw [List.length_append, List.length_singleton]; omega, h5, by omega⟩
            · refine List.nodup_append.mpr ⟨h2, by simp, fun c hc d hd e => ?_⟩
              rw [List.mem_singleton.mp hd] at e
              exact m (e ▸ hc)
            · rw [tk, lanesA_snoc, l1]
              simp only [List.mem_append, List.mem_singleton]
              rw [h3 z]
              simp only [List.mem_append]
              constructor
              · rintro ((h | h) | h)
                · exact .inl h
                · exact .inr (.inl h)
                · exact .inr (.inr h)
              · rintro (h | h | h)
                · exact .inl (.inl h)
                · exact .inl (.inr h)
                · exact .inr h
    rintro H6 kvs e6 hD6 ⟨ns, rfl, h2, h3, h4, _, _⟩
    rw [lz, List.take_length] at h3
    have h3' : ∀ x, x ∈ ns ↔ x ∈ lanesP ps := fun x => by rw [h3 x]; simp [lanesA]
    rw [lz] at h4
    have kk : (kvT ns).map (·.1) = ns.map Sum.inr := by
      unfold kvT
      rw [List.map_map]
      rfl
    refine ⟨_, rfl, D2, _, ns, rfl, Rd.of hD6, kk, by omega, fun us l hperm hso hl => ?_⟩
    have e7 := Ext.new (o := .lst (us.map V.str)) hl
    refine ⟨l, _, rfl, .inl ⟨SqL.of upd_same, fun u hu => ?_⟩⟩
    have e8 := Ext.new (o := .tup (us.map V.str)) hu
    have k8 := upd_same (H := upd H6 l (.lst (us.map V.str))) (a := u) (o := HO.tup (us.map V.str))
    have e58 := (e6.trans e7).trans e8
    generalize upd (upd H6 l (.lst (us.map V.str))) u (.tup (us.map V.str)) = H8 at *
    refine ⟨_, rfl, p, C, dx, _, rfl, e58 _ _ h5p, L.cl, L.nU, (by show 1 < 1000; decide), ?_⟩
    rw [putp2]
    have npu : p ≠ u := fun z => by
      have := e58 _ _ h5p
      rw [z, k8] at this
      cases this
    refine q _ (Ext.mut (e05.trans e58) hp0) ⟨dx, t, u, zs, us, upd_same, ?_, ?_, ?_, hso, hperm.nodup_iff.mpr h2, by rw [hperm.length_eq]; omega, fun x => by rw [hperm.mem_iff, h3' x], ok⟩
    · rw [upd_ne (Ne.symm npt)]
      exact e58 _ _ h5t
    · have z1 := DqAll.up (ext_del (D := p) (e5.trans e58)) h4d
      rw [← del_upd (o := .ins C dx (pf t u))] at z1
      exact DqAll.up del_ext z1
    · rw [upd_ne (Ne.symm npu)]
      exact k8
end
end K41

set_option Elab.async false
set_option linter.all false
set_option maxRecDepth 100000
set_option maxHeartbeats 4000000
namespace K41
open PySem PySem.Spec PyProof.Rows L2 Ol RZ
open TL (tl)
section
variable {P : Program} {w : World} {K : PySem.W.Frag} {mg : Str → Option Value} {base : Heap} {C : Addr}
/-! ### what a Program tells -/
def spPl (C : Addr) : Sp := fun vs H Q _ => ∃ (p : Addr) (ps : List Place) (i : Nat) (hi : i < ps.length), vs = [.ref p, .int (i : Int)] ∧ ProgAt C H p ps ∧ ∀ (r : V) (H' : Hp), Ext H H' → Dq H' r (placeD ps[i]) → Q r H'
theorem sc_pl : FnScope ["self", "place"] ["self", "place"] (defScope (cP 4)) := ⟨rfl, rfl, rfl, by decide +kernel, rfl, by decide +kernel, by decide +kernel⟩
theorem ok_pl {f : Addr} {fd : FuncData} (F : Fun K "_place" "Program._place" (cP 4) f fd) (T : BT mg) (L : PT K mg C) (C2 : Ca P w K mg base 2 "is_number" ["thing"] (spPred Any isNumD)) :
    FnOk P w K mg base CX0 3 f fd ["self", "place"] (spPl C) := by
  refine F.ok sc_pl (fun vs H Q E h => ?_) (fun cdv A outer s H vs Q E hr h => ?_)
  · obtain ⟨p, ps, i, hi, rfl, _⟩ := h
    rfl
  · obtain ⟨p, ps, i, hi, rfl, hP, q⟩ := h
    refine ⟨_, (pss_cons (ps_if (PW.pt (pw_or (pt_not (pt_val (pe_ca C2 (hr.mono (by decide)) (by rfl) (pa_cons (pv 1) pa_nil)))) (pw_or1 (pt_cmpR op_ge (pv 1) (pe_callB call_len_seq (by rfl) T.n_len (by decide +kernel) (pa_cons (pe_fld (pv 0) rfl) pa_nil)) (nomark _))))) (pss_one ps_never) pss_nil)
      (pss_one (ps_ret (pe_ix ix_tup (pe_fld (pv 0) rfl) (pv 1) (fun _ _ => rfl))))), ?_⟩
    have nn : isNumD (.int (i : Int)) = true := by
      have : (0 : Int) ≤ (i : Int) := by omega
      simp [isNumD, this]
    refine ⟨_, rfl, _, _, rfl, .int _, trivial, fun H1 e1 => ⟨_, rfl, ?_⟩⟩
    rw [nn]
    refine iteF ?_
    obtain ⟨dx, t, u, xs, us, h1, h2, h3, _⟩ := hP.up e1
    have lx : xs.length = ps.length := by rw [h3.len, List.length_map]
    obtain ⟨v, hv, dv⟩ := DqAll_get h3 i (placeD ps[i]) (by rw [List.getElem?_map, List.getElem?_eq_getElem hi]; rfl)
    refine ⟨_, rfl, _, rfl, p, C, dx, _, _, rfl, h1, L.cl, L.nP, pf_p _ _, t, _, rfl, .inr (SqT.of h2), _, _, rfl, rfl, _, rfl, ?_⟩
    refine ite2 (fun g => ?_) (fun _ => ?_)
    · have := of_decide_eq_true g
      omega
    · exact ⟨_, rfl, p, C, dx, _, _, rfl, h1, L.cl, L.nP, pf_p _ _, _, rfl, t, _, _, _, rfl, rfl, SqT.of h2, atI_nat hv, q _ _ e1 dv⟩
def spMode (C : Addr) : Sp := fun vs H Q _ => ∃ (p : Addr) (ps : List Place) (i : Nat) (hi : i < ps.length), vs = [.ref p, .int (i : Int)] ∧ ProgAt C H p ps ∧ ∀ (H' : Hp), Ext H H' → Q (.str ps[i].1) H'
theorem sc_md : FnScope ["self", "place"] ["self", "place"] (defScope (cP 8)) := ⟨rfl, rfl, rfl, by decide +kernel, rfl, by decide +kernel, by decide +kernel⟩
theorem ok_md {f : Addr} {fd : FuncData} (F : Fun K "mode" "Program.mode" (cP 8) f fd) (L : PT K mg C) (MP : Cm P w K mg base C 3 "_place" ["self", "place"] (spPl C)) :
    FnOk P w K mg base CX0 4 f fd ["self", "place"] (spMode C) := by
  refine F.ok sc_md (fun vs H Q E h => ?_) (fun cdv A outer s H vs Q E hr h => ?_)
  · obtain ⟨p, ps, i, hi, rfl, _⟩ := h
    rfl
  · obtain ⟨p, ps, i, hi, rfl, hP, q⟩ := h
    refine ⟨_, (pss_one (ps_ret (pe_ix ix_tup (pe_cm MP L.cl (hr.mono (by decide)) (pv 0) (pa_cons (pv 1) pa_nil)) pe_int (fun _ _ => rfl)))), ?_⟩
    obtain ⟨dx, t, u, xs, us, h1, _⟩ := id hP
    refine ⟨_, rfl, p, dx, _, rfl, h1, pf_no _ _ (by decide +kernel) (by decide +kernel), _, rfl, p, ps, i, hi, rfl, hP, fun r H1 e1 hr1 => ?_⟩
    obtain ⟨a, t2, ys, rfl, ha, _⟩ := place_inv hr1
    exact ⟨a, _, _, _, rfl, rfl, SqT.of ha, rfl, q _ e1⟩
def spArms (C : Addr) : Sp := fun vs H Q _ => ∃ (p : Addr) (ps : List Place) (i : Nat) (hi : i < ps.length), vs = [.ref p, .int (i : Int)] ∧ ProgAt C H p ps ∧
  ∀ (l : Addr) (ys : List V) (H' : Hp), H l = none → Ext H H' → H' l = some (.lst ys) → DqAll H' ys (ps[i].2.map armD) → Q (.ref l) H'
theorem sc_as : FnScope ["self", "place"] ["self", "place"] (defScope (cP 9)) := ⟨rfl, rfl, rfl, by decide +kernel, rfl, by decide +kernel, by decide +kernel⟩
theorem ok_as {f : Addr} {fd : FuncData} (F : Fun K "arms" "Program.arms" (cP 9) f fd) (T : BT mg) (L : PT K mg C) (MP : Cm P w K mg base C 3 "_place" ["self", "place"] (spPl C)) :
    FnOk P w K mg base CX0 4 f fd ["self", "place"] (spArms C) := by
  refine F.ok sc_as (fun vs H Q E h => ?_) (fun cdv A outer s H vs Q E hr h => ?_)
  · obtain ⟨p, ps, i, hi, rfl, _⟩ := h
    rfl
  · obtain ⟨p, ps, i, hi, rfl, hP, q⟩ := h
    refine ⟨_, (pss_one (ps_ret (pe_callTy call_list_of (by rfl) T.n_list (by decide +kernel) (pa_cons (pe_ix ix_tup (pe_cm MP L.cl (hr.mono (by decide)) (pv 0) (pa_cons (pv 1) pa_nil)) pe_int (fun _ _ => rfl)) pa_nil)))), ?_⟩
    obtain ⟨dx, t, u, xs, us, h1, _⟩ := id hP
    refine ⟨_, rfl, p, dx, _, rfl, h1, pf_no _ _ (by decide +kernel) (by decide +kernel), _, rfl, p, ps, i, hi, rfl, hP, fun r H1 e1 hr1 => ?_⟩
    obtain ⟨a, t2, ys, rfl, ha, ht2, hys⟩ := place_inv hr1
    refine ⟨a, _, _, _, rfl, rfl, SqT.of ha, rfl, t2, ys, rfl, .inr (SqT.of ht2), fun l hl => ?_⟩
    have e2 := Ext.new (o := .lst ys) hl
    exact q l ys _ (e1.free hl) (e1.trans e2) upd_same (DqAll.up e2 hys)
/-- the arm of this index -/
def spArmAt (C : Addr) : Sp := fun vs H Q _ => ∃ (p : Addr) (ps : List Place) (i : Nat) (hi : i < ps.length) (j : Nat) (hj : j < ps[i].2.length), vs = [.ref p, .int (i : Int), .int (j : Int)] ∧ ProgAt C H p ps ∧
  ∀ (r : V) (H' : Hp), Ext H H' → Dq H' r (armD ps[i].2[j]) → Q r H'
def spPlArm (C : Addr) : Sp := fun vs H Q _ => ∃ (p : Addr) (ps : List Place) (i : Nat) (hi : i < ps.length) (j : Nat) (hj : j < ps[i].2.length), vs = [.ref p, .int (i : Int), .int (j : Int)] ∧ ProgAt C H p ps ∧
  ∀ (r : V) (H' : Hp), Ext H H' → Dq H' r (placeD ps[i]) → Q r H'
theorem sc_pla : FnScope ["self", "place", "index", "mode", "arms"] ["self", "place", "index"] (defScope (cP 5)) := ⟨rfl, rfl, rfl, by decide +kernel, rfl, by decide +kernel, by decide +kernel⟩
theorem ok_pla {f : Addr} {fd : FuncData} (F : Fun K "_place_with_arm" "Program._place_with_arm" (cP 5) f fd) (T : BT mg) (L : PT K mg C) (C2 : Ca P w K mg base 2 "is_number" ["thing"] (spPred Any isNumD)) (MP : Cm P w K mg base C 3 "_place" ["self", "place"] (spPl C)) :
    FnOk P w K mg base CX0 4 f fd ["self", "place", "index"] (spPlArm C) := by
  refine F.ok sc_pla (fun vs H Q E h => ?_) (fun cdv A outer s H vs Q E hr h => ?_)
  · obtain ⟨p, ps, i, hi, j, hj, rfl, _⟩ := h
    rfl
  · obtain ⟨p, ps, i, hi, j, hj, rfl, hP, q⟩ := h
    refine ⟨_, (pss_cons (ps_asg (pe_cm MP L.cl (hr.mono (by decide)) (pv 0) (pa_cons (pv 1) pa_nil)) (pg_tup (by rfl) (pgs_cons (pg_name (i := 3) sc_pla.nd rfl (.inl rfl)) (pgs_cons (pg_name (i := 4) sc_pla.nd rfl (.inl rfl)) pgs_nil))))
      (pss_cons (ps_if (PW.pt (pw_or (pt_not (pt_val (pe_ca C2 (hr.mono (by decide)) (by rfl) (pa_cons (pv 2) pa_nil)))) (pw_or1 (pt_cmpR op_ge (pv 2) (pe_callB call_len_seq (by rfl) T.n_len (by decide +kernel) (pa_cons (pv 4) pa_nil)) (nomark _))))) (pss_one ps_never) pss_nil)
      (pss_one (ps_ret (pe_tup (pa_cons (pv 3) (pa_cons (pv 4) pa_nil))))))), ?_⟩
    obtain ⟨dx, t, u, xs, us, h1, _⟩ := id hP
    refine ⟨_, rfl, p, dx, _, rfl, h1, pf_no _ _ (by decide +kernel) (by decide +kernel), _, rfl, p, ps, i, hi, rfl, hP, fun r H1 e1 hr1 => ?_⟩
    obtain ⟨a, t2, ys, rfl, ha, ht2, hys⟩ := place_inv hr1
    have ly : ys.length = ps[i].2.length := by rw [hys.len, List.length_map]
    have nn : isNumD (.int (j : Int)) = true := by
      have : (0 : Int) ≤ (j : Int) := by omega
      simp [isNumD, this]
    refine ⟨a, _, rfl, SqT.of ha, rfl, _, _, rfl, _, _, rfl, rfl, ?_⟩
    refine ⟨_, rfl, _, _, rfl, .int _, trivial, fun H2 e2 => ⟨_, rfl, ?_⟩⟩
    rw [nn]
    refine iteF ?_
    refine ⟨_, rfl, _, rfl, t2, _, rfl, .inr (SqT.of (e2 _ _ ht2)), _, _, rfl, rfl, _, rfl, ?_⟩
    refine ite2 (fun g => ?_) (fun _ => ?_)
    · have := of_decide_eq_true g
      omega
    · refine ⟨_, rfl, _, rfl, by show 2 ≤ sizeLine; decide, fun t3 ht3 => ?_⟩
      have e3 := Ext.new (o := .tup [.str ps[i].1, .ref t2]) ht3
      exact q _ _ ((e1.trans e2).trans e3) (.tup upd_same (.cons (.str _) (.cons (.tup ((e2.trans e3) _ _ ht2) (DqAll.up (e2.trans e3) hys)) .nil)))
theorem sc_arm : FnScope ["self", "place", "index"] ["self", "place", "index"] (defScope (cP 10)) := ⟨rfl, rfl, rfl, by decide +kernel, rfl, by decide +kernel, by decide +kernel⟩
theorem ok_arm {f : Addr} {fd : FuncData} (F : Fun K "arm" "Program.arm" (cP 10) f fd) (L : PT K mg C) (MA : Cm P w K mg base C 4 "_place_with_arm" ["self", "place", "index"] (spPlArm C)) :
    FnOk P w K mg base CX0 5 f fd ["self", "place", "index"] (spArmAt C) := by
  refine F.ok sc_arm (fun vs H Q E h => ?_) (fun cdv A outer s H vs Q E hr h => ?_)
  · obtain ⟨p, ps, i, hi, j, hj, rfl, _⟩ := h
    rfl
  · obtain ⟨p, ps, i, hi, j, hj, rfl, hP, q⟩ := h
    refine ⟨_, (pss_one (ps_ret (pe_ix ix_tup (pe_ix ix_tup (pe_cm MA L.cl (hr.mono (by decide)) (pv 0) (pa_cons (pv 1) (pa_cons (pv 2) pa_nil))) pe_int (fun _ _ => rfl)) (pv 2) (fun _ _ => rfl)))), ?_⟩
    obtain ⟨dx, t, u, xs, us, h1, _⟩ := id hP
    refine ⟨_, rfl, p, dx, _, rfl, h1, pf_no _ _ (by decide +kernel) (by decide +kernel), _, rfl, _, rfl, p, ps, i, hi, j, hj, rfl, hP, fun r H1 e1 hr1 => ?_⟩
    obtain ⟨a, t2, ys, rfl, ha, ht2, hys⟩ := place_inv hr1
    obtain ⟨v, hv, dv⟩ := DqAll_get hys j (armD ps[i].2[j]) (by rw [List.getElem?_map, List.getElem?_eq_getElem hj]; rfl)
    exact ⟨a, _, _, _, rfl, rfl, SqT.of ha, rfl, _, rfl, t2, _, _, _, rfl, rfl, SqT.of ht2, atI_nat hv, q _ _ e1 dv⟩
def spUsed (C : Addr) : Sp := fun vs H Q _ => ∃ (p : Addr) (ps : List Place), vs = [.ref p] ∧ ProgAt C H p ps ∧
  ∀ (l : Addr) (us : List Str) (H' : Hp), H l = none → Ext H H' → H' l = some (.lst (us.map V.str)) → sortedS us = true → us.Nodup → us.length ≤ 40 → (∀ x, x ∈ us ↔ x ∈ lanesP ps) → Q (.ref l) H'
theorem sc_used : FnScope ["self"] ["self"] (defScope (cP 11)) := ⟨rfl, rfl, rfl, by decide +kernel, rfl, by decide +kernel, by decide +kernel⟩
theorem ok_used {f : Addr} {fd : FuncData} (F : Fun K "used" "Program.used" (cP 11) f fd) (T : BT mg) (L : PT K mg C) :
    FnOk P w K mg base CX0 1 f fd ["self"] (spUsed C) := by
  refine F.ok sc_used (fun vs H Q E h => ?_) (fun cdv A outer s H vs Q E hr h => ?_)
  · obtain ⟨p, ps, rfl, _⟩ := h
    rfl
  · obtain ⟨p, ps, rfl, hP, q⟩ := h
    refine ⟨_, (pss_one (ps_ret (pe_callTy call_list_of (by rfl) T.n_list (by decide +kernel) (pa_cons (pe_fld (pv 0) rfl) pa_nil)))), ?_⟩
    obtain ⟨dx, t, u, xs, us, h1, h2, h3, h4, h5, h6, h7, h8, _⟩ := hP
    refine ⟨_, rfl, p, C, dx, _, _, rfl, h1, L.cl, L.nU, pf_u _ _, u, _, rfl, .inr (SqT.of h4), fun l hl => ?_⟩
    exact q l us _ hl (Ext.new hl) upd_same h5 h6 h7 h8
end
end K41

set_option Elab.async false
set_option linter.all false
set_option maxRecDepth 100000
set_option maxHeartbeats 4000000
namespace K41
open PySem PySem.Spec PyProof.Rows L2 Ol RZ
open TL (tl)
section
variable {P : Program} {w : World} {K : PySem.W.Frag} {mg : Str → Option Value} {base : Heap} {C CP : Addr}
theorem len_sub : ∀ (us ns : List Str), us.Nodup → (∀ x ∈ us, x ∈ ns) → us.length ≤ ns.length
  | [], _, _, _ => Nat.zero_le _
  | u :: us, ns, hd, hs => by
    rw [List.nodup_cons] at hd
    have m : u ∈ ns := hs u List.mem_cons_self
    have ih := len_sub us (ns.erase u) hd.2 fun x hx => (List.mem_erase_of_ne (fun z => hd.1 (by rw [← z]; exact hx))).mpr (hs x (List.mem_cons_of_mem _ hx))
    rw [List.length_erase_of_mem m] at ih
    have := List.length_pos_of_mem m
    rw [List.length_cons]
    omega
/-- the method used -/
structure UsM (P : Program) (w : World) (K : PySem.W.Frag) (mg : Str → Option Value) (base : Heap) (C : Addr) : Prop where
  has : ∃ (f : Addr) (fd : FuncData), FnOk P w K mg base CX0 1 f fd ["self"] (spUsed C) ∧ Meth K C "used" f ∧ Binds K fd ["self"] []
def spCkL (C CP : Addr) : Sp := fun vs H Q _ => ∃ (lx l : Addr) (ns : List Str) (bs : List Int) (pp : List Addr), vs = [.ref lx, .ref l] ∧ LanesAt C H lx ns bs ∧ H l = some (.lst (pp.map V.ref)) ∧ pp.length ≤ 4 ∧ (∀ p ∈ pp, ∃ ps, ProgAt CP H p ps ∧ ∀ x ∈ lanesP ps, x ∈ ns) ∧ ∀ H', Ext H H' → Q .non H'
abbrev s_ckl : Stmt := (topS 33)
abbrev nCkl : List Str := ["lanes", "programs", "names", "program", "name"]
theorem sc_ckl : FnScope nCkl ["lanes", "programs"] (defScope s_ckl) := ⟨rfl, rfl, rfl, by decide +kernel, rfl, by decide +kernel, by decide +kernel⟩
theorem ok_ckl {f : Addr} {fd : FuncData} (F : Fun K "check_lanes" "check_lanes" s_ckl f fd) (T : BT mg) (LP : PT K mg CP) (MU : UsM P w K mg base CP)
    (MH : Cm P w K mg base C 2 "__contains__" ["self", "thing"] (spHas C)) :
    FnOk P w K mg base CX0 3 f fd ["lanes", "programs"] (spCkL C CP) := by
  obtain ⟨fU, fdU, FU, mu, bU⟩ := MU.has
  refine F.ok sc_ckl (fun vs H Q E h => ?_) (fun cdv A outer s H vs Q E hr h => ?_)
  · obtain ⟨lx, l, ns, bs, pp, rfl, _⟩ := h
    rfl
  · obtain ⟨lx, l, ns, bs, pp, rfl, hL, hl, h4p, hP, q⟩ := h
    have mlp : (pp.map V.ref).length = pp.length := List.length_map ..
    refine ⟨_, (pss_cons (ps_setDc2 (i := 2) (own := [("program", 3), ("name", 4)]) (vs1 := [4]) (g := gName 3) (g1 := gName 4) (tt := tYes) (tt1 := tYes) (wi1 := iList K (tMeth CP "used" (spUsed CP) [] E0 (tVar 3) tNil)) rfl sc_ckl.nd rfl rfl (sw_dict rfl rfl rfl (by decide +kernel)) (pi_list (pv 1)) (blkOk_by (N := nCkl) (sc := defScope s_ckl) (by decide +kernel)) (by decide)
          (fun _ _ _ _ _ => pg_name (i := 3) sc_ckl.nd rfl (.inl rfl)) (fun _ _ _ _ _ => pts_nil) (fun _ _ _ _ _ => pi_list (pe_meth0 (pv 3) LP.cl mu FU (hr.mono (by decide)) bU .nil pass0)) (fun _ _ _ _ _ => pg_name (i := 4) sc_ckl.nd rfl (.inl rfl)) (fun _ _ _ _ _ => pts_nil) (fun _ _ _ _ _ => pv 4) (fun _ _ _ _ _ => pe_bl))
      (pss_one (ps_for PassesOwn.never rfl (pi_list (pe_callB (call_sortedD rfl) (by rfl) T.n_sorted (by decide +kernel) (pa_cons (pv 2) pa_nil))) (pg_name (i := 4) sc_ckl.nd rfl (.inl rfl))
        (pss_one (ps_if (pt_cmpR (op_notInM MH (hr.mono (by decide))) (pv 4) (pv 0) (by rfl)) (pss_one ps_never) pss_nil))))), ?_⟩
    refine ⟨_, rfl, l, rfl, ⟨_, SqL.of hl⟩, fun D hD => ?_⟩
    refine dc2_acc (walk_list (xs := pp.map V.ref)) (fun i j kvs _ => ∃ us : List Str, kvs = kvT us ∧ us.Nodup ∧ (∀ x ∈ us, x ∈ ns) ∧ us.length ≤ 40 * i + j ∧ i ≤ 4 ∧ j ≤ 40) (fun _ _ _ _ _ _ h => h)
      ⟨[], rfl, List.nodup_nil, (fun x hx => by cases hx), by decide, by decide, by decide⟩ hD
      (fun i j kvs _ ⟨us, e, _, _, h1, h2, h3⟩ => by rw [e]; unfold kvT; rw [List.length_map]; exact Nat.lt_of_le_of_lt (show _ ≤ 200 by omega) (by decide)) (fun H' e => SqL.of (e _ _ hl)) ?_ ?_
    · rintro i x Hi H' kvs hi e hy ⟨rfl, hxi⟩ hPi R hR
      rw [mlp] at hi
      rw [List.getElem?_map, List.getElem?_eq_getElem hi] at hxi
      cases hxi
      obtain ⟨ps, hPs, hsub⟩ := hP _ (List.getElem_mem hi)
      have hP' := hPs.up e
      obtain ⟨dx, t, u, xs, us0, h1, _⟩ := id hP'
      refine ⟨rfl, ?_⟩
      refine ⟨_, rfl, pp[i], dx, _, rfl, h1, pf_no _ _ (by decide +kernel) (by decide +kernel), pp[i], ps, rfl, hP', fun lu us H3 nlu e3 hlu _ hnd hlen hmem => ⟨lu, rfl, ⟨_, SqL.of hlu⟩, hR _ _ _ ⟨e3, (us.map V.str).length, _, _, walk_list (xs := us.map V.str), fun Hz ez => SqL.of (ez _ _ ?_), ?_, ?_⟩⟩⟩
      · rw [del_ne (fun z => by rw [z, hy] at nlu; cases nlu)]
        exact hlu
      · rintro kvs Hz ⟨ks, a1, a2, a3, a4, a5, a6⟩
        rw [List.length_map] at a4
        exact ⟨ks, a1, a2, a3, by omega, by omega, by omega⟩
      · rintro j y Ha Hb kvs hj eH ha2 ⟨rfl, hyj⟩ ⟨ks, rfl, a2, a3, a4, a5, a6⟩ QY QN kY kN
        rw [List.length_map] at hj
        rw [List.getElem?_map, List.getElem?_eq_getElem hj] at hyj
        cases hyj
        refine ⟨rfl, ?_⟩
        refine tyes ?_
        have mm : us[j] ∈ ns := hsub _ ((hmem _).mp (List.getElem_mem hj))
        refine ⟨_, rfl, ?_⟩
        by_cases m : us[j] ∈ ks
        · exact kY (.inr us[j]) (.bl true) _ (Ext.refl _) ⟨ks, kvT_put m, a2, a3, by omega, a5, by omega⟩
        · refine kY (.inr us[j]) (.bl true) _ (Ext.refl _) ⟨ks ++ [us[j]], kvT_new m, ?_, fun z hz => ?_, by rw [List.length_append, List.length_singleton]; omega, a5, by omega⟩
          · refine List.nodup_append.mpr ⟨a2, by simp, fun c hc d hd e => ?_⟩
            rw [List.mem_singleton.mp hd] at e
            exact m (e ▸ hc)
          · rcases List.mem_append.mp hz with h | h
            · exact a3 z h
            · rw [List.mem_singleton.mp h]
              exact mm
    rintro H4 kvs e4 hD4 ⟨us, rfl, a2, a3, a4, _, _⟩
    have kk : (kvT us).map (·.1) = us.map Sum.inr := by
      unfold kvT
      rw [List.map_map]
      rfl
    have a4' : us.length ≤ 60 := by
      obtain ⟨_, _, _, _, _, _, _, _, _, _, hl2, _⟩ := id hL
      exact Nat.le_trans (len_sub us ns a2 a3) hl2
    refine ⟨_, rfl, D, _, us, rfl, Rd.of hD4, kk, by omega, fun vs l2 hperm hso hl2 => ?_⟩
    have e5 := Ext.new (o := .lst (vs.map V.str)) hl2
    have k5 := upd_same (H := H4) (a := l2) (o := HO.lst (vs.map V.str))
    generalize upd H4 l2 (.lst (vs.map V.str)) = H5 at *
    refine ⟨l2, rfl, ⟨_, SqL.of k5⟩, ?_⟩
    have e45 := e4.trans e5
    refine for_list (xs := vs.map V.str) (fun i σ H' => ∃ s4, σ = [some (.ref lx), some (.ref l), some (.ref D), none, s4] ∧ Ext H5 H')
      ⟨_, rfl, Ext.refl _⟩ (fun i σ H' _ ⟨_, _, e⟩ => SqL.of (e _ _ k5)) ?_ ?_
    · rintro i x σ H6 hxi ⟨s4, rfl, e6⟩
      have hi : i < vs.length := by have := (List.getElem?_eq_some_iff.mp hxi).1; rw [List.length_map] at this; exact this
      rw [List.getElem?_map, List.getElem?_eq_getElem hi] at hxi
      cases hxi
      have mm : vs[i] ∈ ns := a3 _ (hperm.mem_iff.mp (List.getElem_mem hi))
      have hL6 := hL.up (e45.trans e6)
      obtain ⟨dx, n, b, sp, h1, h2, h3, h4, hl0, hnd, hl2', hns, hbs⟩ := id hL6
      refine ⟨_, rfl, _, rfl, lx, dx, _, rfl, h1, lx, ns, bs, _, rfl, hL6, hns _ mm, fun H7 e7 => ⟨_, rfl, ?_⟩⟩
      rw [decide_eq_true mm]
      refine ⟨_, rfl, ?_⟩
      refine iteF ?_
      exact ⟨_, rfl, e6.trans e7⟩
    · rintro σ H6 ⟨s4, rfl, e6⟩
      exact q _ (e45.trans e6)
end
end K41

set_option Elab.async false
set_option linter.all false
set_option maxRecDepth 100000
set_option maxHeartbeats 4000000
namespace K41
open PySem PySem.Spec PyProof.Rows L2 Ol RZ
open TL (tl)
/-! ### _law_arm -/
abbrev w9V : List V := [.str "send", .str "take", .str "send", .str "take", .str "ended", .str "close", .str "else", .str "send", .str "take"]
theorem w9 {i : Nat} (h : i < 9) : ∃ x, w9V[i]? = some (.str x) ∧ (x = "else" ∨ x ∈ words4) := by
  have : i = 0 ∨ i = 1 ∨ i = 2 ∨ i = 3 ∨ i = 4 ∨ i = 5 ∨ i = 6 ∨ i = 7 ∨ i = 8 := by omega
  rcases this with rfl | rfl | rfl | rfl | rfl | rfl | rfl | rfl | rfl <;> first | exact ⟨_, rfl, .inr (by decide +kernel)⟩ | exact ⟨_, rfl, .inl rfl⟩
section
variable {P : Program} {w : World} {K : PySem.W.Frag} {mg : Str → Option Value} {base : Heap} {C CP : Addr}
def spLArm : Sp := fun vs H Q _ => ∃ (p nl : Addr) (ns : List Str) (pl : Nat), vs = [.ref p, .ref nl, .int (pl : Int)] ∧ Bag H p ∧ H nl = some (.lst (ns.map V.str)) ∧ 1 ≤ ns.length ∧ ns.length ≤ 3 ∧ (∀ x ∈ ns, isNameS x = true) ∧ 1 ≤ pl ∧ pl ≤ 5 ∧
  ∀ (r : Addr) (H' : Hp) (a : Arm), Ext H H' → Dq H' (.ref r) (armD a) → GArm a → a.2 < pl → (∀ p, a.1 = some p → p.2 ∈ ns) → Q (.ref r) H'
abbrev s__law_arm : Stmt := (topS 54)
theorem sc__law_arm : FnScope ["_law_bag_here", "_law_names_here", "_law_places", "_law_word"] ["_law_bag_here", "_law_names_here", "_law_places"] (defScope s__law_arm) := ⟨rfl, rfl, rfl, by decide +kernel, rfl, by decide +kernel, by decide +kernel⟩
theorem ok_larm {f : Addr} {fd : FuncData} (F : Fun K "_law_arm" "_law_arm" s__law_arm f fd) (T : BT mg)
    (CT : Ca P w K mg base 1 "_law_take" ["_law_bag_here", "_law_many"] spTake) :
    FnOk P w K mg base CX0 2 f fd ["_law_bag_here", "_law_names_here", "_law_places"] spLArm := by
  refine F.ok sc__law_arm (fun vs H Q E h => ?_) (fun cdv A outer s H vs Q E hr h => ?_)
  · obtain ⟨p, nl, ns, pl, rfl, _⟩ := h
    rfl
  · obtain ⟨p, nl, ns, pl, rfl, hB, hnl, n1, n3, hns, p1, p5, q⟩ := h
    refine ⟨_, (pss_cons (ps_set (i := 3) sc__law_arm.nd rfl (.inl rfl) (pe_ix ix_list (pe_lst (pa_cons pe_str (pa_cons pe_str (pa_cons pe_str (pa_cons pe_str (pa_cons pe_str (pa_cons pe_str (pa_cons pe_str (pa_cons pe_str (pa_cons pe_str pa_nil)))))))))) (pe_ca CT (hr.mono (by decide)) (by rfl) (pa_cons (pv 0) (pa_cons pe_int pa_nil))) (fun _ _ => rfl)))
    (pss_cons (ps_if (pt_cmpR op_eq (pv 3) pe_str (nomark _))
      (pss_one (ps_ret (pe_tup (pa_cons pe_str (pa_cons (pe_ca CT (hr.mono (by decide)) (by rfl) (pa_cons (pv 0) (pa_cons (pv 2) pa_nil))) pa_nil)))))
      pss_nil)
    (pss_one (ps_ret (pe_tup (pa_cons (pv 3) (pa_cons (pe_ix ix_list (pv 1) (pe_ca CT (hr.mono (by decide)) (by rfl) (pa_cons (pv 0) (pa_cons (pe_callB call_len_seq (by rfl) T.n_len (by decide +kernel) (pa_cons (pv 1) pa_nil)) pa_nil))) (fun _ _ => rfl)) (pa_cons (pe_ca CT (hr.mono (by decide)) (by rfl) (pa_cons (pv 0) (pa_cons (pv 2) pa_nil))) pa_nil)))))))), ?_⟩
    refine ⟨by show 9 ≤ sizeLine; decide, fun l hl => ?_⟩
    have e1 := Ext.new (o := .lst w9V) hl
    have h1 : upd H l (.lst w9V) l = some (.lst w9V) := upd_same
    generalize upd H l _ = H1 at e1 h1 ⊢
    refine ⟨_, rfl, p, 9, rfl, hB.up e1, by decide, by decide, fun r r0 r1 => ?_⟩
    obtain ⟨i, rfl⟩ := Int.eq_ofNat_of_zero_le r0
    obtain ⟨x, hx, hw⟩ := w9 (i := i) (by omega)
    refine ⟨l, _, (i : Int), .str x, rfl, rfl, SqL.of h1, atI_nat hx, ?_⟩
    refine ⟨_, rfl, rfl, _, rfl, ?_⟩
    refine ite2 (fun g => ?_) (fun g => ?_)
    · refine ⟨_, rfl, _, rfl, p, _, rfl, hB.up e1, by omega, by omega, fun g g0 g1 => ⟨by show 2 ≤ sizeLine; decide, fun t ht => ?_⟩⟩
      obtain ⟨gn, rfl⟩ := Int.eq_ofNat_of_zero_le g0
      refine q t _ (none, gn) (e1.trans (Ext.new ht)) (.tup upd_same (.cons (.str _) (.cons (.int _) .nil))) trivial (by show gn < pl; omega) (fun p hp => by cases hp)
    · have hw4 : x ∈ words4 := by
        rcases hw with h | h
        · exact absurd (dec_word.mpr h) g
        · exact h
      refine ⟨_, rfl, _, rfl, _, rfl, _, rfl, nl, _, rfl, .inl (SqL.of (e1 _ _ hnl)), p, _, rfl, hB.up e1, by rw [List.length_map]; omega, by rw [List.length_map]; omega, fun j j0 j1 => ?_⟩
      rw [List.length_map] at j1
      obtain ⟨jn, rfl⟩ := Int.eq_ofNat_of_zero_le j0
      have hj : jn < ns.length := by omega
      refine ⟨nl, _, (jn : Int), .str ns[jn], rfl, rfl, SqL.of (e1 _ _ hnl), atI_nat (ix_get jn hj), ?_⟩
      refine ⟨_, rfl, _, rfl, p, _, rfl, hB.up e1, by omega, by omega, fun g g0 g1 => ⟨by show 3 ≤ sizeLine; decide, fun t ht => ?_⟩⟩
      obtain ⟨gn, rfl⟩ := Int.eq_ofNat_of_zero_le g0
      refine q t _ (some (x, ns[jn]), gn) (e1.trans (Ext.new ht)) (.tup upd_same (.cons (.str _) (.cons (.str _) (.cons (.int _) .nil)))) ⟨hw4, hns _ (List.getElem_mem hj)⟩ (by show gn < pl; omega) (fun p hp => by cases hp; exact List.getElem_mem hj)
end
end K41

set_option Elab.async false
set_option linter.all false
set_option maxRecDepth 100000
set_option maxHeartbeats 4000000
namespace K41
open PySem PySem.Spec PyProof.Rows L2 Ol RZ
open TL (tl)
/-! ### sizes of arms -/
theorem sysUp {H H' : Hp} (h : Sys H) (e : Ext H H') : Sys H' := by
  obtain ⟨o, u, q⟩ := h
  exact ⟨o, u, e _ _ q⟩
theorem eqv_e (ds : List PyData) : PyData.eqv (.list ds) (.list []) = ds.isEmpty := by
  cases ds <;> simp [PyData.eqv, PyData.eqvAll]
theorem gd_nat5 {n : Nat} (h : n ≤ 6) : Gd 0 (.int (n : Int)) := by
  have : n = 0 ∨ n = 1 ∨ n = 2 ∨ n = 3 ∨ n = 4 ∨ n = 5 ∨ n = 6 := by omega
  rcases this with rfl | rfl | rfl | rfl | rfl | rfl | rfl <;> exact gd_int _ (by decide +kernel) (by decide +kernel)
theorem gd_arm {a : Arm} (h : GArm a) (hg : a.2 ≤ 6) : Gd 1 (armD a) := by
  obtain ⟨o, g⟩ := a
  cases o with
  | none =>
    refine gd_tuple (fun d hd => ?_) (by simp)
    simp only [List.mem_cons, List.not_mem_nil, or_false] at hd
    rcases hd with rfl | rfl
    · exact gd_str _ (by decide +kernel) (by decide +kernel)
    · exact gd_nat5 hg
  | some p =>
    obtain ⟨w, l⟩ := p
    have h' : w ∈ words4 ∧ isNameS l = true := h
    refine gd_tuple (fun d hd => ?_) (by simp)
    simp only [List.mem_cons, List.not_mem_nil, or_false] at hd
    rcases hd with rfl | rfl | rfl
    · exact word_gd _ h'.1
    · exact name_gd h'.2
    · exact gd_nat5 hg
theorem lay_arm {a : Arm} (h : GArm a) : (armD a).canLay0 = true := by
  obtain ⟨o, g⟩ := a
  cases o with
  | none =>
    show (PyData.tuple [.str "else", .int (g : Int)]).canLay0 = true
    simp only [PyData.canLay0, PyData.canLayAll0, Bool.and_true]
    decide +kernel
  | some p =>
    obtain ⟨w, l⟩ := p
    have h' : w ∈ words4 ∧ isNameS l = true := h
    show (PyData.tuple [.str w, .str l, .int (g : Int)]).canLay0 = true
    simp only [PyData.canLay0, PyData.canLayAll0, Bool.and_true, Bool.and_eq_true]
    exact ⟨word_ok _ h'.1, name_ok h'.2⟩
theorem arms_shaped {as : List Arm} (h : ∀ a ∈ as, GArm a ∧ a.2 ≤ 6) : SeqAt.shaped (.list (as.map armD)) = true := by
  have hg : ∀ d ∈ as.map armD, Gd 1 d := fun d hd => by
    obtain ⟨a, ha, rfl⟩ := List.mem_map.mp hd
    exact gd_arm (h a ha).1 (h a ha).2
  refine lay_shaped ?_ ?_
  · rw [PyData.canLay0]
    refine lay_all fun d hd => ?_
    obtain ⟨a, ha, rfl⟩ := List.mem_map.mp hd
    exact lay_arm (h a ha).1
  · have := (all_sh hg).2.1
    simp only [PyData.depth]
    omega
theorem nil_shaped : SeqAt.shaped (.list []) = true := by
  refine lay_shaped (by simp [PyData.canLay0, PyData.canLayAll0]) (by simp [PyData.depth, PyData.depthAll])
theorem filt_step {as : List Arm} {k : Nat} (h : k < as.length) (q : Arm → Bool) : (as.take (k + 1)).filter q = (as.take k).filter q ++ (if q as[k] = true then [as[k]] else []) := by
  rw [List.take_add_one, List.getElem?_eq_getElem h, List.filter_append]
  congr 1
  cases hq : q as[k] <;> simp [hq]
theorem arm_at {H : Hp} {r : Addr} {a : Arm} (h : Dq H (.ref r) (armD a)) : ∃ xs, H r = some (.tup xs) ∧ ∀ H' : Hp, H' r = some (.tup xs) → Dq H' (.ref r) (armD a) := by
  obtain ⟨o, g⟩ := a
  cases o with
  | none =>
    obtain ⟨t, xs, ds, e, ed, h1, h2⟩ := dq_tup (d := .tuple [.str "else", .int (g : Int)]) h rfl
    cases e
    cases ed
    refine ⟨xs, h1, fun H' h' => ?_⟩
    cases h2 with
    | cons a1 t1 => cases t1 with
      | cons a2 t2 =>
        cases t2
        cases a1
        cases a2
        exact .tup h' (.cons (.str _) (.cons (.int _) .nil))
  | some p =>
    obtain ⟨t, xs, ds, e, ed, h1, h2⟩ := dq_tup (d := .tuple [.str p.1, .str p.2, .int (g : Int)]) h rfl
    cases e
    cases ed
    refine ⟨xs, h1, fun H' h' => ?_⟩
    cases h2 with
    | cons a1 t1 => cases t1 with
      | cons a2 t2 => cases t2 with
        | cons a3 t3 =>
          cases t3
          cases a1
          cases a2
          cases a3
          exact .tup h' (.cons (.str _) (.cons (.str _) (.cons (.int _) .nil)))
theorem els_iff {a : Arm} (h : GArm a) : ((match a.1 with | some p => p.1 | none => ("else" : Str)) : Str) = ("else" : Str) ↔ a.1.isNone = true := by
  obtain ⟨o, g⟩ := a
  cases o with
  | none => exact ⟨fun _ => rfl, fun _ => rfl⟩
  | some p =>
    have h' : p.1 ∈ words4 ∧ isNameS p.2 = true := h
    refine ⟨fun z => ?_, fun z => Bool.noConfusion z⟩
    have hw := h'.1
    have z' : p.1 = "else" := z
    rw [z'] at hw
    exact absurd hw (by decide +kernel)
/-- the arms found so far -/
def InA (n : Nat) (ns : List Str) (Hb : Hp) (al fl : Addr) (j : Nat) (H' : Hp) : Prop := ∃ (ys : List V) (as : List Arm), Ext Hb H' ∧ H' al = some (.lst ys) ∧ DqAll (del (del H' al) fl) ys (as.map armD) ∧ as.length ≤ j ∧
  (∀ a ∈ as, GArm a ∧ a.2 < n ∧ ∀ p, a.1 = some p → p.2 ∈ ns) ∧ (as.filter fun a : Arm => a.1.isNone).length ≤ 1
theorem InA.add {n : Nat} {ns : List Str} {Hb H6 H7 : Hp} {al fl : Addr} {j : Nat} {ys : List V} {as : List Arm} {a : Arm} {r : Addr} (hal : Hb al = none) (e : Ext Hb H6) (e67 : Ext H6 H7)
    (hy : DqAll (del (del H6 al) fl) ys (as.map armD)) (hl : as.length ≤ j) (ga : ∀ a ∈ as, GArm a ∧ a.2 < n ∧ ∀ p, a.1 = some p → p.2 ∈ ns) (he : (as.filter fun a : Arm => a.1.isNone).length ≤ 1)
    (hr : Dq (del (del H7 al) fl) (.ref r) (armD a)) (g : GArm a ∧ a.2 < n ∧ ∀ p, a.1 = some p → p.2 ∈ ns) (hc : (as.filter fun a : Arm => a.1.isNone).length = 0 ∨ a.1.isNone = false) :
    InA n ns Hb al fl (j + 1) (upd H7 al (.lst (ys ++ [.ref r]))) := by
  refine ⟨ys ++ [.ref r], as ++ [a], Ext.mut (e.trans e67) hal, upd_same, ?_, by rw [List.length_append, List.length_singleton]; omega, fun b hb => ?_, ?_⟩
  · rw [del_upd, List.map_append]
    exact dq_app (DqAll.up (ext_del (ext_del e67)) hy) (.cons hr .nil)
  · rcases List.mem_append.mp hb with h | h
    · exact ga b h
    · rw [List.mem_singleton.mp h]
      exact g
  · rw [List.filter_append, List.length_append]
    rcases hc with h | h
    · rw [h]
      have : ([a].filter fun a : Arm => a.1.isNone).length ≤ 1 := Nat.le_trans (List.length_filter_le ..) (by simp)
      omega
    · rw [List.filter_cons_of_neg (by rw [h]; decide)]
      simpa using he
/-! ### _law_program -/
structure GL (n : Nat) (ns : List Str) (p : Place) : Prop where
  place : GPlace n p
  few : p.2.length ≤ 3
  lanes : ∀ x ∈ lanesA p.2, x ∈ ns
section
variable {P : Program} {w : World} {K : PySem.W.Frag} {mg : Str → Option Value} {base : Heap} {C CP : Addr}
def spLProg : Sp := fun vs H Q _ => ∃ (p nl : Addr) (ns : List Str) (n : Nat), vs = [.ref p, .ref nl, .int (n : Int)] ∧ Sys H ∧ Bag H p ∧ H nl = some (.lst (ns.map V.str)) ∧ 1 ≤ ns.length ∧ ns.length ≤ 3 ∧ (∀ x ∈ ns, isNameS x = true) ∧ 1 ≤ n ∧ n ≤ 5 ∧
  ∀ (fl : Addr) (xs : List V) (ps : List Place) (H' : Hp), H fl = none → Ext H H' → H' fl = some (.lst xs) → DqAll (del H' fl) xs (ps.map placeD) → ps.length = n → (∀ q ∈ ps, GL n ns q) → Q (.ref fl) H'
abbrev s__law_program : Stmt := (topS 55)
abbrev nLPr : List Str := ["_law_bag_here", "_law_names_here", "_law_places", "_law_found", "_law_place", "_law_mode", "_law_arms", "_law_k", "_law_arm_here", "_law_one"]
theorem sc__law_program : FnScope nLPr ["_law_bag_here", "_law_names_here", "_law_places"] (defScope s__law_program) := ⟨rfl, rfl, rfl, by decide +kernel, rfl, by decide +kernel, by decide +kernel⟩
abbrev k8V : List V := [.int 1, .int 2, .int 1, .int 2, .int 3, .int 0, .int 2, .int 1]
theorem k8 {i : Nat} (h : i < 8) : ∃ m : Nat, k8V[i]? = some (.int (m : Int)) ∧ m ≤ 3 := by
  have : i = 0 ∨ i = 1 ∨ i = 2 ∨ i = 3 ∨ i = 4 ∨ i = 5 ∨ i = 6 ∨ i = 7 := by omega
  rcases this with rfl | rfl | rfl | rfl | rfl | rfl | rfl | rfl
  · exact ⟨1, rfl, by decide⟩
  · exact ⟨2, rfl, by decide⟩
  · exact ⟨1, rfl, by decide⟩
  · exact ⟨2, rfl, by decide⟩
  · exact ⟨3, rfl, by decide⟩
  · exact ⟨0, rfl, by decide⟩
  · exact ⟨2, rfl, by decide⟩
  · exact ⟨1, rfl, by decide⟩
theorem ok_lprog {f : Addr} {fd : FuncData} (F : Fun K "_law_program" "_law_program" s__law_program f fd) (T : BT mg)
    (CT : Ca P w K mg base 1 "_law_take" ["_law_bag_here", "_law_many"] spTake) (CAr : Ca P w K mg base 2 "_law_arm" ["_law_bag_here", "_law_names_here", "_law_places"] spLArm) :
    FnOk P w K mg base CX0 3 f fd ["_law_bag_here", "_law_names_here", "_law_places"] spLProg := by
  refine F.ok sc__law_program (fun vs H Q E h => ?_) (fun cdv A outer s H vs Q E hr h => ?_)
  · obtain ⟨p, nl, ns, n, rfl, _⟩ := h
    rfl
  · obtain ⟨p, nl, ns, n, rfl, hS, hB, hnl, n1, n3, hns, p1, p5, q⟩ := h
    refine ⟨_, (pss_cons (ps_set (i := 3) sc__law_program.nd rfl (.inl rfl) (pe_lst pa_nil))
    (pss_cons (ps_for PassesOwn.never rfl (pi_range1 (by rfl) T.n_range (pa_cons (pv 2) pa_nil)) (pg_name (i := 4) sc__law_program.nd rfl (.inl rfl))
      (pss_cons (ps_par (i := 5) (j := 6) rfl sc__law_program.nd rfl rfl (by decide) rfl rfl (pa_cons (pe_ix ix_list (pe_lst (pa_cons pe_str (pa_cons pe_str pa_nil))) (pe_ca CT (hr.mono (by decide)) (by rfl) (pa_cons (pv 0) (pa_cons pe_int pa_nil))) (fun _ _ => rfl)) (pa_cons (pe_lst pa_nil) pa_nil)) (by rfl))
      (pss_cons (ps_for PassesOwn.never rfl (pi_range1 (by rfl) T.n_range (pa_cons (pe_ix ix_list (pe_lst (pa_cons pe_int (pa_cons pe_int (pa_cons pe_int (pa_cons pe_int (pa_cons pe_int (pa_cons pe_int (pa_cons pe_int (pa_cons pe_int pa_nil))))))))) (pe_ca CT (hr.mono (by decide)) (by rfl) (pa_cons (pv 0) (pa_cons pe_int pa_nil))) (fun _ _ => rfl)) pa_nil)) (pg_name (i := 7) sc__law_program.nd rfl (.inl rfl))
        (pss_cons (ps_set (i := 8) sc__law_program.nd rfl (.inl rfl) (pe_ca CAr (hr.mono (by decide)) (by rfl) (pa_cons (pv 0) (pa_cons (pv 1) (pa_cons (pv 2) pa_nil)))))
        (pss_one (ps_if (PW.pt (pw_or (pt_cmpR op_ne (pe_ix ix_tup (pv 8) pe_int (fun _ _ => rfl)) pe_str (nomark _)) (pw_or1 (pt_cmpR (op_eqQ hr) (pe_lc (own := [("_law_one", 9)]) (g := gName 9) (tt := tTest (tOp rEq (tOp (rIxT K) (tVar 9) (tC (.int 0))) (tC (.str "else")))) rfl sc__law_program.nd (pi_list (pv 6)) (blkOk_by (N := nLPr) (sc := defScope s__law_program) (by decide +kernel)) (fun _ _ _ _ _ => (pg_name (i := 9) sc__law_program.nd rfl (.inl rfl))) (fun _ _ _ _ _ => (pts_one (pt_cmpR op_eq (pe_ix ix_tup (pv 9) pe_int (fun _ _ => rfl)) pe_str (nomark _)))) (fun _ _ _ _ _ => (pv 9))) (pe_lst pa_nil) (nomark _)))))
          (pss_one (ps_expr (pe_bm PySem.F.plainAttrs_list PySem.F.slot_list_append PySem.F.type_list_append mt_append (pv 6) (pa_cons (pv 8) pa_nil))))
          pss_nil))))
      (pss_one (ps_expr (pe_bm PySem.F.plainAttrs_list PySem.F.slot_list_append PySem.F.type_list_append mt_append (pv 3) (pa_cons (pe_tup (pa_cons (pv 5) (pa_cons (pe_callTy call_tuple_of (by rfl) T.n_tuple (by decide +kernel) (pa_cons (pv 6) pa_nil)) pa_nil))) pa_nil)))))))
    (pss_one (ps_ret (pv 3))))), ?_⟩
    refine ⟨by show 0 ≤ sizeLine; decide, fun fl hfl => ?_⟩
    have e0 := Ext.new (o := .lst []) hfl
    refine ⟨_, rfl, _, rfl, by omega, by omega, ?_⟩
    refine for_range (fun i σ H' => ∃ s4 s5 s6 s7 s8 s9 xs ps, σ = [some (.ref p), some (.ref nl), some (.int (n : Int)), some (.ref fl), s4, s5, s6, s7, s8, s9] ∧ Ext H H' ∧ H' fl = some (.lst xs) ∧ DqAll (del H' fl) xs (ps.map placeD) ∧ ps.length = i ∧ ∀ q ∈ ps, GL n ns q)
      ⟨none, none, none, none, none, none, [], [], rfl, e0, upd_same, .nil, rfl, fun q hq => by cases hq⟩ ?_ ?_
    · rintro i σ H1 hi ⟨s4, s5, s6, s7, s8, s9, xs, ps, rfl, e1, f1, hx, hl, gd⟩
      have hi5 : i < 5 := by omega
      refine ⟨by show 2 ≤ sizeLine; decide, fun l hl2 => ?_⟩
      have x1 := Ext.new (o := .lst [V.str "first", V.str "any"]) hl2
      have y1 : upd H1 l (.lst [V.str "first", V.str "any"]) l = some (.lst [V.str "first", V.str "any"]) := upd_same
      generalize upd H1 l _ = H2 at x1 y1 ⊢
      have e2 := e1.trans x1
      refine ⟨_, rfl, p, 2, rfl, hB.up e2, by decide, by decide, fun r r0 r1 => ?_⟩
      obtain ⟨m, hm, hmd⟩ : ∃ m : Str, atI [V.str "first", V.str "any"] r = some (.str m) ∧ (m = "first" ∨ m = "any") := by
        have : r = 0 ∨ r = 1 := by omega
        rcases this with rfl | rfl
        · exact ⟨_, rfl, .inl rfl⟩
        · exact ⟨_, rfl, .inr rfl⟩
      refine ⟨l, _, r, .str m, rfl, rfl, SqL.of y1, hm, ?_⟩
      refine ⟨by show 0 ≤ sizeLine; decide, fun al hal => ⟨_, _, rfl, ?_⟩⟩
      have e3 := Ext.new (o := .lst []) hal
      have f2 := x1 _ _ f1
      have nfa : al ≠ fl := fun z => by rw [z, f2] at hal; cases hal
      refine ⟨by show 8 ≤ sizeLine; decide, fun l3 hl3 => ?_⟩
      have x4 := Ext.new (o := .lst k8V) hl3
      have y4 : upd (upd H2 al (.lst [])) l3 (.lst k8V) l3 = some (.lst k8V) := upd_same
      have ya : upd (upd H2 al (.lst [])) l3 (.lst k8V) al = some (.lst []) := x4 _ _ upd_same
      have e24 : Ext H2 (upd (upd H2 al (.lst [])) l3 (.lst k8V)) := e3.trans x4
      generalize upd (upd H2 al (.lst [])) l3 _ = H4 at e24 y4 ya ⊢
      refine ⟨_, rfl, p, 8, rfl, hB.up (e2.trans e24), by decide, by decide, fun r8 r80 r81 => ?_⟩
      obtain ⟨i8, rfl⟩ := Int.eq_ofNat_of_zero_le r80
      obtain ⟨m8, hm8, l8⟩ := k8 (i := i8) (by omega)
      refine ⟨l3, _, (i8 : Int), .int (m8 : Int), rfl, rfl, SqL.of y4, atI_nat hm8, _, rfl, by omega, by omega, ?_⟩
      refine for_range (fun j σ H' => ∃ s7 s8 s9, σ = [some (.ref p), some (.ref nl), some (.int (n : Int)), some (.ref fl), some (.int (0 + (i : Int))), some (.str m), some (.ref al), s7, s8, s9] ∧ InA n ns H2 al fl j H')
        ⟨_, _, _, rfl, [], [], e24, ya, .nil, by simp, fun a ha => (by cases ha), by simp⟩ ?_ ?_
      · rintro j σ H5 hj ⟨s7, s8, s9, rfl, ys, as, e5, a5, hy, hla, ga, he⟩
        have hj3 : j < 3 := by omega
        have hB5 := hB.up (e2.trans e5)
        refine ⟨_, rfl, _, rfl, _, rfl, p, nl, ns, n, rfl, hB5, (e2.trans e5) _ _ hnl, n1, n3, hns, p1, p5, fun r H6 a e6 hra g1 g2 g3 => ?_⟩
        have e56 := e5.trans e6
        have a6 := e6 _ _ a5
        have f6 := e56 _ _ f2
        have lys : ys.length = as.length := by rw [hy.len, List.length_map]
        obtain ⟨ws, h4, re⟩ := arm_at hra
        obtain ⟨t4, ws4, et4, h4', _, h40, _⟩ := arm_inv hra
        cases et4
        rw [h4] at h4'
        cases h4'
        have nta : r ≠ al := fun z => by rw [z, a6] at h4; cases h4
        have ntf : r ≠ fl := fun z => by rw [z, f6] at h4; cases h4
        have hra' : ∀ H7 : Hp, Ext H6 H7 → Dq (del (del H7 al) fl) (.ref r) (armD a) := fun H7 e7 => re _ (by rw [del_ne ntf, del_ne nta]; exact e7 _ _ h4)
        have hy6 : DqAll (del (del H6 al) fl) ys (as.map armD) := DqAll.up (ext_del (ext_del e6)) hy
        have hlen : ys.length < sizeLine := by rw [lys]; exact Nat.lt_of_le_of_lt (show _ ≤ 3 by omega) (by decide)
        have nxt : ∀ H7 : Hp, Ext H6 H7 → ((as.filter fun a : Arm => a.1.isNone).length = 0 ∨ a.1.isNone = false) → InA n ns H2 al fl (j + 1) (upd H7 al (.lst (ys ++ [.ref r]))) := fun H7 e7 hc =>
          InA.add hal e56 e7 hy6 hla ga he (hra' H7 e7) ⟨g1, g2, g3⟩ hc
        refine ⟨_, rfl, r, ws, 0, _, rfl, rfl, SqT.of h4, h40, rfl, _, rfl, ?_⟩
        refine ite2 (fun g => ?_) (fun g => ?_)
        · refine iteT ?_
          refine ⟨_, rfl, .inl ⟨rfl, _, SqL.of a6⟩, _, rfl, al, ys, _, rfl, rfl, a6, hlen, _, _, _, rfl, nxt H6 (Ext.refl _) (.inr ?_)⟩
          cases ha : a.1 with
          | none => rw [ha] at g; simp at g
          | some _ => rfl
        · refine ⟨_, rfl, al, rfl, ⟨_, SqL.of a6⟩, fun D hD => ?_⟩
          refine lc1_acc (walk_list (xs := ys)) (fun k zs Hz => DqAll Hz zs (((as.take k).filter fun a : Arm => a.1.isNone).map armD)) (fun _ _ _ _ e h => DqAll.up e h) .nil hD
            (fun k zs Hz h => ?_) (fun Hz ez => SqL.of (ez _ _ a6)) ?_ ?_
          · rw [h.len, List.length_map]
            refine Nat.lt_of_le_of_lt (Nat.le_trans (List.length_filter_le ..) ?_) (show 3 < sizeLine by decide)
            rw [List.length_take]
            omega
          · rintro k y Ha Hb zs hk ea hza ⟨rfl, hyk⟩ hp QY QN kY kN
            have hk2 : k < as.length := by omega
            obtain ⟨y', hy', dy'⟩ := DqAll_get (DqAll.up (del_ext.trans del_ext) hy6) k (armD as[k]) (by rw [List.getElem?_map, List.getElem?_eq_getElem hk2]; rfl)
            rw [hyk] at hy'
            cases hy'
            obtain ⟨t5, ws5, rfl, h5, _, h50, _⟩ := arm_inv (dy'.up ea)
            have gk := ga _ (List.getElem_mem hk2)
            refine ⟨rfl, ?_⟩
            refine ⟨_, rfl, t5, ws5, 0, _, rfl, rfl, SqT.of h5, h50, rfl, _, rfl, ?_⟩
            refine ite2 (fun g' => ?_) (fun g' => ?_)
            · have ee := (els_iff gk.1).mp (dec_word.mp g')
              refine ⟨_, rfl, kY _ _ (Ext.refl _) ?_⟩
              rw [filt_step hk2, ee, if_pos rfl, List.map_append]
              exact dq_app hp (.cons (dy'.up (ext_to ea hD)) .nil)
            · have ee : as[k].1.isNone = false := Bool.eq_false_iff.mpr fun z => g' (dec_word.mpr ((els_iff gk.1).mpr z))
              refine kN _ (Ext.refl _) ?_
              rw [filt_step hk2, ee, if_neg (by decide), List.append_nil]
              exact hp
          rintro H7 zs e7 hz hp
          rw [lys, List.take_length] at hp
          refine ⟨by show 0 ≤ sizeLine; decide, fun l7 hl7 => ?_⟩
          have e8 := Ext.new (o := .lst []) hl7
          have e78 := e7.trans e8
          refine ⟨.list ((as.filter fun a : Arm => a.1.isNone).map armD), .list [], sysUp hS ((e2.trans e56).trans e78), .lst (e8 _ _ hz) (DqAll.up e8 hp), .lst upd_same .nil, arms_shaped (fun a ha => ⟨(ga a (List.mem_filter.mp ha).1).1, by have := (ga a (List.mem_filter.mp ha).1).2.1; omega⟩), nil_shaped, _, rfl, ?_⟩
          rw [eqv_e]
          refine ite2 (fun g' => ?_) (fun g' => ?_)
          · have hz0 : (as.filter fun a : Arm => a.1.isNone).length = 0 := by
              have := List.isEmpty_iff.mp g'
              rw [← List.length_map (f := armD), this]
              rfl
            exact ⟨_, rfl, .inl ⟨rfl, _, SqL.of (e78 _ _ a6)⟩, _, rfl, al, ys, _, rfl, rfl, e78 _ _ a6, hlen, _, _, _, rfl, nxt _ e78 (.inl hz0)⟩
          · exact ⟨_, _, _, rfl, ys, as, e56.trans e78, e78 _ _ a6, DqAll.up (ext_del (ext_del e78)) hy6, by omega, ga, he⟩
      · rintro σ H5 ⟨s7, s8, s9, rfl, ys, as, e5, a5, hy, hla, ga, he⟩
        have f5 := e5 _ _ f2
        have hl3' : as.length ≤ 3 := by omega
        refine ⟨_, rfl, .inl ⟨rfl, _, SqL.of f5⟩, _, rfl, _, rfl, al, ys, rfl, .inl ⟨SqL.of a5, fun t ht => ⟨by show 2 ≤ sizeLine; decide, fun t2 ht2 => ?_⟩⟩⟩
        have x6 := Ext.new (o := .tup ys) ht
        have x7 := Ext.new (o := .tup [.str m, .ref t]) ht2
        have x67 := x6.trans x7
        have f7 := x67 _ _ f5
        have y6 : upd (upd H5 t (.tup ys)) t2 (.tup [.str m, .ref t]) t = some (.tup ys) := x7 _ _ upd_same
        have y7 : upd (upd H5 t (.tup ys)) t2 (.tup [.str m, .ref t]) t2 = some (.tup [.str m, .ref t]) := upd_same
        generalize upd (upd H5 t (.tup ys)) t2 _ = H7 at x67 f7 y6 y7 ⊢
        have nt : t ≠ fl := fun z => by rw [z, f5] at ht; cases ht
        have nt2 : t2 ≠ fl := fun z => by rw [z, x6 _ _ f5] at ht2; cases ht2
        have lxs : xs.length = ps.length := by rw [hx.len, List.length_map]
        have hyf : DqAll (del H7 fl) ys (as.map armD) := DqAll.up (ext_del x67) (DqAll.up (ext_del del_ext) hy)
        refine ⟨fl, xs, _, rfl, rfl, f7, by rw [lxs, hl]; exact Nat.lt_trans hi5 (by decide), ?_⟩
        refine ⟨_, _, _, _, _, _, xs ++ [.ref t2], ps ++ [(m, as)], rfl, Ext.mut (e2.trans (e5.trans x67)) hfl, upd_same, ?_, by rw [List.length_append, hl]; rfl, fun z hz => ?_⟩
        · rw [del_upd, List.map_append]
          exact dq_app (DqAll.up (ext_del (x1.trans (e5.trans x67))) hx) (.cons (.tup (by rw [del_ne nt2]; exact y7) (.cons (.str _) (.cons (.tup (by rw [del_ne nt]; exact y6) hyf) .nil))) .nil)
        · rcases List.mem_append.mp hz with h | h
          · exact gd z h
          · rw [List.mem_singleton.mp h]
            refine ⟨⟨hmd, fun a ha => ⟨(ga a ha).1, (ga a ha).2.1⟩, he, by show as.length ≤ 5; omega⟩, hl3', fun x hx => ?_⟩
            unfold lanesA at hx
            obtain ⟨a, ha, ea⟩ := List.mem_filterMap.mp hx
            cases hp : a.1 with
            | none => rw [hp] at ea; cases ea
            | some pr =>
              rw [hp] at ea
              cases ea
              exact (ga a ha).2.2 pr hp
    · rintro σ H5 ⟨s4, s5, s6, s7, s8, s9, xs, ps, rfl, e1, f1, hx, hl, gd⟩
      exact ⟨_, rfl, q fl xs ps _ hfl e1 f1 hx (by omega) gd⟩
end
end K41

set_option Elab.async false
set_option linter.all false
set_option maxRecDepth 100000
set_option maxHeartbeats 4000000
namespace K41
open PySem PySem.Spec PyProof.Rows L2 Ol RZ
open TL (tl)
def isStD (bd : Int) : PyData → Bool
  | .tuple [d0, d1] => isNumD d0 && (match d0 with | .int i => decide (i ≤ bd) | _ => false) && kB d1
  | _ => false
theorem isSt_not {bd : Int} {d : PyData} (h : kT d = false) : isStD bd d = false := by
  cases d with
  | tuple ds => cases h
  | _ => rfl
theorem isSt_len {bd : Int} {ds : List PyData} (h : ds.length ≠ 2) : isStD bd (.tuple ds) = false := by
  match ds, h with
  | [], _ => rfl
  | [_], _ => rfl
  | [_, _], h => exact absurd rfl h
  | _ :: _ :: _ :: _, _ => rfl
theorem num_int {d : PyData} (h : isNumD d = true) : ∃ i : Int, d = .int i ∧ 0 ≤ i := by
  cases d with
  | int i => exact ⟨i, rfl, of_decide_eq_true h⟩
  | _ => cases h
/-- a content of lanes with these bounds -/
def ctOk (bs : List Int) (ds : List PyData) : Bool := decide (ds.length = bs.length) && (List.range bs.length).all fun i => isStD (bs.getD i 0) (ds.getD i .none)
def isCtD (bs : List Int) : PyData → Bool
  | .tuple ds => ctOk bs ds
  | _ => false
theorem isCt_not {bs : List Int} {d : PyData} (h : kT d = false) : isCtD bs d = false := by
  cases d with
  | tuple ds => cases h
  | _ => rfl
end K41

set_option Elab.async false
set_option linter.all false
set_option maxRecDepth 100000
set_option maxHeartbeats 4000000
namespace K41
open PySem PySem.Spec PyProof.Rows L2 Ol RZ
open TL (tl)
/-- what a class inherits -/
structure IsC (K : PySem.W.Frag) (C : Addr) : Prop where
  cls : PySem.W.findIn K (.ref C) "__class__" = some (some (.builtin "object.__class__"))
  get : PySem.W.specialIn K (.builtin "object.__class__") "__get__" = some (some (.builtin "getset_descriptor.__get__"))
  set : PySem.W.takesIn K (.builtin "object.__class__") = some true
  mro : PySem.W.mroIn K C (.type "object") = some true
  kC : PySem.W.kitOne K (.ref C) (.ref C) = some true
theorem IsC.nC {K : PySem.W.Frag} {C : Addr} : PySem.W.notFirst K C (.ref C) = true := by simp [PySem.W.notFirst]
theorem IsC.ty {K : PySem.W.Frag} {C : Addr} {H : Hp} {p dx : Addr} {fs : List (Str × V)} (I : IsC K C) (c : Cls K C) (h : H p = some (.ins C dx fs)) : TyX K H (.ref p) (.ref C) := .base (.ins h c I.cls I.get I.set I.mro)
section
variable {P : Program} {w : World} {K : PySem.W.Frag} {mg : Str → Option Value} {base : Heap} {C CP : Addr}
/-! ### Program.size -/
def spSz (C : Addr) : Sp := fun vs H Q _ => ∃ (p : Addr) (ps : List Place), vs = [.ref p] ∧ ProgAt C H p ps ∧ Q (.int (ps.length : Int)) H
theorem sc_sz : FnScope ["self"] ["self"] (defScope (cP 3)) := ⟨rfl, rfl, rfl, by decide +kernel, rfl, by decide +kernel, by decide +kernel⟩
theorem ok_sz {f : Addr} {fd : FuncData} (F : Fun K "size" "Program.size" (cP 3) f fd) (T : BT mg) (L : PT K mg C) :
    FnOk P w K mg base CX0 1 f fd ["self"] (spSz C) := by
  refine F.ok sc_sz (fun vs H Q E h => ?_) (fun cdv A outer s H vs Q E hr h => ?_)
  · obtain ⟨p, ps, rfl, _⟩ := h
    rfl
  · obtain ⟨p, ps, rfl, hP, q⟩ := h
    refine ⟨_, (pss_one (ps_ret (pe_callB call_len_seq (by rfl) T.n_len (by decide +kernel) (pa_cons (pe_fld (pv 0) rfl) pa_nil)))), ?_⟩
    obtain ⟨dx, t, u, xs, us, h1, h2, h3, _⟩ := id hP
    have lx : xs.length = ps.length := by rw [h3.len, List.length_map]
    refine ⟨_, rfl, p, C, dx, _, _, rfl, h1, L.cl, L.nP, pf_p _ _, t, _, rfl, .inr (SqT.of h2), ?_⟩
    rw [lx]
    exact q
/-- a property and its promise -/
structure Pr (P : Program) (w : World) (K : PySem.W.Frag) (mg : Str → Option Value) (base : Heap) (C : Addr) (k : Nat) (m : Str) (sp : Sp) : Prop where
  has : ∃ (x f : Addr) (fd : FuncData), FnOk P w K mg base CX0 k f fd ["self"] sp ∧ PropOf K C m x f ∧ Binds K fd ["self"] []
/-! ### kinds of clients -/
abbrev Knd := Str × List Place
def kdA (ks : List Knd) (at_ : Str → Addr) : List (Key × V) := ks.map fun k => (.inr k.1, .ref (at_ k.1))
theorem kdA_len (ks : List Knd) (at_ : Str → Addr) : (kdA ks at_).length = ks.length := List.length_map ..
theorem kdA_keys (ks : List Knd) (at_ : Str → Addr) : (kdA ks at_).map (·.1) = (ks.map (·.1)).map Sum.inr := by
  unfold kdA
  rw [List.map_map, List.map_map]
  rfl
theorem kdA_val {ks : List Knd} {at_ : Str → Addr} {x : Str} : valV (kdA ks at_) (.inr x) = if x ∈ ks.map (·.1) then some (.ref (at_ x)) else none := by
  induction ks with
  | nil => rfl
  | cons k ks ih =>
    unfold kdA
    rw [List.map_cons, List.map_cons]
    by_cases c : k.1 = x
    · rw [valV_pos (by rw [c]), if_pos (by rw [c]; exact List.mem_cons_self), c]
    · rw [valV_neg (fun z => c (Sum.inr.inj z))]
      have ih' : valV (ks.map fun k => ((.inr k.1, .ref (at_ k.1)) : Key × V)) (.inr x) = _ := ih
      rw [ih']
      by_cases m : x ∈ ks.map (·.1)
      · rw [if_pos m, if_pos (List.mem_cons_of_mem _ m)]
      · rw [if_neg m, if_neg]
        intro z
        rcases List.mem_cons.mp z with z | z
        · exact c z.symm
        · exact m z
theorem kdA_at {ks : List Knd} {at_ : Str → Addr} {i : Nat} (h : i < ks.length) : (kdA ks at_)[i]? = some (.inr ks[i].1, .ref (at_ ks[i].1)) := by
  unfold kdA
  rw [List.getElem?_map, List.getElem?_eq_getElem h]
  rfl
def spKinds (CP : Addr) : Sp := fun vs H Q _ => ∃ (a : Addr) (ks : List Knd) (at_ : Str → Addr), vs = [.ref a] ∧ H a = some (.dK (kdA ks at_)) ∧ ks.length ≤ 3 ∧ (∀ k ∈ ks, isNameS k.1 = true ∧ ProgAt CP H (at_ k.1) k.2) ∧
  ∀ H', Ext H H' → Q (.bl true) H'
abbrev s_kinds : Stmt := (topS 46)
abbrev nKds : List Str := ["thing", "kind", "program"]
theorem sc_kinds : FnScope nKds ["thing"] (defScope s_kinds) := ⟨rfl, rfl, rfl, by decide +kernel, rfl, by decide +kernel, by decide +kernel⟩
theorem ok_kinds {f : Addr} {fd : FuncData} (F : Fun K "is_kinds" "is_kinds" s_kinds f fd) (T : BT mg) (LP : PT K mg CP) (IP : IsC K CP)
    (C3 : Ca P w K mg base 1 "is_name" ["thing"] (spPred Ok1 isNameD)) :
    FnOk P w K mg base CX0 2 f fd ["thing"] (spKinds CP) := by
  refine F.ok sc_kinds (fun vs H Q E h => ?_) (fun cdv A outer s H vs Q E hr h => ?_)
  · obtain ⟨a, ks, at_, rfl, _⟩ := h
    rfl
  · obtain ⟨a, ks, at_, rfl, ha, hl, hks, q⟩ := h
    refine ⟨_, (pss_cons (ps_if (pt_not (pt_val (pe_callB call_isi (by rfl) T.n_isinstance (by decide +kernel) (pa_cons (pv 0) (pa_cons (pe_bltn (v := .ty "dict") (by rfl) T.n_dict (by decide +kernel) rfl) pa_nil)))))
      (pss_one (ps_ret pe_bl))
      pss_nil)
    (pss_one (ps_ret (pe_callB (cr_all rfl) (by rfl) T.n_all (by decide +kernel) (pa_cons (pe_lock (pe_lc (own := [("kind", 1), ("program", 2)]) (g := gTup K 2 (gCons (gName 1) (gCons (gName 2) gNil))) (tt := tYes) rfl sc_kinds.nd (pi_items (pv 0)) (blkOk_by (N := nKds) (sc := defScope s_kinds) (by decide +kernel)) (fun _ _ _ _ _ => (pg_tup (by rfl) (pgs_cons (pg_name (i := 1) sc_kinds.nd rfl (.inl rfl)) (pgs_cons (pg_name (i := 2) sc_kinds.nd rfl (.inl rfl)) pgs_nil)))) (fun _ _ _ _ _ => pts_nil) (te := tAndV (tCall (spPred Ok1 isNameD) [] E0 (tCons (tVar 1) tNil)) (tCB (rIsi K) (tCons (tVar 2) (tCons (tC (.ref CP)) tNil))))
      (fun _ _ _ _ _ => (pe_and (pe_ca C3 (hr.mono (by decide)) (by rfl) (pa_cons (pv 1) pa_nil)) (pe_one (pe_callB (r := rIsi K) (id := "isinstance") call_isi (by rfl) T.n_isinstance (by decide +kernel) (pa_cons (pv 2) (pa_cons (pe_glob (v := .ref CP) rfl LP.gC rfl) pa_nil)))))))) pa_nil))))), ?_⟩
    refine ⟨_, rfl, _, _, _, _, _, rfl, .ty "dict", .base (.dK ha), ki_dict (.dict []), _, rfl, ?_⟩
    refine iteF ?_
    refine ⟨a, _, ha, trivial, fun od => ⟨_, rfl, a, od, _, rfl, upd_same, fun D hD => ?_⟩⟩
    have nD : D ≠ a := fun z => by rw [z, upd_same] at hD; cases hD
    refine lc_acc walk_items (fun i xs _ => xs = List.replicate i (V.bl true)) (fun _ _ _ _ _ h => h) rfl hD (fun i xs _ h => by rw [h, List.length_replicate]; exact Nat.le_refl _) (by rw [kdA_len]; exact Nat.le_trans hl (by decide)) (fun H' e => e _ _ upd_same) ?_ ?_
    · rintro i x H1 H2 xs hi e1 ⟨T', y1, y2, rfl, hT, rfl, g1, g2⟩ hp QY QN kY kN
      rw [kdA_len] at hi
      have k1 : y1 = .str ks[i].1 := by
        have z := g1
        dsimp only at z
        rw [kdA_at hi] at z
        exact (Option.some.inj z).symm
      have k2 : y2 = .ref (at_ ks[i].1) := by
        have z := g2
        dsimp only at z
        rw [kdA_at hi] at z
        exact (Option.some.inj z).symm
      subst k1
      subst k2
      obtain ⟨b1, b2⟩ := hks _ (List.getElem_mem hi)
      obtain ⟨dx, t, u, zs, us, h1, _⟩ := b2
      have na : at_ ks[i].1 ≠ a := fun z => by rw [z, ha] at h1; cases h1
      have h1' := e1 _ _ ((upd_ne na).trans h1)
      have eT := Ext.new (o := .tup [.str ks[i].1, .ref (at_ ks[i].1)]) hT
      refine ⟨T', _, rfl, SqT.of upd_same, rfl, _, _, rfl, _, _, rfl, rfl, rfl, ?_⟩
      refine tyes ?_
      refine ⟨_, rfl, _, _, rfl, .str _, (fun x hx => by cases hx; exact name_tx b1), fun H3 e3 => ⟨_, rfl, ?_⟩⟩
      rw [if_pos (show isNameD (.str ks[i].1) = true from b1)]
      refine ⟨_, rfl, _, _, _, _, _, rfl, .own CP, IP.ty LP.cl ((eT.trans e3) _ _ h1'), IP.kC, ?_⟩
      refine kY _ H3 (eT.trans e3) fun Hz _ hh => ?_
      rw [hh, List.replicate_succ']
    · rintro H1 xs e1 hx hp
      subst hp
      refine ⟨e1 _ _ upd_same, D, List.replicate (kdA ks at_).length true, rfl, SqL.of ?_, ?_⟩
      · rw [upd_ne nD, hx, List.map_replicate]
      · have e2 : Ext H (upd H1 a (.dK (kdA ks at_))) := fun b o z => by
          by_cases c : b = a
          · rw [c] at z ⊢
            rw [upd_same, ← ha, z]
          · rw [upd_ne c]
            exact e1 _ _ (by rw [upd_ne c]; exact z)
        have ea : (List.replicate (kdA ks at_).length true).all id = true := by simp
        rw [ea]
        exact q _ e2
/-! ### counts -/
def isCsD (m : Nat) : PyData → Bool
  | .tuple ds => decide (ds.length = m) && ds.all isNumD
  | _ => false
end
end K41

set_option Elab.async false
set_option linter.all false
set_option maxRecDepth 100000
set_option maxHeartbeats 4000000
namespace K41
open PySem PySem.Spec PyProof.Rows L2 Ol RZ
open TL (tl)
theorem lk_ne {m n : Str} {v : V} {r : List (Str × V)} (h : ¬ m = n) : ((n, v) :: r).lookup m = r.lookup m := by
  rw [List.lookup_cons, beq_eq_false_iff_ne.mpr h]
theorem lk_eq {n : Str} {v : V} {r : List (Str × V)} : ((n, v) :: r).lookup n = some v := List.lookup_cons_self
theorem putF_new {f : Str} {v : V} : ∀ {fs : List (Str × V)}, (∀ p ∈ fs, ¬ p.1 = f) → putF f v fs = fs ++ [(f, v)]
  | [], _ => rfl
  | (g, x) :: r, h => by
    show (if g = f then (g, v) :: r else (g, x) :: putF f v r) = _
    rw [if_neg (h _ List.mem_cons_self), putF_new fun p hp => h p (List.mem_cons_of_mem _ hp)]
    rfl
/-- the fields of a System -/
def sf (l s k t q : Addr) : List (Str × V) := [("_lanes", .ref l), ("_server", .ref s), ("_kinds", .ref k), ("_seats", .ref t), ("_spots", .ref q)]
theorem sf_l (l s k t q : Addr) : (sf l s k t q).lookup ("_lanes" : Str) = some (.ref l) := lk_eq
theorem sf_s (l s k t q : Addr) : (sf l s k t q).lookup ("_server" : Str) = some (.ref s) := (lk_ne (by decide +kernel)).trans lk_eq
theorem sf_k (l s k t q : Addr) : (sf l s k t q).lookup ("_kinds" : Str) = some (.ref k) := (lk_ne (by decide +kernel)).trans ((lk_ne (by decide +kernel)).trans lk_eq)
theorem sf_t (l s k t q : Addr) : (sf l s k t q).lookup ("_seats" : Str) = some (.ref t) := (lk_ne (by decide +kernel)).trans ((lk_ne (by decide +kernel)).trans ((lk_ne (by decide +kernel)).trans lk_eq))
theorem sf_q (l s k t q : Addr) : (sf l s k t q).lookup ("_spots" : Str) = some (.ref q) := (lk_ne (by decide +kernel)).trans ((lk_ne (by decide +kernel)).trans ((lk_ne (by decide +kernel)).trans ((lk_ne (by decide +kernel)).trans lk_eq)))
def noF (m : Str) : Prop := ¬ m = "_lanes" ∧ ¬ m = "_server" ∧ ¬ m = "_kinds" ∧ ¬ m = "_seats" ∧ ¬ m = "_spots"
instance (m : Str) : Decidable (noF m) := by unfold noF; infer_instance
theorem sf_no (l s k t q : Addr) {m : Str} (h : noF m) : (sf l s k t q).lookup m = none :=
  (lk_ne h.1).trans ((lk_ne h.2.1).trans ((lk_ne h.2.2.1).trans ((lk_ne h.2.2.2.1).trans (lk_ne h.2.2.2.2))))
/-- the seats -/
def seatsOf (ks : List Knd) : List (Str × Nat) := ks.flatMap fun k => (List.range (k.2.length - 1)).map fun i => (k.1, i + 1)
theorem seats_snoc (ks : List Knd) (k : Knd) : seatsOf (ks ++ [k]) = seatsOf ks ++ (List.range (k.2.length - 1)).map fun i => (k.1, i + 1) := by
  unfold seatsOf
  rw [List.flatMap_append]
  simp
def seatD (s : Str × Nat) : PyData := .tuple [.str s.1, .int (s.2 : Int)]
def seatK (s : Str × Nat) : List Key := [.inr s.1, .inl (s.2 : Int)]
theorem seatK_inj {a b : Str × Nat} (h : seatK a = seatK b) : a = b := by
  obtain ⟨a1, a2⟩ := a
  obtain ⟨b1, b2⟩ := b
  unfold seatK at h
  injection h with h1 h2
  injection h2 with h2 _
  have h1' := Sum.inr.inj h1
  have h2' := Sum.inl.inj h2
  dsimp only at h1' h2'
  have : a2 = b2 := by omega
  rw [h1', this]
theorem seat_inv {H : Hp} {v : V} {s : Str × Nat} (h : Dq H v (seatD s)) : ∃ a, v = .ref a ∧ H a = some (.tup [.str s.1, .int (s.2 : Int)]) := by
  obtain ⟨a, xs, ds, rfl, e, h1, h2⟩ := dq_tup h rfl
  unfold seatD at e
  cases e
  cases h2 with
  | cons a1 t1 => cases t1 with
    | cons a2 t2 =>
      cases t2
      cases a1
      cases a2
      exact ⟨a, rfl, h1⟩
def spotsT (ss : List (Str × Nat)) : List (List Key × V) := ss.zipIdx.map fun p => (seatK p.1, .int (p.2 : Int))
theorem spotsT_len (ss : List (Str × Nat)) : (spotsT ss).length = ss.length := by unfold spotsT; rw [List.length_map, List.length_zipIdx]
theorem spotsT_snoc (ss : List (Str × Nat)) (x : Str × Nat) : spotsT (ss ++ [x]) = spotsT ss ++ [(seatK x, .int (ss.length : Int))] := by
  unfold spotsT
  rw [List.zipIdx_append, List.map_append]
  simp
theorem valV_noneT {kvs : List (List Key × V)} {k : List Key} (h : ∀ p ∈ kvs, p.1 ≠ k) : valV kvs k = none := by
  induction kvs with
  | nil => rfl
  | cons p r ih => rw [valV_neg (h p List.mem_cons_self), ih fun q hq => h q (List.mem_cons_of_mem _ hq)]
theorem putK_newT {kvs : List (List Key × V)} {k : List Key} {v : V} (h : valV kvs k = none) : putK kvs k v = kvs ++ [(k, v)] := by
  unfold putK
  rw [valV_any, h]
  rfl
theorem spotsT_none {ss : List (Str × Nat)} {x : Str × Nat} (h : x ∉ ss) : valV (spotsT ss) (seatK x) = none := by
  refine valV_noneT fun p hp e => h ?_
  unfold spotsT at hp
  obtain ⟨y, hy, rfl⟩ := List.mem_map.mp hp
  have := seatK_inj e
  rw [← this]
  exact List.fst_mem_of_mem_zipIdx hy
theorem spotsT_val {ss : List (Str × Nat)} (hd : ss.Nodup) {i : Nat} (hi : i < ss.length) : valV (spotsT ss) (seatK ss[i]) = some (.int (i : Int)) := by
  unfold spotsT
  have h : ∀ (l : List (Str × Nat)) (k i : Nat) (hi : i < l.length), l.Nodup → valV ((l.zipIdx k).map fun p => ((seatK p.1, .int (p.2 : Int)) : List Key × V)) (seatK l[i]) = some (.int ((k + i : Nat) : Int)) := by
    intro l
    induction l with
    | nil => intro k i hi; cases hi
    | cons a l ih =>
      intro k i hi hn
      rw [List.zipIdx_cons, List.map_cons]
      cases i with
      | zero => exact valV_pos rfl
      | succ i =>
        rw [List.nodup_cons] at hn
        have hi' : i < l.length := by simpa using hi
        rw [valV_neg]
        · show valV _ (seatK l[i]) = _
          rw [ih (k + 1) i hi' hn.2]
          rw [show k + 1 + i = k + (i + 1) by omega]
        · intro z
          have z' : a = l[i] := seatK_inj z
          exact hn.1 (z' ▸ List.getElem_mem hi')
  have z := h ss 0 i hi hd
  rw [Nat.zero_add] at z
  exact z
/-- what holds of the parts of a System -/
structure GSys (ns : List Str) (sv : List Place) (ks : List Knd) : Prop where
  few : ks.length ≤ 3
  nd : (ks.map (·.1)).Nodup
  so : sortedS (ks.map (·.1)) = true
  nm : ∀ k ∈ ks, isNameS k.1 = true
  lk : ∀ k ∈ ks, ∀ x ∈ lanesP k.2, x ∈ ns
  ls : ∀ x ∈ lanesP sv, x ∈ ns
/-- a System of these lanes, this server and these kinds stands at p -/
def SysAt (S C CP : Addr) (H : Hp) (p : Addr) (ns : List Str) (bs : List Int) (sv : List Place) (ks : List Knd) : Prop :=
  ∃ dx lx sx kd st sp xs at_, H p = some (.ins S dx (sf lx sx kd st sp)) ∧ LanesAt C H lx ns bs ∧ ProgAt CP H sx sv ∧ H kd = some (.dK (kdA ks at_)) ∧ (∀ k ∈ ks, ProgAt CP H (at_ k.1) k.2) ∧
    H st = some (.tup xs) ∧ DqAll H xs ((seatsOf ks).map seatD) ∧ H sp = some (.dT (spotsT (seatsOf ks))) ∧ GSys ns sv ks
theorem Rd.up {H H' : Hp} {a : Addr} {u : HO} (e : Ext H H') : Rd H a u → Rd H' a u
  | .inl h => .inl (e _ _ h)
  | .inr ⟨o, h⟩ => .inr ⟨o, e _ _ h⟩
theorem SysAt.up {S C CP : Addr} {H H' : Hp} {p : Addr} {ns : List Str} {bs : List Int} {sv : List Place} {ks : List Knd} (e : Ext H H') : SysAt S C CP H p ns bs sv ks → SysAt S C CP H' p ns bs sv ks
  | ⟨dx, lx, sx, kd, st, sp, xs, at_, h1, h2, h3, h4, h5, h6, h7, h8, g⟩ => ⟨dx, lx, sx, kd, st, sp, xs, at_, e _ _ h1, h2.up e, h3.up e, e _ _ h4, fun k hk => (h5 k hk).up e, e _ _ h6, DqAll.up e h7, e _ _ h8, g⟩
/-- what the text says of the class System -/
structure ST (K : PySem.W.Frag) (mg : Str → Option Value) (S : Addr) : Prop where
  cl : Cls K S
  nL : NoAttr K S "_lanes"
  nS : NoAttr K S "_server"
  nK : NoAttr K S "_kinds"
  nT : NoAttr K S "_seats"
  nQ : NoAttr K S "_spots"
  gS : mg "System" = some (.ref S)
/-! ### the kinds, sorted -/
def plOf (kx : List Knd) (x : Str) : List Place := ((kx.find? fun k => decide (k.1 = x)).map (·.2)).getD []
theorem plOf_mem {kx : List Knd} (hd : (kx.map (·.1)).Nodup) {k : Knd} (h : k ∈ kx) : plOf kx k.1 = k.2 := by
  induction kx with
  | nil => cases h
  | cons a kx ih =>
    rw [List.map_cons, List.nodup_cons] at hd
    unfold plOf
    rw [List.find?_cons]
    rcases List.mem_cons.mp h with rfl | h
    · rw [decide_eq_true rfl]
      rfl
    · have c : ¬ a.1 = k.1 := fun z => hd.1 (by rw [z]; exact List.mem_map_of_mem h)
      rw [decide_eq_false c]
      exact ih hd.2 h
def sortedK (kx : List Knd) (us : List Str) : List Knd := us.map fun x => (x, plOf kx x)
theorem sortedK_names (kx : List Knd) (us : List Str) : (sortedK kx us).map (·.1) = us := by
  unfold sortedK
  rw [List.map_map]
  exact List.map_id us
theorem sortedK_perm {kx : List Knd} {us : List Str} (hd : (kx.map (·.1)).Nodup) (hp : us.Perm (kx.map (·.1))) : (sortedK kx us).Perm kx := by
  have h := hp.map fun x => ((x, plOf kx x) : Knd)
  have e : (kx.map (·.1)).map (fun x => ((x, plOf kx x) : Knd)) = kx := by
    rw [List.map_map]
    have : kx.map ((fun x => ((x, plOf kx x) : Knd)) ∘ fun k => k.1) = kx.map id := List.map_congr_left fun k hk => by
      show (k.1, plOf kx k.1) = k
      rw [plOf_mem hd hk]
    rw [this, List.map_id]
  rw [e] at h
  exact h
theorem seats_in {ks : List Knd} {s : Str × Nat} (h : s ∈ seatsOf ks) : s.1 ∈ ks.map (·.1) := by
  unfold seatsOf at h
  obtain ⟨k, hk, hs⟩ := List.mem_flatMap.mp h
  obtain ⟨i, _, rfl⟩ := List.mem_map.mp hs
  exact List.mem_map_of_mem hk
theorem seats_nodup {ks : List Knd} (h : (ks.map (·.1)).Nodup) : (seatsOf ks).Nodup := by
  induction ks with
  | nil => exact List.nodup_nil
  | cons k ks ih =>
    rw [List.map_cons, List.nodup_cons] at h
    show (((List.range (k.2.length - 1)).map fun i => (k.1, i + 1)) ++ seatsOf ks).Nodup
    refine List.nodup_append.mpr ⟨?_, ih h.2, fun a ha b hb e => ?_⟩
    · refine List.pairwise_map.mpr (List.nodup_range.imp ?_)
      intro a b hab e
      injection e with _ e
      omega
    · obtain ⟨i, _, rfl⟩ := List.mem_map.mp ha
      subst e
      exact h.1 (seats_in hb)
theorem seats_len {ks : List Knd} (h : ∀ k ∈ ks, k.2.length ≤ 6) : (seatsOf ks).length ≤ 5 * ks.length := by
  induction ks with
  | nil => exact Nat.le_refl _
  | cons k ks ih =>
    have := ih fun a ha => h a (List.mem_cons_of_mem _ ha)
    have := h k List.mem_cons_self
    show (((List.range (k.2.length - 1)).map fun i => (k.1, i + 1)) ++ seatsOf ks).length ≤ _
    rw [List.length_append, List.length_map, List.length_range, List.length_cons]
    omega
end K41

set_option Elab.async false
set_option linter.all false
set_option maxRecDepth 100000
set_option maxHeartbeats 4000000
namespace K41
open PySem PySem.Spec PyProof.Rows L2 Ol RZ
open TL (tl)
section
variable {P : Program} {w : World} {K : PySem.W.Frag} {mg : Str → Option Value} {base : Heap} {C CP S : Addr}
theorem n_ls : ¬ ("_lanes" : Str) = "_server" := by decide +kernel
theorem n_lk : ¬ ("_lanes" : Str) = "_kinds" := by decide +kernel
theorem n_sk : ¬ ("_server" : Str) = "_kinds" := by decide +kernel
theorem n_lt : ¬ ("_lanes" : Str) = "_seats" := by decide +kernel
theorem n_st : ¬ ("_server" : Str) = "_seats" := by decide +kernel
theorem n_kt : ¬ ("_kinds" : Str) = "_seats" := by decide +kernel
theorem n_lq : ¬ ("_lanes" : Str) = "_spots" := by decide +kernel
theorem n_sq : ¬ ("_server" : Str) = "_spots" := by decide +kernel
theorem n_kq : ¬ ("_kinds" : Str) = "_spots" := by decide +kernel
theorem n_tq : ¬ ("_seats" : Str) = "_spots" := by decide +kernel
theorem seat_step (a : List (Str × Nat)) (g : Nat → Str × Nat) (j : Nat) : (a ++ (List.range (j + 1)).map g).map seatD = (a ++ (List.range j).map g).map seatD ++ [seatD (g j)] := by
  rw [List.range_succ]
  simp
mutual
theorem dq_ins1 {H : Hp} {p S dx : Addr} {fs fs2 : List (Str × V)} (hp : H p = some (.ins S dx fs)) : ∀ {v : V} {d : PyData}, Dq H v d → Dq (upd H p (.ins S dx fs2)) v d
  | _, _, .non => .non
  | _, _, .bl b => .bl b
  | _, _, .int i => .int i
  | _, _, .str x => .str x
  | _, _, .lst h t => .lst ((upd_ne (fun z => by rw [z, hp] at h; cases h)).trans h) (dq_ins hp t)
  | _, _, .tup h t => .tup ((upd_ne (fun z => by rw [z, hp] at h; cases h)).trans h) (dq_ins hp t)
  | _, _, .dct h t => .dct ((upd_ne (fun z => by rw [z, hp] at h; cases h)).trans h) (dq_ins hp t)
theorem dq_ins {H : Hp} {p S dx : Addr} {fs fs2 : List (Str × V)} (hp : H p = some (.ins S dx fs)) : ∀ {vs : List V} {ds : List PyData}, DqAll H vs ds → DqAll (upd H p (.ins S dx fs2)) vs ds
  | _, _, .nil => .nil
  | _, _, .cons h t => .cons (dq_ins1 hp h) (dq_ins hp t)
end
abbrev cS (i : Nat) : Stmt := inClass (topS 47) i
abbrev nSI : List Str := ["self", "lanes", "server", "kinds", "kind", "place", "seat", "spot"]
theorem sc_sys : FnScope nSI ["self", "lanes", "server", "kinds"] (defScope (cS 0)) := ⟨rfl, rfl, rfl, by decide +kernel, rfl, by decide +kernel, by decide +kernel⟩
def spSys (S C CP : Addr) : Sp := fun vs H Q _ => ∃ (H0 : Hp) (p dx lx sx a : Addr) (ns : List Str) (bs : List Int) (sv : List Place) (kx : List Knd) (at_ : Str → Addr), vs = [.ref p, .ref lx, .ref sx, .ref a] ∧ H0 p = none ∧ Ext H0 H ∧ H p = some (.ins S dx []) ∧
  LanesAt C H0 lx ns bs ∧ ProgAt CP H0 sx sv ∧ H0 a = some (.dK (kdA kx at_)) ∧ kx.length ≤ 3 ∧ (kx.map (·.1)).Nodup ∧ (∀ k ∈ kx, isNameS k.1 = true ∧ ProgAt CP H0 (at_ k.1) k.2 ∧ ∀ x ∈ lanesP k.2, x ∈ ns) ∧ (∀ x ∈ lanesP sv, x ∈ ns) ∧
  ∀ H' ks, Ext H0 H' → ks.Perm kx → SysAt S C CP H' p ns bs sv ks → Q .non H'
theorem ok_sys {f : Addr} {fd : FuncData} (F : Fun K "__init__" "System.__init__" (cS 0) f fd) (T : BT mg) (SL : ST K mg S) (LL : LT K mg C) (LP : PT K mg CP) (IL : IsC K C) (IP : IsC K CP)
    (CK : Ca P w K mg base 2 "is_kinds" ["thing"] (spKinds CP)) (CL : Ca P w K mg base 3 "check_lanes" ["lanes", "programs"] (spCkL C CP)) (PZ : Pr P w K mg base CP 1 "size" (spSz CP)) :
    FnOk P w K mg base CX0 4 f fd ["self", "lanes", "server", "kinds"] (spSys S C CP) := by
  obtain ⟨xZ, fZ, fdZ, FZ, prZ, bZ⟩ := PZ.has
  refine F.ok sc_sys (fun vs H Q E h => ?_) (fun cdv A outer s H vs Q E hr h => ?_)
  · obtain ⟨H0, p, dx, lx, sx, a, ns, bs, sv, kx, at_, rfl, _⟩ := h
    rfl
  · obtain ⟨H0, p, dx, lx, sx, a, ns, bs, sv, kx, at_, rfl, hp0, e0, hp, hL, hSv, ha, hl3, hnd, hks, hls, q⟩ := h
    refine ⟨_, (pss_cons (ps_if (pt_not (pt_val (pe_callB call_isi (by rfl) T.n_isinstance (by decide +kernel) (pa_cons (pv 1) (pa_cons (pe_glob (v := .ref C) rfl LL.gC rfl) pa_nil))))) (pss_one ps_never) pss_nil)
      (pss_cons (ps_if (pt_not (pt_val (pe_callB call_isi (by rfl) T.n_isinstance (by decide +kernel) (pa_cons (pv 2) (pa_cons (pe_glob (v := .ref CP) rfl LP.gC rfl) pa_nil))))) (pss_one ps_never) pss_nil)
      (pss_cons (ps_if (pt_not (pt_val (pe_ca CK (hr.mono (by decide)) (by rfl) (pa_cons (pv 3) pa_nil)))) (pss_one ps_never) pss_nil)
      (pss_cons (ps_expr (pe_ca CL (hr.mono (by decide)) (by rfl) (pa_cons (pv 1) (pa_cons (pe_lst (pa_cons (pv 2) (StX.pa_star (pe_callTy (call_lstV rfl) (by rfl) T.n_list (by decide +kernel) (pa_cons (pe_bm0 PySem.F.plainAttrs_dict PySem.F.slot_dict_values PySem.F.type_dict_values mt_vwV (pv 3)) pa_nil)) pa_nil))) pa_nil))))
      (pss_cons (ps_fld (pv 0) (pv 1) rfl)
      (pss_cons (ps_fld (pv 0) (pv 2) rfl)
      (pss_cons (ps_fld (pv 0) (pe_dc (own := [("kind", 4)]) (g := gName 4) (tt := tYes) rfl sc_sys.nd (pi_list (pe_callB (call_sortedD rfl) (by rfl) T.n_sorted (by decide +kernel) (pa_cons (pv 3) pa_nil))) (blkOk_by (N := nSI) (sc := defScope (cS 0)) (by decide +kernel)) (fun _ _ _ _ _ => pg_name (i := 4) sc_sys.nd rfl (.inl rfl)) (fun _ _ _ _ _ => pts_nil) (fun _ _ _ _ _ => pv 4) (fun _ _ _ _ _ => pe_dget (hu_of hr) (pv 3) (pv 4) (fun _ _ => rfl))) rfl)
      (pss_cons (ps_fld (pv 0) (pe_callTy call_tuple_of (by rfl) T.n_tuple (by decide +kernel) (pa_cons (pe_lock (pe_lc2 (own := [("kind", 4), ("place", 5)]) (vs1 := [5]) (g := gName 4) (g1 := gName 5) (tt := tYes) (tt1 := tYes) (wi1 := iRng2 (tCons (tC (.int 1)) (tCons (tProp CP (spSz CP) [] E0 (tDGet (tVar 3) (tVar 4))) tNil))) (te := tTup (tCons (tVar 4) (tCons (tVar 5) tNil))) rfl sc_sys.nd (pi_keys (pe_fld (pv 0) rfl)) (blkOk_by (N := nSI) (sc := defScope (cS 0)) (by decide +kernel)) (by decide)
          (fun _ _ _ _ _ => pg_name (i := 4) sc_sys.nd rfl (.inl rfl)) (fun _ _ _ _ _ => pts_nil)
          (fun _ _ _ _ _ => pi_range2 (by rfl) T.n_range (pa_cons pe_int (pa_cons (pe_prop (pe_dget (hu_of hr) (pv 3) (pv 4) (fun _ _ => rfl)) LP.cl prZ FZ (hr.mono (by decide)) bZ .nil pass0 rfl) pa_nil)))
          (fun _ _ _ _ _ => pg_name (i := 5) sc_sys.nd rfl (.inl rfl)) (fun _ _ _ _ _ => pts_nil) (fun _ _ _ _ _ => pe_tup (pa_cons (pv 4) (pa_cons (pv 5) pa_nil))))) pa_nil)) rfl)
      (pss_one (ps_fld (pv 0) (pe_dcT (own := [("seat", 6), ("spot", 7)]) (g := gTup K 2 (gCons (gName 7) (gCons (gName 6) gNil))) (tt := tYes) rfl (hu_of hr) sc_sys.nd (pi_enumT (by rfl) LL.n_enum (pa_cons (pe_fld (pv 0) rfl) pa_nil)) (blkOk_by (N := nSI) (sc := defScope (cS 0)) (by decide +kernel)) (fun _ _ _ _ _ => pg_tup (by rfl) (pgs_cons (pg_name (i := 7) sc_sys.nd rfl (.inl rfl)) (pgs_cons (pg_name (i := 6) sc_sys.nd rfl (.inl rfl)) pgs_nil))) (fun _ _ _ _ _ => pts_nil) (fun _ _ _ _ _ => pv 6) (fun _ _ _ _ _ => pv 7)) rfl)))))))))), ?_⟩
    have hL1 := hL.up e0
    have hS1 := hSv.up e0
    obtain ⟨dxl, ln, lb, lsp, l1, _⟩ := id hL1
    obtain ⟨dxs, t0, u0, xs0, us0, s1, _⟩ := id hS1
    refine ⟨_, rfl, _, _, _, _, _, rfl, .own C, IL.ty LL.cl l1, IL.kC, _, rfl, ?_⟩
    refine iteF ?_
    refine ⟨_, rfl, _, _, _, _, _, rfl, .own CP, IP.ty LP.cl s1, IP.kC, _, rfl, ?_⟩
    refine iteF ?_
    refine ⟨_, rfl, a, kx, at_, rfl, e0 _ _ ha, hl3, fun k hk => ⟨(hks k hk).1, (hks k hk).2.1.up e0⟩, fun H1 e1 => ⟨_, rfl, ?_⟩⟩
    refine iteF ?_
    have e01 := e0.trans e1
    -- the lanes of all programs
    refine ⟨_, rfl, _, rfl, _, rfl, .inr (.inr (.inl ⟨rfl, .inl ⟨_, e01 _ _ ha⟩⟩)), a, _, rfl, rfl, e01 _ _ ha, fun pw hw => ?_⟩
    have ew := Ext.new (o := viewV pw a) hw
    refine ⟨pw, a, _, rfl, upd_same, ew _ _ (e01 _ _ ha), fun l hl => ?_⟩
    have el := Ext.new (o := .lst ((kdA kx at_).map (·.2))) hl
    refine ⟨l, _, rfl, .inr (SqL.of upd_same), ?_⟩
    have lk := kdA_len kx at_
    refine ⟨by show (V.ref sx :: ((kdA kx at_).map (·.2) ++ [])).length ≤ sizeLine; rw [List.length_cons, List.append_nil, List.length_map, lk]; exact Nat.le_trans (Nat.succ_le_succ hl3) (by decide), fun l2 hl2 => ?_⟩
    have el2 := Ext.new (o := .lst (V.ref sx :: ((kdA kx at_).map (·.2) ++ []))) hl2
    have e2 := (ew.trans el).trans el2
    have e02 := e01.trans e2
    refine ⟨lx, l2, ns, bs, sx :: kx.map fun k => at_ k.1, rfl, hL.up e02, ?_, by rw [List.length_cons, List.length_map]; omega, ?_, fun H2 e3 => ?_⟩
    · rw [upd_same]
      congr 2
      rw [List.map_cons, List.append_nil]
      unfold kdA
      rw [List.map_map, List.map_map]
      rfl
    · intro z hz
      rcases List.mem_cons.mp hz with rfl | hz
      · exact ⟨sv, hSv.up e02, hls⟩
      · obtain ⟨k, hk, rfl⟩ := List.mem_map.mp hz
        obtain ⟨_, b2, b3⟩ := hks k hk
        exact ⟨k.2, b2.up e02, b3⟩
    have hp2 := (e1.trans (e2.trans e3)) _ _ hp
    have e03 := e02.trans e3
    -- the lanes, the server
    refine ⟨_, rfl, _, rfl, p, S, dx, [], rfl, hp2, SL.cl, SL.nL, (by show 0 < 1000; decide), ?_⟩
    have pf1 : putF "_lanes" (V.ref lx) [] = ([("_lanes", V.ref lx)] : List (Str × V)) := putF_new (fs := []) fun p hp => by cases hp
    rw [pf1]
    have e4 := Ext.mut (o := .ins S dx [("_lanes", V.ref lx)]) e03 hp0
    have h4p := upd_same (H := H2) (a := p) (o := .ins S dx [("_lanes", V.ref lx)])
    generalize upd H2 p (.ins S dx [("_lanes", V.ref lx)]) = H4 at e4 h4p ⊢
    refine ⟨_, rfl, _, rfl, p, S, dx, _, rfl, h4p, SL.cl, SL.nS, (by show 1 < 1000; decide), ?_⟩
    have pf2 : putF "_server" (V.ref sx) [("_lanes", V.ref lx)] = ([("_lanes", V.ref lx), ("_server", V.ref sx)] : List (Str × V)) := putF_new fun p hp => by
      cases List.mem_singleton.mp hp
      exact n_ls
    rw [pf2]
    have e5 := Ext.mut (o := .ins S dx [("_lanes", V.ref lx), ("_server", V.ref sx)]) e4 hp0
    have h5p := upd_same (H := H4) (a := p) (o := .ins S dx [("_lanes", V.ref lx), ("_server", V.ref sx)])
    generalize upd H4 p (.ins S dx [("_lanes", V.ref lx), ("_server", V.ref sx)]) = H5 at e5 h5p ⊢
    -- the kinds
    refine ⟨_, rfl, a, _, kx.map (·.1), rfl, Rd.of (e5 _ _ ha), kdA_keys kx at_, by rw [List.length_map]; omega, fun us l3 hperm hso hl3' => ?_⟩
    have e6 := Ext.new (o := .lst (us.map V.str)) hl3'
    have k6 := upd_same (H := H5) (a := l3) (o := HO.lst (us.map V.str))
    have h6p := e6 _ _ h5p
    have e06 := e5.trans e6
    generalize upd H5 l3 (.lst (us.map V.str)) = H6 at e06 k6 h6p ⊢
    clear e6
    have hunod : us.Nodup := hperm.nodup_iff.mpr hnd
    have lus : us.length = kx.length := by rw [hperm.length_eq, List.length_map]
    have knm := sortedK_names kx us
    have kpm := sortedK_perm hnd hperm
    have lks : (sortedK kx us).length = us.length := by unfold sortedK; rw [List.length_map]
    generalize hks0 : sortedK kx us = ks at knm kpm lks
    have ksn : ∀ i (h : i < ks.length) (h2 : i < us.length), us[i] = ks[i].1 := fun i h h2 => by
      have : (ks.map (·.1))[i]? = us[i]? := by rw [knm]
      rw [List.getElem?_map, List.getElem?_eq_getElem h, List.getElem?_eq_getElem h2] at this
      exact (Option.some.inj this).symm
    have ml : (us.map V.str).length = us.length := List.length_map ..
    refine ⟨l3, rfl, ⟨_, SqL.of k6⟩, fun kd hkd => ?_⟩
    have hkd0 : H0 kd = none := e06.free hkd
    refine dc_it (w := walk_list (xs := us.map V.str)) (fun i Hi => Ext H6 Hi ∧ Hi kd = some (.dK (kdA (ks.take i) at_))) ⟨Ext.new hkd, by rw [List.take_zero]; exact upd_same⟩ (fun i Hi _ h => SqL.of (h.1 _ _ k6)) ?_ ?_
    · rintro i v Hi H' hi ⟨ei, hdi⟩ ⟨rfl, hvi⟩
      rw [ml] at hi
      rw [List.getElem?_map, List.getElem?_eq_getElem hi] at hvi
      cases hvi
      have hi2 : i < ks.length := by omega
      refine ⟨rfl, ?_⟩
      refine tyes ?_
      have mm : us[i] ∈ kx.map (·.1) := hperm.mem_iff.mp (List.getElem_mem hi)
      have g := DGet.k (k := .inr us[i]) ((e06.trans ei) _ _ ha)
      rw [kdA_val, if_pos mm] at g
      have hni : us[i] ∉ (ks.take i).map (·.1) := fun z => by
        rw [List.map_take, knm] at z
        obtain ⟨j, hj, ej⟩ := List.getElem_of_mem z
        rw [List.length_take] at hj
        rw [List.getElem_take] at ej
        exact List.pairwise_iff_getElem.mp hunod j i (by omega) hi (by omega) ej
      refine ⟨_, rfl, _, rfl, _, rfl, a, _, rfl, g, kdA (ks.take i) at_, .inr us[i], rfl, hdi, ?_, Ext.mut ei hkd, ?_⟩
      · rw [kdA_len, List.length_take]
        exact Nat.lt_of_le_of_lt (show _ ≤ 60 by omega) (by decide)
      · rw [upd_same, putK_new (by rw [kdA_val, if_neg hni]), List.take_add_one, List.getElem?_eq_getElem hi2]
        show _ = some (HO.dK (kdA (ks.take i ++ [ks[i]]) at_))
        unfold kdA
        rw [List.map_append, ksn i hi2 hi]
        rfl
    rintro H7 ⟨e67, h7k⟩
    rw [ml, ← lks, List.take_length] at h7k
    have e07 := e06.trans e67
    have h7p := e67 _ _ h6p
    have nkp : p ≠ kd := fun z => by rw [z, hkd] at h6p; cases h6p
    have nka : a ≠ kd := fun z => by rw [z, hkd0] at ha; cases ha
    refine ⟨_, rfl, p, S, dx, _, rfl, h7p, SL.cl, SL.nK, (by show 2 < 1000; decide), ?_⟩
    have pf3 : putF "_kinds" (V.ref kd) [("_lanes", V.ref lx), ("_server", V.ref sx)] = ([("_lanes", V.ref lx), ("_server", V.ref sx), ("_kinds", V.ref kd)] : List (Str × V)) := putF_new fun p hp => by
      simp only [List.mem_cons, List.not_mem_nil, or_false] at hp
      rcases hp with rfl | rfl
      · exact n_lk
      · exact n_sk
    rw [pf3]
    have e8 := Ext.mut (o := .ins S dx [("_lanes", V.ref lx), ("_server", V.ref sx), ("_kinds", V.ref kd)]) e07 hp0
    have h8p := upd_same (H := H7) (a := p) (o := .ins S dx [("_lanes", V.ref lx), ("_server", V.ref sx), ("_kinds", V.ref kd)])
    have h8k : (upd H7 p (.ins S dx [("_lanes", V.ref lx), ("_server", V.ref sx), ("_kinds", V.ref kd)])) kd = some (.dK (kdA ks at_)) := by rw [upd_ne (Ne.symm nkp)]; exact h7k
    generalize upd H7 p (.ins S dx [("_lanes", V.ref lx), ("_server", V.ref sx), ("_kinds", V.ref kd)]) = H8 at e8 h8p h8k ⊢
    have hks' : ∀ k ∈ ks, isNameS k.1 = true ∧ ProgAt CP H0 (at_ k.1) k.2 ∧ ∀ x ∈ lanesP k.2, x ∈ ns := fun k hk => hks k (kpm.mem_iff.mp hk)
    have lk3 : ks.length ≤ 3 := by omega
    have six : ∀ k ∈ ks, k.2.length ≤ 6 := fun k hk => by
      obtain ⟨_, _, _, _, _, _, _, _, _, _, _, _, _, ok⟩ := (hks' k hk).2.1
      exact ok.few
    -- the seats
    have lkk : ([("_lanes", V.ref lx), ("_server", V.ref sx), ("_kinds", V.ref kd)] : List (Str × V)).lookup ("_kinds" : Str) = some (.ref kd) := (lk_ne (by decide +kernel)).trans ((lk_ne (by decide +kernel)).trans lk_eq)
    refine ⟨kd, _, h8k, trivial, fun od => ?_⟩
    have e9 := Ext.mut (o := .frz od (.dK (kdA ks at_))) e8 hkd0
    have h9p : (upd H8 kd (.frz od (.dK (kdA ks at_)))) p = some (.ins S dx [("_lanes", V.ref lx), ("_server", V.ref sx), ("_kinds", V.ref kd)]) := by rw [upd_ne nkp]; exact h8p
    have h9k := upd_same (H := H8) (a := kd) (o := .frz od (.dK (kdA ks at_)))
    have e89 : ∀ b o, b ≠ kd → H8 b = some o → (upd H8 kd (.frz od (.dK (kdA ks at_)))) b = some o := fun b o n z => by rw [upd_ne n]; exact z
    generalize upd H8 kd (.frz od (.dK (kdA ks at_))) = H9 at e9 h9p h9k e89 ⊢
    refine ⟨_, rfl, p, S, dx, _, _, rfl, h9p, SL.cl, SL.nK, lkk, kd, od, rfl, .inl ⟨_, h9k, fun D hD => ?_⟩⟩
    have nDk : D ≠ kd := fun z => by rw [z, h9k] at hD; cases hD
    have hD0 : H0 D = none := e9.free hD
    refine lc2_acc (walk_keys (kvs := kdA ks at_)) (fun i j ys Hd => i ≤ 3 ∧ j ≤ 5 ∧ DqAll (del Hd kd) ys (((seatsOf (ks.take i)) ++ (List.range j).map fun t => (((ks[i]?.map (·.1)).getD Str.empty, t + 1) : Str × Nat)).map seatD))
      (fun _ _ _ _ _ e ⟨h1, h2, h⟩ => ⟨h1, h2, DqAll.up (ext_del e) h⟩) ⟨by decide, by decide, .nil⟩ hD
      (fun i j ys _ ⟨h1, h2, h⟩ => by
        rw [h.len, List.length_map, List.length_append, List.length_map, List.length_range]
        have z := seats_len (ks := ks.take i) fun k hk => six k (List.mem_of_mem_take hk)
        rw [List.length_take] at z
        exact Nat.lt_of_le_of_lt (show _ ≤ 60 by omega) (by decide)) (fun H' e => e _ _ h9k) ?_ ?_
    · rintro i x Hi H' ys hi ei hy ⟨rfl, kk, vv, hkv, rfl⟩ ⟨b1, b2, hz⟩ R hR
      rw [kdA_len] at hi
      rw [kdA_at hi] at hkv
      cases hkv
      have e0i := e9.trans ei
      obtain ⟨_, c2, _⟩ := hks' _ (List.getElem_mem hi)
      have c2' := c2.up e0i
      have six' := six _ (List.getElem_mem hi)
      obtain ⟨dk, t1, u1, xs1, us1, k1, _⟩ := id c2'
      have mm : ks[i].1 ∈ kx.map (·.1) := (kpm.map (·.1)).mem_iff.mp (List.mem_map_of_mem (List.getElem_mem hi))
      have g := DGet.k (k := .inr ks[i].1) (e0i _ _ ha)
      rw [kdA_val, if_pos mm] at g
      refine ⟨rfl, ?_⟩
      refine ⟨_, rfl, _, rfl, a, _, rfl, g, at_ ks[i].1, dk, _, rfl, k1, at_ ks[i].1, ks[i].2, rfl, c2', 1, (ks[i].2.length : Int), rfl, ⟨by decide, by decide, by omega, by omega⟩, hR _ _ _ ⟨Ext.refl _, ((ks[i].2.length : Int) - 1).toNat, _, _, walk_range, fun _ _ => trivial, ?_, ?_⟩⟩
      · rintro zs Hz ⟨_, _, h⟩
        refine ⟨by omega, by decide, ?_⟩
        rw [List.take_add_one, List.getElem?_eq_getElem hi, Option.toList_some, seats_snoc]
        rw [List.getElem?_eq_getElem hi] at h
        have ez : ((ks[i].2.length : Int) - 1).toNat = ks[i].2.length - 1 := by omega
        rw [ez] at h
        rw [List.range_zero, List.map_nil, List.append_nil]
        exact h
      · rintro j y Ha Hb zs hj eH ha2 ⟨rfl, rfl⟩ ⟨_, _, h⟩ QY QN kY kN
        refine ⟨rfl, ?_⟩
        refine tyes ?_
        refine ⟨_, rfl, _, rfl, by show 2 ≤ sizeLine; decide, fun t ht => ?_⟩
        have et := Ext.new (o := .tup [.str ks[i].1, .int (1 + (j : Int))]) ht
        have n1 : t ≠ kd := fun z => by
          have := eH _ _ (by rw [del_ne (Ne.symm nDk)]; exact ei _ _ h9k)
          rw [z, this] at ht
          cases ht
        have n2 : t ≠ D := fun z => by rw [z, ha2] at ht; cases ht
        refine kY _ _ et ⟨b1, by omega, ?_⟩
        rw [seat_step]
        refine dq_app (DqAll.up (ext_del (ext_del et)) h) (.cons ?_ .nil)
        rw [List.getElem?_eq_getElem hi]
        show Dq _ _ (.tuple [.str ks[i].1, .int ((j + 1 : Nat) : Int)])
        have ej : (1 + (j : Int)) = ((j + 1 : Nat) : Int) := by omega
        rw [← ej]
        exact .tup (by rw [del_ne n1, del_ne n2]; exact upd_same) (.cons (.str _) (.cons (.int _) .nil))
    rintro H10 ys e10 h10D ⟨_, _, hz⟩
    rw [kdA_len, List.take_length, List.range_zero, List.map_nil, List.append_nil] at hz
    have h10p := e10 _ _ h9p
    have h10k := e10 _ _ h9k
    refine ⟨h10k, D, _, rfl, .inl ⟨SqL.of ((upd_ne nDk).trans h10D), fun st hst => ?_⟩⟩
    have nks : st ≠ kd := fun z => by rw [z, upd_same] at hst; cases hst
    have e11 : Ext (del H10 kd) (upd (upd H10 kd (.dK (kdA ks at_))) st (.tup ys)) := fun b o z => by
      have c : b ≠ kd := fun c => by rw [c, del_same] at z; cases z
      rw [del_ne c] at z
      exact Ext.new hst _ _ (by rw [upd_ne c]; exact z)
    have e011 : Ext H0 (upd (upd H10 kd (.dK (kdA ks at_))) st (.tup ys)) := (ext_to (e9.trans e10) hkd0).trans e11
    have h11p := e11 _ _ (by rw [del_ne nkp]; exact h10p)
    have h11s := upd_same (H := upd H10 kd (.dK (kdA ks at_))) (a := st) (o := HO.tup ys)
    have h11k : (upd (upd H10 kd (.dK (kdA ks at_))) st (.tup ys)) kd = some (.dK (kdA ks at_)) := by rw [upd_ne (Ne.symm nks)]; exact upd_same
    have h11z := DqAll.up e11 hz
    generalize upd (upd H10 kd (.dK (kdA ks at_))) st (.tup ys) = H11 at e011 h11p h11s h11k h11z ⊢
    refine ⟨_, rfl, p, S, dx, _, rfl, h11p, SL.cl, SL.nT, (by show 3 < 1000; decide), ?_⟩
    have pf4 : putF "_seats" (V.ref st) [("_lanes", V.ref lx), ("_server", V.ref sx), ("_kinds", V.ref kd)] = ([("_lanes", V.ref lx), ("_server", V.ref sx), ("_kinds", V.ref kd), ("_seats", V.ref st)] : List (Str × V)) := putF_new fun p hp => by
      simp only [List.mem_cons, List.not_mem_nil, or_false] at hp
      rcases hp with rfl | rfl | rfl
      · exact n_lt
      · exact n_st
      · exact n_kt
    rw [pf4]
    have nps : p ≠ st := fun z => by rw [z, h11s] at h11p; cases h11p
    have e12 := Ext.mut (o := .ins S dx [("_lanes", V.ref lx), ("_server", V.ref sx), ("_kinds", V.ref kd), ("_seats", V.ref st)]) e011 hp0
    have h12p := upd_same (H := H11) (a := p) (o := .ins S dx [("_lanes", V.ref lx), ("_server", V.ref sx), ("_kinds", V.ref kd), ("_seats", V.ref st)])
    have h12s : (upd H11 p (.ins S dx [("_lanes", V.ref lx), ("_server", V.ref sx), ("_kinds", V.ref kd), ("_seats", V.ref st)])) st = some (.tup ys) := by rw [upd_ne (Ne.symm nps)]; exact h11s
    have h12k : (upd H11 p (.ins S dx [("_lanes", V.ref lx), ("_server", V.ref sx), ("_kinds", V.ref kd), ("_seats", V.ref st)])) kd = some (.dK (kdA ks at_)) := by rw [upd_ne (Ne.symm nkp)]; exact h11k
    have h12z : DqAll (upd H11 p (.ins S dx [("_lanes", V.ref lx), ("_server", V.ref sx), ("_kinds", V.ref kd), ("_seats", V.ref st)])) ys ((seatsOf ks).map seatD) := dq_ins h11p h11z
    generalize upd H11 p (.ins S dx [("_lanes", V.ref lx), ("_server", V.ref sx), ("_kinds", V.ref kd), ("_seats", V.ref st)]) = H12 at e12 h12p h12s h12k h12z ⊢
    have lys : ys.length = (seatsOf ks).length := by rw [h12z.len, List.length_map]
    have knd : (ks.map (·.1)).Nodup := by rw [knm]; exact hunod
    have snd := seats_nodup knd
    have lkt : ([("_lanes", V.ref lx), ("_server", V.ref sx), ("_kinds", V.ref kd), ("_seats", V.ref st)] : List (Str × V)).lookup ("_seats" : Str) = some (.ref st) := (lk_ne (by decide +kernel)).trans ((lk_ne (by decide +kernel)).trans ((lk_ne (by decide +kernel)).trans lk_eq))
    -- their places
    refine ⟨_, rfl, p, S, dx, _, _, rfl, h12p, SL.cl, SL.nT, lkt, st, _, rfl, SqT.of h12s, fun D2 hD2 => ?_⟩
    refine dcT_it (w := walk_enumT (xs := ys)) (fun i Hi => Ext H12 Hi ∧ Hi D2 = some (.dT (spotsT ((seatsOf ks).take i)))) ⟨Ext.new hD2, upd_same⟩ (fun i Hi _ h => SqT.of (h.1 _ _ h12s)) ?_ ?_
    · rintro i v Hi H' hi ⟨ei, hdi⟩ ⟨T', y1, y2, rfl, hT, rfl, g1, g2⟩
      have hi2 : i < (seatsOf ks).length := by omega
      cases g1
      dsimp only at g2
      obtain ⟨v', hv', dv⟩ := DqAll_get h12z i (seatD (seatsOf ks)[i]) (by rw [List.getElem?_map, List.getElem?_eq_getElem hi2]; rfl)
      rw [g2] at hv'
      cases hv'
      obtain ⟨b, rfl, hb⟩ := seat_inv dv
      have eT := Ext.new (o := .tup [.int (i : Int), .ref b]) hT
      refine ⟨T', _, rfl, SqT.of upd_same, rfl, _, _, rfl, _, _, rfl, rfl, rfl, ?_⟩
      refine tyes ?_
      have hns : (seatsOf ks)[i] ∉ (seatsOf ks).take i := fun z => by
        obtain ⟨j, hj, ej⟩ := List.getElem_of_mem z
        rw [List.length_take] at hj
        rw [List.getElem_take] at ej
        exact List.pairwise_iff_getElem.mp snd j i (by omega) hi2 (by omega) ej
      have z60 := seats_len six
      refine ⟨_, rfl, _, rfl, spotsT ((seatsOf ks).take i), seatK (seatsOf ks)[i], b, rfl, (ei.trans eT) _ _ hb, eT _ _ hdi, ?_, Ext.mut (ei.trans eT) hD2, ?_⟩
      · rw [spotsT_len, List.length_take]
        exact Nat.lt_of_le_of_lt (show _ ≤ 60 by omega) (by decide)
      · rw [upd_same, putK_newT (spotsT_none hns), List.take_add_one, List.getElem?_eq_getElem hi2]
        show _ = some (HO.dT (spotsT ((seatsOf ks).take i ++ [(seatsOf ks)[i]])))
        rw [spotsT_snoc, List.length_take, Nat.min_eq_left (Nat.le_of_lt hi2)]
    rintro H13 ⟨e13, h13d⟩
    rw [lys, List.take_length] at h13d
    have h13p := e13 _ _ h12p
    have npD : p ≠ D2 := fun z => by rw [← z, h12p] at hD2; cases hD2
    refine ⟨_, rfl, p, S, dx, _, rfl, h13p, SL.cl, SL.nQ, (by show 4 < 1000; decide), ?_⟩
    have pf5 : putF "_spots" (V.ref D2) [("_lanes", V.ref lx), ("_server", V.ref sx), ("_kinds", V.ref kd), ("_seats", V.ref st)] = sf lx sx kd st D2 := putF_new fun p hp => by
      simp only [List.mem_cons, List.not_mem_nil, or_false] at hp
      rcases hp with rfl | rfl | rfl | rfl
      · exact n_lq
      · exact n_sq
      · exact n_kq
      · exact n_tq
    rw [pf5]
    have e14 := Ext.mut (o := .ins S dx (sf lx sx kd st D2)) (e12.trans e13) hp0
    refine q _ ks e14 kpm ⟨dx, lx, sx, kd, st, D2, ys, at_, upd_same, hL.up e14, hSv.up e14, ?_, fun k hk => (hks' k hk).2.1.up e14, ?_, dq_ins h13p (DqAll.up e13 h12z), ?_, ⟨lk3, knd, by rw [knm]; exact hso, fun k hk => (hks' k hk).1, fun k hk => (hks' k hk).2.2, hls⟩⟩
    · rw [upd_ne (Ne.symm nkp)]
      exact e13 _ _ h12k
    · rw [upd_ne (Ne.symm nps)]
      exact e13 _ _ h12s
    · rw [upd_ne (Ne.symm npD)]
      exact h13d
end
end K41

set_option Elab.async false
set_option linter.all false
set_option maxRecDepth 100000
set_option maxHeartbeats 4000000
namespace K41
open PySem PySem.Spec PyProof.Rows L2 Ol RZ
open TL (tl)
/-! ### standings -/
structure Std where
  pl : Nat
  cs : List (Nat × Bool)
  ct : List Nat
def cntL (ct : List Nat) : List PyData := ct.map fun n : Nat => .int (n : Int)
def cntD (ct : List Nat) : PyData := .tuple (cntL ct)
def stgD (s : Std) : PyData := .tuple [.int (s.pl : Int), ctD s.cs, cntD s.ct]
def headD (s : Std) : PyData := .tuple [.int (s.pl : Int), ctD s.cs]
def aboveB (a b : Std) : Bool := PyData.eqv (headD a) (headD b) && (List.range (min a.ct.length b.ct.length)).all fun k => decide (b.ct.getD k 0 ≤ a.ct.getD k 0)
theorem cnt_get {H : Hp} {xs : List V} {ct : List Nat} (h : DqAll H xs (cntL ct)) : xs = ct.map fun n : Nat => V.int (n : Int) := by
  induction ct generalizing xs with
  | nil => cases h; rfl
  | cons n ct ih =>
    cases h with
    | cons a t =>
      cases a
      rw [ih t]
      rfl
theorem stg_inv {H : Hp} {v : V} {s : Std} (h : Dq H v (stgD s)) : ∃ a b c xs, v = .ref a ∧ H a = some (.tup [.int (s.pl : Int), .ref b, .ref c]) ∧ H b = some (.tup xs) ∧ DqAll H xs (ctL s.cs) ∧ H c = some (.tup (s.ct.map fun n : Nat => V.int (n : Int))) := by
  obtain ⟨a, xs, ds, rfl, e, h1, h2⟩ := dq_tup h rfl
  unfold stgD at e
  cases e
  cases h2 with
  | cons a1 t1 => cases t1 with
    | cons a2 t2 => cases t2 with
      | cons a3 t3 =>
        cases t3
        cases a1
        obtain ⟨b, ys, rfl, k1, k2, _⟩ := ct_inv a2
        obtain ⟨c, zs, es, rfl, e3, k3, k4⟩ := dq_tup a3 rfl
        unfold cntD at e3
        cases e3
        rw [cnt_get k4] at k3
        exact ⟨a, b, c, ys, rfl, h1, k1, k2, k3⟩
theorem stg_mk {H : Hp} {a b c : Addr} {xs : List V} {s : Std} (h1 : H a = some (.tup [.int (s.pl : Int), .ref b, .ref c])) (h2 : H b = some (.tup xs)) (h3 : DqAll H xs (ctL s.cs)) (h4 : H c = some (.tup (s.ct.map fun n : Nat => V.int (n : Int)))) : Dq H (.ref a) (stgD s) := by
  refine .tup h1 (.cons (.int _) (.cons (.tup h2 h3) (.cons (.tup h4 ?_) .nil)))
  unfold cntL
  induction s.ct with
  | nil => exact .nil
  | cons n ct ih => exact .cons (.int _) ih
theorem lay_head (s : Std) : (headD s).canLay0 = true := by
  unfold headD
  rw [PyData.canLay0]
  refine lay_all fun d hd => ?_
  simp only [List.mem_cons, List.not_mem_nil, or_false] at hd
  rcases hd with rfl | rfl
  · simp [PyData.canLay0]
  · exact lay_ct _
theorem dep_st (c : Nat) (b : Bool) : (stD c b).depth ≤ 3 := by simp [stD, PyData.depth, PyData.depthAll]
theorem dep_all {n : Nat} : ∀ {ds : List PyData}, (∀ d ∈ ds, d.depth ≤ n) → PyData.depthAll ds ≤ n
  | [], _ => by simp [PyData.depthAll]
  | d :: ds, h => by
    simp only [PyData.depthAll]
    have := h d List.mem_cons_self
    have := dep_all fun e he => h e (List.mem_cons_of_mem _ he)
    omega
theorem dep_ct (cs : List (Nat × Bool)) : (ctD cs).depth ≤ 5 := by
  unfold ctD
  have := dep_all (n := 3) (ds := ctL cs) fun d hd => by
    obtain ⟨s, _, rfl⟩ := List.mem_map.mp hd
    exact dep_st _ _
  simp only [PyData.depth]
  omega
theorem sh_head (s : Std) : SeqAt.shaped (headD s) = true := by
  refine lay_shaped (lay_head s) ?_
  have := dep_all (n := 5) (ds := [.int (s.pl : Int), ctD s.cs]) fun d hd => by
    simp only [List.mem_cons, List.not_mem_nil, or_false] at hd
    rcases hd with rfl | rfl
    · simp [PyData.depth]
    · exact dep_ct _
  show (PyData.tuple _).depth ≤ 64
  simp only [PyData.depth]
  omega
def isPlD (n : Nat) : PyData → Bool
  | .int i => decide (0 ≤ i ∧ i < (n : Int))
  | _ => false
def isStdD (bs : List Int) (n m : Nat) : PyData → Bool
  | .tuple [a, b, c] => isPlD n a && (isCtD bs b && isCsD m c)
  | _ => false
theorem isStd_not {bs : List Int} {n m : Nat} {d : PyData} (h : kT d = false) : isStdD bs n m d = false := by
  cases d with
  | tuple ds => cases h
  | _ => rfl
theorem isStd_len {bs : List Int} {n m : Nat} {ds : List PyData} (h : ds.length ≠ 3) : isStdD bs n m (.tuple ds) = false := by
  match ds, h with
  | [], _ => rfl
  | [_], _ => rfl
  | [_, _], _ => rfl
  | [_, _, _], h => exact absurd rfl h
  | _ :: _ :: _ :: _ :: _, _ => rfl
end K41

set_option Elab.async false
set_option linter.all false
set_option maxRecDepth 100000
set_option maxHeartbeats 4000000
namespace K41
open PySem PySem.Spec PyProof.Rows L2 Ol RZ
open TL (tl)
/-! ### data, an object set aside -/
mutual
theorem Dq.fz {H : Hp} {k : Addr} {o : Obj} {u : HO} (hk : H k = some (.frz o u)) : ∀ {v : V} {d : PyData}, Dq H v d → Dq (del H k) v d
  | _, _, .non => .non
  | _, _, .bl b => .bl b
  | _, _, .int i => .int i
  | _, _, .str x => .str x
  | _, _, .lst h t => .lst (by rw [del_ne (fun z => by rw [z, hk] at h; cases h)]; exact h) (DqAll.fz hk t)
  | _, _, .tup h t => .tup (by rw [del_ne (fun z => by rw [z, hk] at h; cases h)]; exact h) (DqAll.fz hk t)
  | _, _, .dct h t => .dct (by rw [del_ne (fun z => by rw [z, hk] at h; cases h)]; exact h) (DqAll.fz hk t)
theorem DqAll.fz {H : Hp} {k : Addr} {o : Obj} {u : HO} (hk : H k = some (.frz o u)) : ∀ {vs : List V} {ds : List PyData}, DqAll H vs ds → DqAll (del H k) vs ds
  | _, _, .nil => .nil
  | _, _, .cons h t => .cons (Dq.fz hk h) (DqAll.fz hk t)
end
theorem ProgAt.fz {C : Addr} {H : Hp} {k p : Addr} {o : Obj} {u : HO} {ps : List Place} (hk : H k = some (.frz o u)) : ProgAt C H p ps → ProgAt C (del H k) p ps
  | ⟨dx, t, v, xs, us, h1, h2, h3, h4, r⟩ => ⟨dx, t, v, xs, us, by rw [del_ne (fun z => by rw [z, hk] at h1; cases h1)]; exact h1, by rw [del_ne (fun z => by rw [z, hk] at h2; cases h2)]; exact h2, DqAll.fz hk h3, by rw [del_ne (fun z => by rw [z, hk] at h4; cases h4)]; exact h4, r⟩
theorem nd_arm (a : Arm) : Nd (armD a) := by
  obtain ⟨o, g⟩ := a
  cases o with
  | none => exact .tup (.cons (.str _) (.cons (.int _) .nil))
  | some p => exact .tup (.cons (.str _) (.cons (.str _) (.cons (.int _) .nil)))
theorem nd_place (p : Place) : Nd (placeD p) := .tup (.cons (.str _) (.cons (.tup (NdAll.of fun d hd => by
  obtain ⟨a, _, rfl⟩ := List.mem_map.mp hd
  exact nd_arm a)) .nil))
theorem nd_places (ps : List Place) : NdAll (ps.map placeD) := NdAll.of fun d hd => by
  obtain ⟨p, _, rfl⟩ := List.mem_map.mp hd
  exact nd_place p
/-- a list of places stands at a -/
def LPl (H : Hp) (a : Addr) (pl : List Place) : Prop := ∃ xs, H a = some (.lst xs) ∧ DqAll H xs (pl.map placeD)
theorem LPl.up {H H' : Hp} {a : Addr} {pl : List Place} (e : Ext H H') : LPl H a pl → LPl H' a pl
  | ⟨xs, h1, h2⟩ => ⟨xs, e _ _ h1, DqAll.up e h2⟩
theorem LPl.off {H : Hp} {a k : Addr} {kv : List (Key × V)} {pl : List Place} (hk : H k = some (.dK kv)) : LPl H a pl → LPl (del H k) a pl
  | ⟨xs, h1, h2⟩ => ⟨xs, by rw [del_ne (fun z => by rw [z, hk] at h1; cases h1)]; exact h1, DqAll.off hk h2 (nd_places pl)⟩
/-- what the law draws -/
structure GMdl (g : Int) (ps : List (Str × Int)) (sv : List Place) (kx : List Knd) : Prop where
  p1 : 1 ≤ ps.length
  p3 : ps.length ≤ 3
  nd : (ps.map (·.1)).Nodup
  nm : ∀ p ∈ ps, isNameS p.1 = true
  bd : ∀ p ∈ ps, 1 ≤ p.2 ∧ p.2 ≤ g
  s1 : 1 ≤ sv.length
  s5 : sv.length ≤ 5
  sg : ∀ q ∈ sv, GL sv.length (ps.map (·.1)) q
  k2 : kx.length ≤ 2
  kd : (kx.map (·.1)).Nodup
  kn : ∀ k ∈ kx, isNameS k.1 = true
  k1 : ∀ k ∈ kx, 1 ≤ k.2.length
  k5 : ∀ k ∈ kx, k.2.length ≤ 5
  kg : ∀ k ∈ kx, ∀ q ∈ k.2, GL k.2.length (ps.map (·.1)) q
theorem pls_of {n : Nat} {ns : List Str} {sv : List Place} (h1 : 1 ≤ sv.length) (h5 : sv.length ≤ 5) (h : ∀ q ∈ sv, GL sv.length ns q) : Pls sv :=
  ⟨fun z => by rw [z] at h1; exact absurd h1 (by decide), by omega, fun q hq => (h q hq).place⟩
theorem sub_of {n : Nat} {ns : List Str} {sv : List Place} (h : ∀ q ∈ sv, GL n ns q) : ∀ x ∈ lanesP sv, x ∈ ns := fun x hx => by
  unfold lanesP at hx
  obtain ⟨q, hq, hx⟩ := List.mem_flatMap.mp hx
  exact (h q hq).lanes x hx
abbrev kyB : Key := Sum.inr ("bounds" : Str)
abbrev kyS : Key := Sum.inr ("server" : Str)
abbrev kyK : Key := Sum.inr ("kinds" : Str)
theorem mk_bs : ¬ (kyB = kyS) := fun z => absurd (Sum.inr.inj z) (by decide +kernel)
theorem mk_bk : ¬ (kyB = kyK) := fun z => absurd (Sum.inr.inj z) (by decide +kernel)
theorem mk_sk : ¬ (kyS = kyK) := fun z => absurd (Sum.inr.inj z) (by decide +kernel)
abbrev mdK (db sl dk : Addr) : List (Key × V) := [(kyB, .ref db), (kyS, .ref sl), (kyK, .ref dk)]
theorem mdK_b (db sl dk : Addr) : valV (mdK db sl dk) kyB = some (.ref db) := valV_pos rfl
theorem mdK_s (db sl dk : Addr) : valV (mdK db sl dk) kyS = some (.ref sl) := (valV_neg mk_bs).trans (valV_pos rfl)
theorem mdK_k (db sl dk : Addr) : valV (mdK db sl dk) kyK = some (.ref dk) := (valV_neg mk_bk).trans ((valV_neg mk_sk).trans (valV_pos rfl))
theorem mdK_new (db sl dk : Addr) : mergeK [] (mdK db sl dk) = mdK db sl dk := by
  show putK (putK (putK [] kyB (.ref db)) kyS (.ref sl)) kyK (.ref dk) = _
  rw [putK_new (kvs := []) (k := kyB) rfl]
  rw [putK_new (kvs := [] ++ [(kyB, V.ref db)]) (k := kyS) ((valV_neg mk_bs).trans rfl)]
  rw [putK_new (kvs := [] ++ [(kyB, V.ref db)] ++ [(kyS, V.ref sl)]) (k := kyK) ((valV_neg mk_bk).trans ((valV_neg mk_sk).trans rfl))]
  rfl
/-- a model stands at m -/
def MdlAt (H : Hp) (m : Addr) (ps : List (Str × Int)) (sv : List Place) (kx : List Knd) : Prop :=
  ∃ db sl dk at_, H m = some (.dK (mdK db sl dk)) ∧ H db = some (.dK (kvI ps)) ∧ LPl H sl sv ∧ H dk = some (.dK (kdA kx at_)) ∧ (∀ k ∈ kx, LPl H (at_ k.1) k.2) ∧ m ≠ dk ∧ db ≠ dk
theorem MdlAt.up {H H' : Hp} {m : Addr} {ps : List (Str × Int)} {sv : List Place} {kx : List Knd} (e : Ext H H') : MdlAt H m ps sv kx → MdlAt H' m ps sv kx
  | ⟨db, sl, dk, at_, h1, h2, h3, h4, h5, r⟩ => ⟨db, sl, dk, at_, e _ _ h1, e _ _ h2, h3.up e, e _ _ h4, fun k hk => (h5 k hk).up e, r⟩
section
variable {P : Program} {w : World} {K : PySem.W.Frag} {mg : Str → Option Value} {base : Heap} {C CP S : Addr}
/-! ### _law_model -/
def spModel : Sp := fun vs H Q _ => ∃ (a : Addr) (m g kn pl : Int), vs = [.ref a, .int m, .int g, .int kn, .int pl] ∧ Sys H ∧ Bag H a ∧ 1 ≤ m ∧ m ≤ 3 ∧ 1 ≤ g ∧ g ≤ 3 ∧ 0 ≤ kn ∧ kn ≤ 2 ∧ 1 ≤ pl ∧ pl ≤ 4 ∧
  ∀ (r : Addr) (H' : Hp) (ps : List (Str × Int)) (sv : List Place) (kx : List Knd), H r = none → Ext H H' → MdlAt H' r ps sv kx → GMdl g ps sv kx → Q (.ref r) H'
abbrev s__law_model : Stmt := (topS 56)
theorem sc__law_model : FnScope ["_law_bag_here", "_law_many", "_law_greatest", "_law_kinds", "_law_places", "_law_names_here", "_law_folk", "_law_found", "_law_bounds_here", "_law_server", "_law_kind"] ["_law_bag_here", "_law_many", "_law_greatest", "_law_kinds", "_law_places"] (defScope s__law_model) := ⟨rfl, rfl, rfl, by decide +kernel, rfl, by decide +kernel, by decide +kernel⟩
theorem ok_model {f : Addr} {fd : FuncData} (F : Fun K "_law_model" "_law_model" s__law_model f fd) (T : BT mg)
    (CT : Ca P w K mg base 1 "_law_take" ["_law_bag_here", "_law_many"] spTake) (CN : Ca P w K mg base 2 "_law_names" ["_law_bag_here", "_law_many"] spNames)
    (CBo : Ca P w K mg base 2 "_law_bounds" ["_law_bag_here", "_law_names_here", "_law_greatest"] spBounds) (CPr : Ca P w K mg base 3 "_law_program" ["_law_bag_here", "_law_names_here", "_law_places"] spLProg) :
    FnOk P w K mg base CX0 4 f fd ["_law_bag_here", "_law_many", "_law_greatest", "_law_kinds", "_law_places"] spModel := by
  refine F.ok sc__law_model (fun vs H Q E h => ?_) (fun cdv A outer s H vs Q E hr h => ?_)
  · obtain ⟨a, m, g, kn, pl, rfl, _⟩ := h
    rfl
  · obtain ⟨a, m, g, kn, pl, rfl, hSy, hB, m1, m3, g1, g3, kn0, kn2, pl1, pl4, q⟩ := h
    refine ⟨_, (pss_cons (ps_set (i := 5) sc__law_model.nd rfl (.inl rfl) (pe_ca CN (hr.mono (by decide)) (by rfl) (pa_cons (pv 0) (pa_cons (pv 1) pa_nil))))
    (pss_cons (ps_par (i := 6) (j := 7) rfl sc__law_model.nd rfl rfl (by decide) rfl rfl (pa_cons (pe_slice sl_list (pe_ca CN (hr.mono (by decide)) (by rfl) (pa_cons (pv 0) (pa_cons pe_int pa_nil))) po_none (po_some (pv 3))) (pa_cons pe_dnewK pa_nil)) (by rfl))
    (pss_cons (ps_set (i := 8) sc__law_model.nd rfl (.inl rfl) (pe_ca CBo (hr.mono (by decide)) (by rfl) (pa_cons (pv 0) (pa_cons (pv 5) (pa_cons (pv 2) pa_nil)))))
    (pss_cons (ps_set (i := 9) sc__law_model.nd rfl (.inl rfl) (pe_ca CPr (hr.mono (by decide)) (by rfl) (pa_cons (pv 0) (pa_cons (pv 5) (pa_cons (pe_op op_add pe_int (pe_ca CT (hr.mono (by decide)) (by rfl) (pa_cons (pv 0) (pa_cons (pv 4) pa_nil)))) pa_nil)))))
    (pss_cons (ps_for PassesOwn.never rfl (pi_list (pv 6)) (pg_name (i := 10) sc__law_model.nd rfl (.inl rfl))
      (pss_one (ps_dput (hu_of hr) (pv 7) (pv 10) (pe_ca CPr (hr.mono (by decide)) (by rfl) (pa_cons (pv 0) (pa_cons (pv 5) (pa_cons (pe_op op_add pe_int (pe_ca CT (hr.mono (by decide)) (by rfl) (pa_cons (pv 0) (pa_cons (pv 4) pa_nil)))) pa_nil)))) rfl)))
    (pss_one (ps_ret (pe_disp (pps_cons pe_str (pv 8) (pps_cons pe_str (pv 9) (pps_cons pe_str (pv 7) pps_nil))) (by rfl) (by rfl) (fun z => by cases z) (by decide))))))))), ?_⟩
    refine ⟨_, rfl, _, rfl, a, m, rfl, hB, m1, by omega, fun n1 ys H1 e1 hn1 hys hN => ?_⟩
    obtain ⟨z, rfl⟩ : ∃ j : Nat, m = (j : Int) := ⟨m.toNat, by omega⟩
    rw [Int.toNat_natCast] at hN
    have hl := hN.len
    -- the kinds' names
    refine ⟨_, rfl, a, 2, rfl, hB.up e1, by decide, by decide, fun n2 zs H2 e2 hn2 hzs hN2 => ?_⟩
    refine ⟨_, rfl, _, rfl, n2, _, rfl, SqL.of hzs, fun n3 hn3 => fun d hd => ?_⟩
    obtain ⟨kk, rfl⟩ : ∃ j : Nat, kn = (j : Int) := ⟨kn.toNat, by omega⟩
    rw [cut_take, ← List.map_take] at hd ⊢
    have hl2 : zs.length = 2 := hN2.len
    have hfl : (zs.take kk).length ≤ 2 := by rw [List.length_take]; omega
    have hfn : (zs.take kk).Nodup := hN2.nd.sublist (List.take_sublist ..)
    have hfo : ∀ x ∈ zs.take kk, isNameS x = true := fun x hx => hN2.ok x (List.mem_of_mem_take hx)
    generalize zs.take kk = fk at hfl hfn hfo hd ⊢
    have e3 := Ext.new (o := .lst (fk.map V.str)) hn3
    have h3 := upd_same (H := H2) (a := n3) (o := HO.lst (fk.map V.str))
    have hys3 := e3 _ _ (e2 _ _ hys)
    have e03 := (e1.trans e2).trans e3
    generalize upd H2 n3 (.lst (fk.map V.str)) = H3 at e03 h3 hys3 hd ⊢
    have hd0 : H d = none := e03.free hd
    have e4 := Ext.new (o := .dK []) hd
    have h4d := upd_same (H := H3) (a := d) (o := HO.dK [])
    have h4n := e4 _ _ h3
    have hys4 := e4 _ _ hys3
    have e04 := e03.trans e4
    generalize upd H3 d (.dK []) = H4 at e04 h4d h4n hys4 ⊢
    clear e4
    -- the bounds
    refine ⟨_, _, rfl, _, rfl, _, rfl, _, rfl, a, n1, ys, g, rfl, g1, g3, hB.up e04, hys4, hN.nd, by omega, fun db H5 ps hdb e5 h5b hps hbd => ?_⟩
    have ndb : db ≠ d := fun z => by rw [z, h4d] at hdb; cases hdb
    -- the server
    refine ⟨_, rfl, _, rfl, _, rfl, _, rfl, a, pl, rfl, hB.up (e04.trans e5), by omega, by omega, fun r r0 r1 => ?_⟩
    obtain ⟨j, rfl⟩ : ∃ j : Nat, r = (j : Int) := ⟨r.toNat, by omega⟩
    refine ⟨_, _, rfl, rfl, a, n1, ys, 1 + j, by rw [Int.natCast_add]; rfl, sysUp hSy (e04.trans e5), hB.up (e04.trans e5), e5 _ _ hys4, by omega, by omega, hN.ok, by omega, by omega, fun sl xs sv H6 hsl e6 h6s h6z hsn hsg => ?_⟩
    have e46 := e5.trans e6
    have h6d := e46 _ _ h4d
    have h6b := e6 _ _ h5b
    have h6n := e46 _ _ h4n
    have hys6 := e46 _ _ hys4
    have e06 := e04.trans e46
    have e0d : Ext H (del H6 d) := ext_to e06 hd0
    have nsl : sl ≠ d := fun z => by rw [z, h6d] at h6s; cases h6s
    have n1d : n1 ≠ d := fun z => by rw [z, h6d] at hys6; cases hys6
    have n3d : n3 ≠ d := fun z => by rw [z, h6d] at h6n; cases h6n
    have L6 : LPl (del H6 d) sl sv := LPl.off h6d ⟨xs, h6s, DqAll.up del_ext h6z⟩
    have ml : (fk.map V.str).length = fk.length := List.length_map ..
    rw [← hsn] at hsg
    -- the kinds
    refine ⟨_, rfl, n3, rfl, ⟨_, SqL.of h6n⟩, ?_⟩
    refine for_list (xs := fk.map V.str) (fun i σ H' => ∃ v10 kx at_, σ = [some (.ref a), some (.int z), some (.int g), some (.int kk), some (.int pl), some (.ref n1), some (.ref n3), some (.ref d), some (.ref db), some (.ref sl), v10] ∧ Ext (del H6 d) H' ∧ H' d = some (.dK (kdA kx at_)) ∧
        kx.map (·.1) = fk.take i ∧ ∀ k ∈ kx, LPl (del H' d) (at_ k.1) k.2 ∧ 1 ≤ k.2.length ∧ k.2.length ≤ 5 ∧ ∀ q ∈ k.2, GL k.2.length ys q)
      ⟨none, [], fun _ => 0, rfl, del_ext, h6d, rfl, fun k hk => by cases hk⟩ (fun i σ H' _ ⟨_, _, _, _, e, _⟩ => SqL.of (e _ _ ((del_ne n3d).trans h6n))) ?_ ?_
    · rintro i x σ H7 hx ⟨v10, kx, at_, rfl, e7, h7d, hkx, hk⟩
      have hi : i < fk.length := by have := (List.getElem?_eq_some_iff.mp hx).1; rw [ml] at this; exact this
      rw [List.getElem?_map, List.getElem?_eq_getElem hi] at hx
      cases hx
      have e07 := e0d.trans e7
      have hni : fk[i] ∉ kx.map (·.1) := fun z => by
        rw [hkx] at z
        obtain ⟨j, hj, ej⟩ := List.getElem_of_mem z
        rw [List.length_take] at hj
        rw [List.getElem_take] at ej
        exact List.pairwise_iff_getElem.mp hfn j i (by omega) hi (by omega) ej
      have hkl : kx.length ≤ 2 := by have := congrArg List.length hkx; rw [List.length_map, List.length_take] at this; omega
      have hys7 := e7 _ _ ((del_ne n1d).trans hys6)
      refine ⟨_, rfl, _, rfl, _, rfl, _, rfl, a, pl, rfl, hB.up e07, by omega, by omega, fun r r0 r1 => ?_⟩
      obtain ⟨j, rfl⟩ : ∃ j : Nat, r = (j : Int) := ⟨r.toNat, by omega⟩
      refine ⟨_, _, rfl, rfl, a, n1, ys, 1 + j, by rw [Int.natCast_add]; rfl, sysUp hSy e07, hB.up e07, hys7, by omega, by omega, hN.ok, by omega, by omega, fun fl zs' kp H8 hfl e8 h8s h8z hkn hkg => ?_⟩
      have h8d := e8 _ _ h7d
      have L8 : LPl (del H8 d) fl kp := LPl.off h8d ⟨zs', h8s, DqAll.up del_ext h8z⟩
      rw [← hkn] at hkg
      refine ⟨_, rfl, _, rfl, d, _, rfl, DPut.k (k := Sum.inr fk[i]) h8d (by rw [kdA_len]; exact Nat.lt_of_le_of_lt hkl (by decide)), ?_⟩
      refine ⟨_, kx ++ [(fk[i], kp)], fun y => if y = fk[i] then fl else at_ y, rfl, Ext.mut (e7.trans e8) del_same, ?_, ?_, ?_⟩
      · rw [upd_same, putK_new (by rw [kdA_val, if_neg hni])]
        have e1 : kdA kx (fun y => if y = fk[i] then fl else at_ y) = kdA kx at_ := List.map_congr_left fun k hk => by
          show ((Sum.inr k.1, V.ref (if k.1 = fk[i] then fl else at_ k.1)) : Key × V) = _
          rw [if_neg (fun y => hni (by rw [← y]; exact List.mem_map_of_mem hk))]
        show _ = some (HO.dK (kdA (kx ++ [(fk[i], kp)]) _))
        unfold kdA at e1 ⊢
        rw [List.map_append, e1]
        simp
      · rw [List.map_append, hkx, List.take_add_one, List.getElem?_eq_getElem hi]
        rfl
      · intro k hk'
        rw [del_upd]
        rcases List.mem_append.mp hk' with hk' | hk'
        · obtain ⟨b1, b2⟩ := hk k hk'
          have ne : ¬ k.1 = fk[i] := fun y => hni (by rw [← y]; exact List.mem_map_of_mem hk')
          dsimp only
          rw [if_neg ne]
          exact ⟨b1.up (ext_del e8), b2⟩
        · rw [List.mem_singleton.mp hk']
          dsimp only
          rw [if_pos rfl]
          exact ⟨L8, by omega, by omega, hkg⟩
    · rintro σ H7 ⟨v10, kx, at_, rfl, e7, h7d, hkx, hk⟩
      rw [ml, List.take_length] at hkx
      have e07 := e0d.trans e7
      intro r hr'
      refine ⟨_, rfl, _, rfl, _, rfl, upd_same, mdK db sl d, rfl, by show 3 ≤ 15; decide, ?_⟩
      rw [mdK_new, upd_upd]
      have er := Ext.new (o := .dK (mdK db sl d)) hr'
      have nrd : r ≠ d := fun z => by rw [z, h7d] at hr'; cases hr'
      refine q r _ ps sv kx (e07.free hr') (e07.trans er) ⟨db, sl, d, at_, upd_same, er _ _ (e7 _ _ ((del_ne ndb).trans h6b)), (L6.up e7).up er, er _ _ h7d, fun k hk' => ((hk k hk').1.up del_ext).up er, nrd, ndb⟩ ?_
      have pl0 : ps.length = ys.length := by have := congrArg List.length hps; rwa [List.length_map] at this
      refine ⟨by omega, by omega, by rw [hps]; exact hN.nd, fun p hp => hN.ok _ (by rw [← hps]; exact List.mem_map_of_mem hp), hbd, by omega, by omega, by rw [hps]; exact hsg, ?_, by rw [hkx]; exact hfn, fun k hk' => hfo _ (by rw [← hkx]; exact List.mem_map_of_mem hk'), fun k hk' => (hk k hk').2.1, fun k hk' => (hk k hk').2.2.1, fun k hk' => by rw [hps]; exact (hk k hk').2.2.2⟩
      have := congrArg List.length hkx
      rw [List.length_map] at this
      omega
end
end K41

set_option Elab.async false
set_option linter.all false
set_option maxRecDepth 100000
set_option maxHeartbeats 4000000
namespace K41
open PySem PySem.Spec PyProof.Rows L2 Ol RZ
open TL (tl)
theorem DGet.r {H : Hp} {a : Addr} {kvs : List (Key × V)} (k : Key) (r : Rd H a (.dK kvs)) : DGet H a (kV k) (valV kvs k) := .inl ⟨kvs, k, r, rfl, rfl⟩
theorem get_b {H : Hp} {m db sl dk : Addr} (h : H m = some (.dK (mdK db sl dk))) : DGet H m (.str "bounds") (some (.ref db)) := by
  have z := DGet.k (k := kyB) h
  rw [mdK_b] at z
  exact z
theorem get_s {H : Hp} {m db sl dk : Addr} (h : H m = some (.dK (mdK db sl dk))) : DGet H m (.str "server") (some (.ref sl)) := by
  have z := DGet.k (k := kyS) h
  rw [mdK_s] at z
  exact z
theorem get_k {H : Hp} {m db sl dk : Addr} (h : H m = some (.dK (mdK db sl dk))) : DGet H m (.str "kinds") (some (.ref dk)) := by
  have z := DGet.k (k := kyK) h
  rw [mdK_k] at z
  exact z
theorem get_at {H : Hp} {d : Addr} {kx : List Knd} {at_ : Str → Addr} {x : Str} (r : Rd H d (.dK (kdA kx at_))) (h : x ∈ kx.map (·.1)) : DGet H d (.str x) (some (.ref (at_ x))) := by
  have z := DGet.r (.inr x) r
  rw [kdA_val, if_pos h] at z
  exact z
theorem ProgAt.off {C : Addr} {H : Hp} {k p : Addr} {kv : List (Key × V)} {ps : List Place} (hk : H k = some (.dK kv)) : ProgAt C H p ps → ProgAt C (del H k) p ps
  | ⟨dx, t, v, xs, us, h1, h2, h3, h4, r⟩ => ⟨dx, t, v, xs, us, by rw [del_ne (fun z => by rw [z, hk] at h1; cases h1)]; exact h1, by rw [del_ne (fun z => by rw [z, hk] at h2; cases h2)]; exact h2, DqAll.off hk h3 (nd_places ps), by rw [del_ne (fun z => by rw [z, hk] at h4; cases h4)]; exact h4, r⟩
theorem del_up {H : Hp} {k : Addr} {o : HO} : Ext (del H k) (upd H k o) := fun b u z => by
  have c : b ≠ k := fun c => by rw [c, del_same] at z; cases z
  rw [del_ne c] at z
  rw [upd_ne c]
  exact z
section
variable {P : Program} {w : World} {K : PySem.W.Frag} {mg : Str → Option Value} {base : Heap} {C CP S : Addr}
structure MkL (P : Program) (w : World) (K : PySem.W.Frag) (mg : Str → Option Value) (base : Heap) (C : Addr) : Prop where
  has : ∃ (f : Addr) (fd : FuncData), FnOk P w K mg base CX0 4 f fd ["self", "bounds"] (spInit C) ∧ Mk K C f ∧ Binds K fd ["self", "bounds"] []
structure MkP (P : Program) (w : World) (K : PySem.W.Frag) (mg : Str → Option Value) (base : Heap) (C : Addr) : Prop where
  has : ∃ (f : Addr) (fd : FuncData), FnOk P w K mg base CX0 7 f fd ["self", "places"] (spProg C) ∧ Mk K C f ∧ Binds K fd ["self", "places"] []
structure MkS (P : Program) (w : World) (K : PySem.W.Frag) (mg : Str → Option Value) (base : Heap) (S C CP : Addr) : Prop where
  has : ∃ (f : Addr) (fd : FuncData), FnOk P w K mg base CX0 4 f fd ["self", "lanes", "server", "kinds"] (spSys S C CP) ∧ Mk K S f ∧ Binds K fd ["self", "lanes", "server", "kinds"] []
/-! ### _law_made -/
def spMade (S C CP : Addr) : Sp := fun vs H Q _ => ∃ (m : Addr) (g : Int) (ps : List (Str × Int)) (sv : List Place) (kx : List Knd), vs = [.ref m] ∧ MdlAt H m ps sv kx ∧ GMdl g ps sv kx ∧
  ∀ (p : Addr) (H' : Hp) (ns : List Str) (ks : List Knd), H p = none → Ext H H' → ns.Perm (ps.map (·.1)) → sortedS ns = true → ks.Perm kx → SysAt S C CP H' p ns (ns.map (bdOf ps)) sv ks → Q (.ref p) H'
abbrev s__law_made : Stmt := (topS 57)
theorem sc__law_made : FnScope ["_law_model_here", "_law_kinds", "_law_kind"] ["_law_model_here"] (defScope s__law_made) := ⟨rfl, rfl, rfl, by decide +kernel, rfl, by decide +kernel, by decide +kernel⟩
theorem ok_made {f : Addr} {fd : FuncData} (F : Fun K "_law_made" "_law_made" s__law_made f fd) (T : BT mg) (SL : ST K mg S) (LL : LT K mg C) (LP : PT K mg CP)
    (ML : MkL P w K mg base C) (MP : MkP P w K mg base CP) (MS : MkS P w K mg base S C CP) :
    FnOk P w K mg base CX0 9 f fd ["_law_model_here"] (spMade S C CP) := by
  obtain ⟨fL, fdL, FL, mkL, bL⟩ := ML.has
  obtain ⟨fP, fdP, FP, mkP, bP⟩ := MP.has
  obtain ⟨fS, fdS, FS, mkS, bS⟩ := MS.has
  refine F.ok sc__law_made (fun vs H Q E h => ?_) (fun cdv A outer s H vs Q E hr h => ?_)
  · obtain ⟨m, g, ps, sv, kx, rfl, _⟩ := h
    rfl
  · obtain ⟨m, g, ps, sv, kx, rfl, hM, hG, q⟩ := h
    refine ⟨_, (pss_cons (ps_set (i := 1) sc__law_made.nd rfl (.inl rfl) pe_dnewK)
    (pss_cons (ps_lock (ps_for PassesOwn.never rfl (pi_keys (pe_dget (hu_of hr) (pv 0) pe_str (fun _ _ => rfl))) (pg_name (i := 2) sc__law_made.nd rfl (.inl rfl))
      (pss_one (ps_dput (hu_of hr) (pv 1) (pv 2) (pe_make mkP FP (hr.mono (by decide)) (by rfl) LP.gC bP .nil pass0 (pa_cons (pe_dget (hu_of hr) (pe_dget (hu_of hr) (pv 0) pe_str (fun _ _ => rfl)) (pv 2) (fun _ _ => rfl)) pa_nil)) rfl))))
    (pss_one (ps_ret (pe_make mkS FS (hr.mono (by decide)) (by rfl) SL.gS bS .nil pass0 (pa_cons (pe_make mkL FL (hr.mono (by decide)) (by rfl) LL.gC bL .nil pass0 (pa_cons (pe_dget (hu_of hr) (pv 0) pe_str (fun _ _ => rfl)) pa_nil)) (pa_cons (pe_make mkP FP (hr.mono (by decide)) (by rfl) LP.gC bP .nil pass0 (pa_cons (pe_dget (hu_of hr) (pv 0) pe_str (fun _ _ => rfl)) pa_nil)) (pa_cons (pv 1) pa_nil)))))))), ?_⟩
    obtain ⟨db, sl, dk, at_, hm, hdb, hsl, hdk, hkl, nmk, nbk⟩ := id hM
    intro d hd
    have e1 := Ext.new (o := .dK []) hd
    have ndk : d ≠ dk := fun z => by rw [z, hdk] at hd; cases hd
    refine ⟨dk, _, e1 _ _ hdk, trivial, fun od => ?_⟩
    have hL0 : ∀ b o, H b = some o → b ≠ dk → (upd (upd H d (.dK [])) dk (.frz od (.dK (kdA kx at_)))) b = some o := fun b o z n => by rw [upd_ne n]; exact e1 _ _ z
    have h0k := upd_same (H := upd H d (.dK [])) (a := dk) (o := HO.frz od (.dK (kdA kx at_)))
    have h0d : (upd (upd H d (.dK [])) dk (.frz od (.dK (kdA kx at_)))) d = some (.dK []) := by rw [upd_ne ndk]; exact upd_same
    have eH0 : Ext (del H dk) (upd (upd H d (.dK [])) dk (.frz od (.dK (kdA kx at_)))) := fun b o z => by
      have c : b ≠ dk := fun c => by rw [c, del_same] at z; cases z
      rw [del_ne c] at z
      exact hL0 b o z c
    generalize upd (upd H d (.dK [])) dk (.frz od (.dK (kdA kx at_))) = H0 at hL0 h0k h0d eH0 ⊢
    have nmd : m ≠ d := fun z => by rw [z, hd] at hm; cases hm
    have kk : kx.length ≤ 2 := hG.k2
    have eHd : Ext (del H dk) (del H0 d) := ext_to eH0 (by rw [del_ne ndk]; exact hd)
    refine ⟨_, rfl, m, _, rfl, get_k (hL0 _ _ hm nmk), dk, od, rfl, .inl ⟨_, h0k, ?_⟩⟩
    refine for_it (walk_keys (kvs := kdA kx at_)) (fun i σ H' => ∃ v2 at2, σ = [some (.ref m), some (.ref d), v2] ∧ Ext (del H0 d) H' ∧ H' d = some (.dK (kdA (kx.take i) at2)) ∧ ∀ k ∈ kx.take i, ProgAt CP (del (del H' d) dk) (at2 k.1) k.2)
      ⟨none, fun _ => 0, rfl, del_ext, h0d, fun k hk => by cases hk⟩ (fun i σ H' _ ⟨_, _, _, e, _⟩ => e _ _ ((del_ne (Ne.symm ndk)).trans h0k)) ?_ ?_
    · rintro i x σ H2 H3 hi ⟨v2, at2, rfl, e2, h2d, h2p⟩ ⟨rfl, ky, vv, hkv, rfl⟩
      rw [kdA_len] at hi
      rw [kdA_at hi] at hkv
      cases hkv
      have h2k := e2 _ _ ((del_ne (Ne.symm ndk)).trans h0k)
      have h2m := e2 _ _ ((del_ne nmd).trans (hL0 _ _ hm nmk))
      have mem : kx[i] ∈ kx := List.getElem_mem hi
      have L2 := ((hkl _ mem).off hdk).up (eHd.trans e2)
      obtain ⟨xs, l1, l2⟩ := L2
      have hni : kx[i].1 ∉ (kx.take i).map (·.1) := fun z => by
        rw [List.map_take] at z
        obtain ⟨j, hj, ej⟩ := List.getElem_of_mem z
        rw [List.length_take, List.length_map] at hj
        rw [List.getElem_take, List.getElem_map] at ej
        have := List.pairwise_iff_getElem.mp hG.kd j i (by rw [List.length_map]; omega) (by rw [List.length_map]; exact hi) (by omega)
        rw [List.getElem_map, List.getElem_map] at this
        exact this ej
      refine ⟨_, rfl, m, _, rfl, get_k h2m, _, rfl, dk, _, rfl, get_at (.inr ⟨od, h2k⟩) (List.mem_map_of_mem mem), fun px dx npx ndx nex => ?_⟩
      have eo := Ext.new (o := .own px) ndx
      have pls := pls_of (n := 0) (hG.k1 _ mem) (hG.k5 _ mem) (hG.kg _ mem)
      refine ⟨H3, px, dx, at_ kx[i].1, xs, kx[i].2, rfl, npx, Ext.mut eo npx, upd_same, l1, l2, pls, fun H4 e4 hP => ⟨rfl, ?_⟩⟩
      have h4d := e4 _ _ h2d
      have h4k := e4 _ _ h2k
      refine ⟨_, rfl, _, rfl, d, _, rfl, DPut.k (k := Sum.inr kx[i].1) h4d (by rw [kdA_len, List.length_take]; exact Nat.lt_of_le_of_lt (show _ ≤ 2 by omega) (by decide)), ?_⟩
      have P4 : ProgAt CP (del (del H4 d) dk) px kx[i].2 := ProgAt.fz (o := od) (u := .dK (kdA kx at_)) ((del_ne (Ne.symm ndk)).trans h4k) (ProgAt.off h4d hP)
      refine ⟨_, fun y => if y = kx[i].1 then px else at2 y, rfl, Ext.mut (e2.trans e4) del_same, ?_, ?_⟩
      · rw [upd_same, putK_new (by rw [kdA_val, if_neg hni]), List.take_add_one, List.getElem?_eq_getElem hi, Option.toList_some]
        have e1 : kdA (kx.take i) (fun y => if y = kx[i].1 then px else at2 y) = kdA (kx.take i) at2 := List.map_congr_left fun k hk => by
          show ((Sum.inr k.1, V.ref (if k.1 = kx[i].1 then px else at2 k.1)) : Key × V) = _
          rw [if_neg (fun y => hni (by rw [← y]; exact List.mem_map_of_mem hk))]
        unfold kdA at e1 ⊢
        rw [List.map_append, e1]
        simp
      · intro k hk
        rw [del_upd]
        rw [List.take_add_one, List.getElem?_eq_getElem hi, Option.toList_some] at hk
        rcases List.mem_append.mp hk with hk | hk
        · have ne : ¬ k.1 = kx[i].1 := fun y => hni (by rw [← y]; exact List.mem_map_of_mem hk)
          dsimp only
          rw [if_neg ne]
          exact (h2p k hk).up (ext_del (ext_del e4))
        · rw [List.mem_singleton.mp hk]
          dsimp only
          rw [if_pos rfl]
          exact P4
    rintro σ H2 ⟨v2, at2, rfl, e2, h2d, h2p⟩
    rw [kdA_len, List.take_length] at h2d h2p
    have h2k := e2 _ _ ((del_ne (Ne.symm ndk)).trans h0k)
    refine ⟨h2k, ?_⟩
    have eF : Ext H (upd H2 dk (.dK (kdA kx at_))) := fun b o z => by
      by_cases c : b = dk
      · rw [c] at z ⊢
        rw [upd_same, ← hdk, z]
      · rw [upd_ne c]
        exact e2 _ _ ((del_ne (fun y => by rw [y, hd] at z; cases z)).trans (hL0 _ _ z c))
    have h3d : (upd H2 dk (.dK (kdA kx at_))) d = some (.dK (kdA kx at2)) := by rw [upd_ne ndk]; exact h2d
    have h3p : ∀ k ∈ kx, ProgAt CP (upd H2 dk (.dK (kdA kx at_))) (at2 k.1) k.2 := fun k hk => by
      have z := (h2p k hk).up (ext_del (D := dk) (del_ext (H := H2) (D := d)))
      exact z.up del_up
    generalize upd H2 dk (.dK (kdA kx at_)) = H3 at eF h3d h3p ⊢
    have hm3 := eF _ _ hm
    -- the lanes
    refine ⟨_, rfl, m, _, rfl, get_b hm3, fun lx dx nlx ndx nex => ?_⟩
    have eo := Ext.new (o := .own lx) ndx
    have pne : ps ≠ [] := fun z => by have := hG.p1; rw [z] at this; exact absurd this (by decide)
    refine ⟨H3, lx, dx, db, ps, rfl, nlx, Ext.mut eo nlx, upd_same, eF _ _ hdb, pne, Nat.le_trans hG.p3 (by decide), fun z hz => ⟨hG.nm z hz, (hG.bd z hz).1⟩, hG.nd, fun H4 ns e4 hperm hso hL => ⟨rfl, ?_⟩⟩
    -- the server
    refine ⟨_, rfl, m, _, rfl, get_s (e4 _ _ hm3), fun sx dx2 nsx ndx2 nex2 => ?_⟩
    have eo2 := Ext.new (o := .own sx) ndx2
    obtain ⟨xs, l1, l2⟩ := (hsl.up eF).up e4
    refine ⟨H4, sx, dx2, sl, xs, sv, rfl, nsx, Ext.mut eo2 nsx, upd_same, l1, l2, pls_of (n := 0) hG.s1 hG.s5 hG.sg, fun H5 e5 hP => ⟨rfl, ?_⟩⟩
    have e35 := e4.trans e5
    refine ⟨_, rfl, fun p dx3 np ndx3 nex3 => ?_⟩
    have eo3 := Ext.new (o := .own p) ndx3
    have sub : ∀ x, x ∈ ps.map (·.1) → x ∈ ns := fun x hx => hperm.mem_iff.mpr hx
    refine ⟨H5, p, dx3, lx, sx, d, ns, ns.map (bdOf ps), sv, kx, at2, rfl, np, Ext.mut eo3 np, upd_same, hL.up e5, hP, e35 _ _ h3d, by omega, hG.kd, fun k hk => ⟨hG.kn k hk, (h3p k hk).up e35, fun x hx => sub _ (sub_of (hG.kg k hk) x hx)⟩, fun x hx => sub _ (sub_of hG.sg x hx), fun H6 ks e6 hkp hS => ⟨rfl, ?_⟩⟩
    exact q p H6 ns ks ((eF.trans e35).free np) ((eF.trans e35).trans e6) hperm hso hkp hS
end
end K41

set_option Elab.async false
set_option linter.all false
set_option maxRecDepth 100000
set_option maxHeartbeats 4000000
namespace K41
open PySem PySem.Spec PyProof.Rows L2 Ol RZ
open TL (tl)
theorem ks_map {kx ks : List Knd} (hd : (kx.map (·.1)).Nodup) (hp : ks.Perm kx) : ks = sortedK kx (ks.map (·.1)) := by
  unfold sortedK
  rw [List.map_map]
  have : ks.map ((fun x => ((x, plOf kx x) : Knd)) ∘ fun k => k.1) = ks.map id := List.map_congr_left fun k hk => by
    show (k.1, plOf kx k.1) = k
    rw [plOf_mem hd (hp.mem_iff.mp hk)]
  rw [this, List.map_id]
theorem ks_one {kx k1 k2 : List Knd} (hd : (kx.map (·.1)).Nodup) (p1 : k1.Perm kx) (p2 : k2.Perm kx) (s1 : sortedS (k1.map (·.1)) = true) (s2 : sortedS (k2.map (·.1)) = true) : k1 = k2 := by
  rw [ks_map hd p1, ks_map hd p2, sorted_one s1 s2 ((p1.map _).trans (p2.map _).symm)]
section
variable {P : Program} {w : World} {K : PySem.W.Frag} {mg : Str → Option Value} {base : Heap} {C CP S : Addr}
/-! ### _law_seats -/
def spSeats : Sp := fun vs H Q _ => ∃ (m : Addr) (g : Int) (ps : List (Str × Int)) (sv : List Place) (kx ks : List Knd), vs = [.ref m] ∧ MdlAt H m ps sv kx ∧ GMdl g ps sv kx ∧ ks.Perm kx ∧ sortedS (ks.map (·.1)) = true ∧
  ∀ (l : Addr) (ys : List V) (H' : Hp), H l = none → Ext H H' → H' l = some (.lst ys) → DqAll (del H' l) ys ((seatsOf ks).map seatD) → Q (.ref l) H'
abbrev s__law_seats : Stmt := (topS 61)
theorem sc__law_seats : FnScope ["_law_model_here", "_law_found", "_law_kind", "_law_at"] ["_law_model_here"] (defScope s__law_seats) := ⟨rfl, rfl, rfl, by decide +kernel, rfl, by decide +kernel, by decide +kernel⟩
abbrev nSts : List Str := ["_law_model_here", "_law_found", "_law_kind", "_law_at"]
theorem ok_seats {f : Addr} {fd : FuncData} (F : Fun K "_law_seats" "_law_seats" s__law_seats f fd) (T : BT mg) :
    FnOk P w K mg base CX0 1 f fd ["_law_model_here"] spSeats := by
  refine F.ok sc__law_seats (fun vs H Q E h => ?_) (fun cdv A outer s H vs Q E hr h => ?_)
  · obtain ⟨m, g, ps, sv, kx, ks, rfl, _⟩ := h
    rfl
  · obtain ⟨m, g, ps, sv, kx, ks, rfl, hM, hG, hkp, hks, q⟩ := h
    refine ⟨_, (pss_cons (ps_set (i := 1) sc__law_seats.nd rfl (.inl rfl) (pe_lst pa_nil))
    (pss_cons (ps_for PassesOwn.never rfl (pi_list (pe_callB (call_sortedD rfl) (by rfl) T.n_sorted (by decide +kernel) (pa_cons (pe_dget (hu_of hr) (pv 0) pe_str (fun _ _ => rfl)) pa_nil))) (pg_name (i := 2) sc__law_seats.nd rfl (.inr rfl))
      (pss_one (ps_aug (i := 1) sc__law_seats.nd rfl (.inl rfl) (pe_lc (own := [("_law_at", 3)]) (g := gName 3) (tt := tYes) rfl sc__law_seats.nd (pi_range2 (by rfl) T.n_range (pa_cons pe_int (pa_cons (pe_callB call_len_seq (by rfl) T.n_len (by decide +kernel) (pa_cons (pe_dget (hu_of hr) (pe_dget (hu_of hr) (pv 0) pe_str (fun _ _ => rfl)) (pv 2) (fun _ _ => rfl)) pa_nil)) pa_nil))) (blkOk_by (N := ["_law_model_here", "_law_found", "_law_kind", "_law_at"]) (sc := defScope s__law_seats) (by decide +kernel)) (fun _ _ _ _ _ => (pg_name (i := 3) sc__law_seats.nd rfl (.inl rfl))) (fun _ _ _ _ _ => pts_nil) (fun _ _ _ _ _ => (pe_tup (pa_cons (pv 2) (pa_cons (pv 3) pa_nil))))) iop_ext)))
    (pss_one (ps_ret (pv 1))))), ?_⟩
    obtain ⟨db, sl, dk, at_, hm, hdb, hsl, hdk, hkl, nmk, nbk⟩ := id hM
    refine ⟨by show 0 ≤ sizeLine; decide, fun l hl => ?_⟩
    have e1 := Ext.new (o := .lst []) hl
    have h1l := upd_same (H := H) (a := l) (o := HO.lst [])
    generalize upd H l (.lst []) = H1 at e1 h1l ⊢
    have kk := hG.k2
    have lks : ks.length = kx.length := hkp.length_eq
    have knd : (ks.map (·.1)).Nodup := (hkp.map _).nodup_iff.mpr hG.kd
    refine ⟨_, rfl, m, _, rfl, get_k (e1 _ _ hm), dk, _, kx.map (·.1), rfl, Rd.of (e1 _ _ hdk), kdA_keys kx at_, by rw [List.length_map]; omega, fun us l3 hperm hso hl3 => ?_⟩
    obtain rfl : us = ks.map (·.1) := sorted_one hso hks (hperm.trans (hkp.map _).symm)
    have e2 := Ext.new (o := .lst ((ks.map (·.1)).map V.str)) hl3
    have k2 := upd_same (H := H1) (a := l3) (o := HO.lst ((ks.map (·.1)).map V.str))
    have h2l := e2 _ _ h1l
    have e02 := e1.trans e2
    generalize upd H1 l3 (.lst ((ks.map (·.1)).map V.str)) = H2 at e02 k2 h2l ⊢
    have eHd : Ext H (del H2 l) := ext_to e02 hl
    have n3l : l3 ≠ l := fun z => by rw [z, h1l] at hl3; cases hl3
    have ml : ((ks.map (·.1)).map V.str).length = ks.length := by rw [List.length_map, List.length_map]
    refine ⟨l3, rfl, ⟨_, SqL.of k2⟩, ?_⟩
    refine for_list (xs := (ks.map (·.1)).map V.str) (fun i σ H' => ∃ v2 ys, σ = [some (.ref m), some (.ref l), v2, none] ∧ Ext (del H2 l) H' ∧ H' l = some (.lst ys) ∧ DqAll (del H' l) ys ((seatsOf (ks.take i)).map seatD) ∧ ys.length ≤ 5 * i)
      ⟨none, [], rfl, del_ext, h2l, .nil, Nat.le_refl _⟩ (fun i σ H' _ ⟨_, _, _, e, _⟩ => SqL.of (e _ _ ((del_ne n3l).trans k2))) ?_ ?_
    · rintro i x σ H3 hx ⟨v2, ys, rfl, e3, h3l, h3z, hyl⟩
      have hi : i < ks.length := by have := (List.getElem?_eq_some_iff.mp hx).1; rw [ml] at this; exact this
      rw [List.getElem?_map, List.getElem?_map, List.getElem?_eq_getElem hi] at hx
      cases hx
      have e03 := eHd.trans e3
      have mem : ks[i] ∈ ks := List.getElem_mem hi
      have memx : ks[i] ∈ kx := hkp.mem_iff.mp mem
      obtain ⟨xs, l1, l2⟩ := (hkl _ memx).up e03
      have lx : xs.length = ks[i].2.length := by rw [l2.len, List.length_map]
      have b1 := hG.k1 _ memx
      have b5 := hG.k5 _ memx
      refine ⟨_, rfl, _, rfl, m, _, rfl, get_k (e03 _ _ hm), _, rfl, dk, _, rfl, get_at (.inl (e03 _ _ hdk)) (List.mem_map_of_mem memx), at_ ks[i].1, _, rfl, .inl (SqL.of l1), 1, (xs.length : Int), rfl, ⟨by decide, by decide, by omega, by omega⟩, fun D hD => ?_⟩
      have nDl : D ≠ l := fun z => by rw [z, h3l] at hD; cases hD
      refine lc1_acc (walk_range (lo := 1) (n := ((xs.length : Int) - 1).toNat)) (fun j zs Hd => DqAll (del Hd l) zs (((List.range j).map fun t => ((ks[i].1, t + 1) : Str × Nat)).map seatD) ∧ j ≤ 5) (fun _ _ _ _ e ⟨h, h2⟩ => ⟨DqAll.up (ext_del e) h, h2⟩) ⟨.nil, by decide⟩ hD
        (fun j zs _ ⟨h, h2⟩ => by rw [h.len, List.length_map, List.length_map, List.length_range]; exact Nat.lt_of_le_of_lt h2 (by decide)) (fun _ _ => trivial) ?_ ?_
      · rintro j y Ha Hb zs hj ea hya ⟨rfl, rfl⟩ ⟨hz, _⟩ QY QN kY kN
        refine ⟨rfl, ?_⟩
        refine tyes ?_
        refine ⟨_, rfl, _, rfl, by show 2 ≤ sizeLine; decide, fun t ht => ?_⟩
        have et := Ext.new (o := .tup [.str ks[i].1, .int (1 + (j : Int))]) ht
        have n1 : t ≠ l := fun z => by rw [z, ea _ _ h3l] at ht; cases ht
        have n2 : t ≠ D := fun z => by rw [z, hya] at ht; cases ht
        refine kY _ _ et ⟨?_, by omega⟩
        have es := seat_step [] (fun t => ((ks[i].1, t + 1) : Str × Nat)) j
        rw [List.nil_append, List.nil_append] at es
        rw [es]
        refine dq_app (DqAll.up (ext_del (ext_del et)) hz) (.cons ?_ .nil)
        show Dq _ _ (.tuple [.str ks[i].1, .int ((j + 1 : Nat) : Int)])
        have ej : (1 + (j : Int)) = ((j + 1 : Nat) : Int) := by omega
        rw [← ej]
        exact .tup (by rw [del_ne n1, del_ne n2]; exact upd_same) (.cons (.str _) (.cons (.int _) .nil))
      · rintro H4 zs e4 h4D ⟨hz, _⟩
        have h4l := e4 _ _ h3l
        have lz : zs.length ≤ 5 := by
          rw [hz.len, List.length_map, List.length_map, List.length_range]
          omega
        have ez : ((xs.length : Int) - 1).toNat = ks[i].2.length - 1 := by omega
        rw [ez] at hz
        have i2 : i ≤ 2 := by omega
        refine ⟨l, D, ys, zs, rfl, rfl, h4l, h4D, Nat.le_trans (show _ ≤ 60 by omega) (by decide), ?_⟩
        refine ⟨_, _, rfl, Ext.mut (e3.trans e4) del_same, upd_same, ?_, by rw [List.length_append]; omega⟩
        rw [del_upd, List.take_add_one, List.getElem?_eq_getElem hi, Option.toList_some, seats_snoc, List.map_append]
        exact dq_app (DqAll.up (ext_del e4) h3z) hz
    · rintro σ H3 ⟨v2, ys, rfl, e3, h3l, h3z, hyl⟩
      rw [ml, List.take_length] at h3z
      exact ⟨_, rfl, q l ys H3 hl (eHd.trans e3) h3l h3z⟩
end
end K41

set_option Elab.async false
set_option linter.all false
set_option maxRecDepth 100000
set_option maxHeartbeats 4000000
namespace K41
open PySem PySem.Spec PyProof.Rows L2 Ol RZ
open TL (tl)
abbrev cV (ct : List Nat) : List V := ct.map fun n : Nat => V.int (n : Int)
theorem cV_get {ct : List Nat} {i : Nat} (h : i < ct.length) : (cV ct)[i]? = some (V.int (ct[i] : Int)) := by
  rw [List.getElem?_map, List.getElem?_eq_getElem h]
  rfl
theorem cV_dq {H : Hp} : ∀ ct : List Nat, DqAll H (cV ct) (cntL ct)
  | [] => .nil
  | n :: ct => .cons (.int _) (cV_dq ct)
theorem ixN_at {n j : Nat} (h : j < n) : ixN n (j : Int) = some j := by
  unfold ixN
  have h1 : (0 : Int) ≤ (j : Int) := by omega
  have h2 : (j : Int) < (n : Int) := by omega
  simp [h]
/-- a standing of a system -/
structure GStd (ns : List Str) (bs : Str → Int) (n m M : Nat) (s : Std) : Prop where
  pl : s.pl < n
  cs : ∃ st : Str → Nat × Bool, s.cs = ns.map st ∧ ∀ x ∈ ns, ((st x).1 : Int) ≤ bs x
  ct : s.ct.length = m
  cm : ∀ c ∈ s.ct, c ≤ M
theorem GMdl.bd3 {g : Int} {ps : List (Str × Int)} {sv : List Place} {kx : List Knd} (h : GMdl g ps sv kx) (g3 : g ≤ 3) {x : Str} (hx : x ∈ ps.map (·.1)) : 1 ≤ bdOf ps x ∧ bdOf ps x ≤ 3 := by
  obtain ⟨p, hp, e1, e2⟩ := bd_mem hx
  have := h.bd p hp
  omega
end K41

set_option Elab.async false
set_option linter.all false
set_option maxRecDepth 100000
set_option maxHeartbeats 4000000
namespace K41
open PySem PySem.Spec PyProof.Rows L2 Ol RZ
open TL (tl)
theorem beh_send (c : Nat) (b : Bool) (bd : Int) : (beh "send" c b bd).isSome = (decide ((c : Int) < bd) && !b) := by
  unfold beh beh2 beh3 beh4
  rw [if_neg (show ¬ (("send" : Str) = "take" ∧ 0 < c) from fun z => absurd z.1 (by decide +kernel)), if_neg (show ¬ (("send" : Str) = "ended" ∧ b = true ∧ c = 0) from fun z => absurd z.1 (by decide +kernel)), if_neg (show ¬ (("send" : Str) = "close" ∧ b = false) from fun z => absurd z.1 (by decide +kernel))]
  cases b with
  | true => rw [if_neg (fun z => by cases z.2.1)]; simp
  | false =>
    by_cases h : (c : Int) < bd
    · rw [if_pos ⟨rfl, rfl, h⟩, decide_eq_true h]; rfl
    · rw [if_neg (fun z => h z.2.2), decide_eq_false h]; rfl
theorem beh_take (c : Nat) (b : Bool) (bd : Int) : (beh "take" c b bd).isSome = decide ((0 : Int) < c) := by
  unfold beh beh2 beh3 beh4
  rw [if_neg (show ¬ (("take" : Str) = "send" ∧ b = false ∧ (c : Int) < bd) from fun z => absurd z.1 (by decide +kernel)), if_neg (show ¬ (("take" : Str) = "ended" ∧ b = true ∧ c = 0) from fun z => absurd z.1 (by decide +kernel)), if_neg (show ¬ (("take" : Str) = "close" ∧ b = false) from fun z => absurd z.1 (by decide +kernel))]
  by_cases h : 0 < c
  · rw [if_pos ⟨rfl, h⟩, decide_eq_true (by omega)]; rfl
  · rw [if_neg (fun z => h z.2), decide_eq_false (by omega)]; rfl
theorem beh_ended (c : Nat) (b : Bool) (bd : Int) : (beh "ended" c b bd).isSome = (b && decide (c = 0)) := by
  unfold beh beh2 beh3 beh4
  rw [if_neg (show ¬ (("ended" : Str) = "send" ∧ b = false ∧ (c : Int) < bd) from fun z => absurd z.1 (by decide +kernel)), if_neg (show ¬ (("ended" : Str) = "take" ∧ 0 < c) from fun z => absurd z.1 (by decide +kernel)), if_neg (show ¬ (("ended" : Str) = "close" ∧ b = false) from fun z => absurd z.1 (by decide +kernel))]
  cases b with
  | false => rw [if_neg (fun z => by cases z.2.1)]; rfl
  | true =>
    by_cases h : c = 0
    · rw [if_pos ⟨rfl, rfl, h⟩, decide_eq_true h]; rfl
    · rw [if_neg (fun z => h z.2.2), decide_eq_false h]; rfl
theorem beh_close (c : Nat) (b : Bool) (bd : Int) : (beh "close" c b bd).isSome = !b := by
  unfold beh beh2 beh3 beh4
  rw [if_neg (show ¬ (("close" : Str) = "send" ∧ b = false ∧ (c : Int) < bd) from fun z => absurd z.1 (by decide +kernel)), if_neg (show ¬ (("close" : Str) = "take" ∧ 0 < c) from fun z => absurd z.1 (by decide +kernel)), if_neg (show ¬ (("close" : Str) = "ended" ∧ b = true ∧ c = 0) from fun z => absurd z.1 (by decide +kernel))]
  cases b with
  | true => rw [if_neg (fun z => by cases z.2)]; rfl
  | false => rw [if_pos ⟨rfl, rfl⟩]; rfl
section
variable {P : Program} {w : World} {K : PySem.W.Frag} {mg : Str → Option Value} {base : Heap} {C S N : Addr}
/-- a place in a list of texts -/
theorem ix_all (ns : List Str) : (ns.map V.str).all flatV = true := by
  rw [List.all_eq_true]
  intro x hx
  obtain ⟨y, _, rfl⟩ := List.mem_map.mp hx
  rfl
theorem ix_eq (x : Str) : eqV (.str x) (.str x) = true := beq_self_eq_true x
theorem ix_no {ns : List Str} (hd : ns.Nodup) (j : Nat) (hj : j < ns.length) (m : Nat) (z' : V) (hm : m < j) (hz : (ns.map V.str)[m]? = some z') : eqV z' (.str ns[j]) = false := by
  rw [List.getElem?_map, List.getElem?_eq_getElem (by omega)] at hz
  cases hz
  show (ns[m] == ns[j]) = false
  exact beq_eq_false_iff_ne.mpr fun e => List.pairwise_iff_getElem.mp hd m j (by omega) hj hm e
/-! ### _law_opens -/
def spOpens : Sp := fun vs H Q _ => ∃ (db da : Addr) (va z : V) (ps : List (Str × Int)) (ns : List Str) (st : Str → Nat × Bool) (word : Str) (j : Nat) (hj : j < ns.length), vs = [.ref db, va, .ref da] ∧ H db = some (.dK (kvI ps)) ∧ Dq H va (ctD (ns.map st)) ∧
  H da = some (.tup [.str word, .str ns[j], z]) ∧ ps.length ≤ 3 ∧ ns.Perm (ps.map (·.1)) ∧ ns.Nodup ∧ sortedS ns = true ∧ word ∈ words4 ∧
  ∀ H', Ext H H' → Q (.bl (beh word (st ns[j]).1 (st ns[j]).2 (bdOf ps ns[j])).isSome) H'
abbrev s_opens : Stmt := (topS 58)
theorem sc_opens : FnScope ["_law_bounds_here", "_law_content", "_law_arm_here", "_law_count", "_law_closed"] ["_law_bounds_here", "_law_content", "_law_arm_here"] (defScope s_opens) := ⟨rfl, rfl, rfl, by decide +kernel, rfl, by decide +kernel, by decide +kernel⟩
theorem kvI_keys (ps : List (Str × Int)) : (kvI ps).map (·.1) = (ps.map (·.1)).map Sum.inr := by
  unfold kvI
  rw [List.map_map, List.map_map]
  rfl
theorem ok_opens {f : Addr} {fd : FuncData} (F : Fun K "_law_opens" "_law_opens" s_opens f fd) (T : BT mg) :
    FnOk P w K mg base CX0 1 f fd ["_law_bounds_here", "_law_content", "_law_arm_here"] spOpens := by
  refine F.ok sc_opens (fun vs H Q E h => ?_) (fun cdv A outer s H vs Q E hr h => ?_)
  · obtain ⟨db, da, va, z, ps, ns, st, word, j, hj, rfl, _⟩ := h
    rfl
  · obtain ⟨db, da, va, z, ps, ns, st, word, j, hj, rfl, hdb, hva, hda, hl3, hperm, hnd, hso, hw, q⟩ := h
    have hu := hu_of hr
    refine ⟨_, (pss_cons (ps_asg (pe_ix ix_tup (pv 1) (pe_bm PySem.F.plainAttrs_list PySem.F.slot_list_index PySem.F.type_list_index mt_index (pe_callB (call_sortedD rfl) (by rfl) T.n_sorted (by decide +kernel) (pa_cons (pv 0) pa_nil)) (pa_cons (pe_ix ix_tup (pv 2) pe_int (fun _ _ => rfl)) pa_nil)) (fun _ _ => rfl)) (pg_tup (by rfl) (pgs_cons (pg_name (i := 3) sc_opens.nd rfl (.inl rfl)) (pgs_cons (pg_name (i := 4) sc_opens.nd rfl (.inl rfl)) pgs_nil))))
    (pss_cons (ps_if (pt_cmpR op_eq (pe_ix ix_tup (pv 2) pe_int (fun _ _ => rfl)) pe_str (nomark _))
      (pss_one (ps_ret (pe_and (pe_not (pv 4)) (pe_one (pe_cmpR op_lt (pv 3) (pe_dget hu (pv 0) (pe_ix ix_tup (pv 2) pe_int (fun _ _ => rfl)) (fun _ _ => rfl)) (nomark _))))))
      pss_nil)
    (pss_cons (ps_if (pt_cmpR op_eq (pe_ix ix_tup (pv 2) pe_int (fun _ _ => rfl)) pe_str (nomark _))
      (pss_one (ps_ret (pe_cmpR op_gt (pv 3) pe_int (nomark _))))
      pss_nil)
    (pss_one (ps_ret (pe_ifExp (pt_cmpR op_eq (pe_ix ix_tup (pv 2) pe_int (fun _ _ => rfl)) pe_str (nomark _)) (pe_and (pv 4) (pe_one (pe_cmpR op_eq (pv 3) pe_int (nomark _)))) (pe_not (pv 4)))))))), ?_⟩
    obtain ⟨a, xs, rfl, ha, hxs, hxl⟩ := ct_inv hva
    obtain ⟨u, hu2, du⟩ := DqAll_get hxs j (stD (st ns[j]).1 (st ns[j]).2) (by unfold ctL; rw [List.map_map, List.getElem?_map, List.getElem?_eq_getElem hj]; rfl)
    refine ⟨_, rfl, _, rfl, db, _, _, rfl, Rd.of hdb, kvI_keys ps, (by rw [List.length_map]; omega), fun ys p1 hperm2 hso2 hp1 => ?_⟩
    obtain rfl : ys = ns := sorted_one hso2 hso (hperm2.trans hperm.symm)
    have e3 := Ext.new (o := .lst (ys.map V.str)) hp1
    have h3 : upd H p1 (.lst (ys.map V.str)) p1 = some (.lst (ys.map V.str)) := upd_same
    have hdb3 := e3 _ _ hdb
    have ha3 := e3 _ _ ha
    have hda3 := e3 _ _ hda
    have du3 := du.up e3
    replace q := q _ e3
    refine ⟨.inl ⟨rfl, _, SqL.of h3⟩, ?_⟩
    generalize upd H p1 (.lst (ys.map V.str)) = H3 at *
    refine ⟨_, rfl, da, _, 1, _, rfl, rfl, SqT.of hda3, atI_nat (by rfl), ?_⟩
    refine ⟨p1, ys.map V.str, .str ys[j], j, .str ys[j], rfl, rfl, SqL.of h3, rfl, ix_all ys, ix_get j hj, ix_eq _, ix_no hnd j hj, ?_⟩
    refine ⟨a, _, _, _, rfl, rfl, SqT.of ha3, atI_nat hu2, ?_⟩
    obtain ⟨b, rfl, hb⟩ := st_inv du3
    generalize (st ys[j]).1 = c at *
    generalize (st ys[j]).2 = cl at *
    refine ⟨b, _, rfl, SqT.of hb, rfl, _, _, rfl, _, _, rfl, rfl, ?_⟩
    have i0 : ∀ {W : V → Hp → Prop}, W (.str word) H3 → ∃ (p : Addr) (xs : List V) (i : Int) (z : V), V.ref da = .ref p ∧ V.int 0 = .int i ∧ SqT K H3 p xs ∧ atI xs i = some z ∧ W z H3 := fun h => ⟨da, _, 0, _, rfl, rfl, SqT.of hda3, atI_nat (by rfl), h⟩
    refine ⟨_, rfl, da, _, 0, _, rfl, rfl, SqT.of hda3, atI_nat (by rfl), rfl, _, rfl, ?_⟩
    refine ite2 (fun g0 => ?_) (fun g0 => ?_)
    · have g0' := dec_word.mp g0
      subst g0'
      rw [beh_send] at q
      refine ⟨_, rfl, ?_⟩
      refine ⟨_, rfl, ?_⟩
      refine ⟨_, rfl, ?_⟩
      cases cl with
      | true =>
        refine iteF ?_
        simpa using q
      | false =>
        refine iteT ?_
        have gb := DGet.k (k := Sum.inr ys[j]) hdb3
        rw [kvI_val (hperm.mem_iff.mp (List.getElem_mem hj))] at gb
        refine ⟨_, rfl, _, rfl, _, rfl, da, _, 1, _, rfl, rfl, SqT.of hda3, atI_nat (by rfl), db, _, rfl, gb, _, _, rfl, rfl, ?_⟩
        simpa using q
    refine ⟨_, rfl, da, _, 0, _, rfl, rfl, SqT.of hda3, atI_nat (by rfl), rfl, _, rfl, ?_⟩
    refine ite2 (fun g1 => ?_) (fun g1 => ?_)
    · have g1' := dec_word.mp g1
      subst g1'
      rw [beh_take] at q
      exact ⟨_, rfl, _, _, rfl, rfl, q⟩
    refine ⟨_, rfl, da, _, 0, _, rfl, rfl, SqT.of hda3, atI_nat (by rfl), rfl, _, rfl, ?_⟩
    refine ite2 (fun g2 => ?_) (fun g2 => ?_)
    · have g2' := dec_word.mp g2
      subst g2'
      rw [beh_ended] at q
      refine ⟨_, rfl, _, rfl, ?_⟩
      refine ite2 (fun g => ?_) (fun g => ?_)
      · rw [g, Bool.true_and] at q
        refine ⟨_, rfl, rfl, ?_⟩
        have e : decide (V.int (c : Int) = V.int 0) = decide (c = 0) := by
          by_cases h : c = 0
          · rw [h]; rfl
          · rw [decide_eq_false h, decide_eq_false (fun z => h (by injection z with z; omega))]
        rw [e]
        exact q
      · rw [Bool.eq_false_iff.mpr g, Bool.false_and] at q
        exact q
    · have hcl : word = "close" := by
        unfold words4 at hw
        simp only [List.mem_cons, List.not_mem_nil, or_false] at hw
        rcases hw with h | h | h | h
        · exact h
        · exact absurd (dec_word.mpr h) g2
        · exact absurd (dec_word.mpr h) g0
        · exact absurd (dec_word.mpr h) g1
      subst hcl
      rw [beh_close] at q
      exact ⟨_, rfl, _, rfl, q⟩
end
end K41

set_option Elab.async false
set_option linter.all false
set_option maxRecDepth 100000
set_option maxHeartbeats 4000000
namespace K41
open PySem PySem.Spec PyProof.Rows L2 Ol RZ
open TL (tl)
/-- an arm with a word is open, by the states and the bounds of the lanes -/
def openB (st : Str → Nat × Bool) (bd : Str → Int) (a : Arm) : Bool := match a.1 with
  | some p => (beh p.1 (st p.2).1 (st p.2).2 (bd p.2)).isSome
  | none => false
/-- the indexes of what p says of -/
def idxs (q : Arm → Bool) (as : List Arm) : List Nat := (List.range as.length).filter fun i => q (as.getD i (none, 0))
def openI (st : Str → Nat × Bool) (bd : Str → Int) (as : List Arm) : List Nat := if idxs (openB st bd) as = [] then idxs (fun a => a.1.isNone) as else idxs (openB st bd) as
theorem idxs_step {q : Arm → Bool} {as : List Arm} {k : Nat} (h : k < as.length) : (List.range (k + 1)).filter (fun i => q (as.getD i (none, 0))) = (List.range k).filter (fun i => q (as.getD i (none, 0))) ++ (if q as[k] = true then [k] else []) := by
  rw [List.range_succ, List.filter_append]
  congr 1
  have e : as.getD k (none, 0) = as[k] := by rw [List.getD_eq_getElem?_getD, List.getElem?_eq_getElem h]; rfl
  cases hq : q as[k] with
  | true => rw [if_pos rfl, List.filter_cons_of_pos (by rw [e]; exact hq)]; rfl
  | false => rw [if_neg (by decide), List.filter_cons_of_neg (by rw [e, hq]; decide)]; rfl
/-- Lanes and a content, as the law knows them -/
structure Ctx (C : Addr) (H : Hp) (lx : Addr) (v : V) (ns : List Str) (st : Str → Nat × Bool) (bd : Str → Int) : Prop where
  hL : LanesAt C H lx ns (ns.map bd)
  hv : Dq H v (ctD (ns.map st))
theorem Ctx.up {C : Addr} {H H' : Hp} {lx : Addr} {v : V} {ns : List Str} {st : Str → Nat × Bool} {bd : Str → Int} (e : Ext H H') (h : Ctx C H lx v ns st bd) : Ctx C H' lx v ns st bd := ⟨h.hL.up e, h.hv.up e⟩
def GAs (ns : List Str) (as : List Arm) : Prop := ∀ a ∈ as, GArm a ∧ ∀ p, a.1 = some p → p.2 ∈ ns
section
variable {P : Program} {w : World} {K : PySem.W.Frag} {mg : Str → Option Value} {base : Heap} {C CP : Addr}
def spOA (C : Addr) : Sp := fun vs H Q _ => ∃ (lx al : Addr) (v : V) (ys : List V) (as : List Arm) (ns : List Str) (st : Str → Nat × Bool) (bd : Str → Int), vs = [.ref lx, .ref al, v] ∧ Ctx C H lx v ns st bd ∧ H al = some (.lst ys) ∧ DqAll H ys (as.map armD) ∧ GAs ns as ∧ as.length ≤ 10 ∧
  ∀ (l : Addr) (H' : Hp), H l = none → Ext H H' → H' l = some (.lst ((openI st bd as).map fun i : Nat => V.int (i : Int))) → Q (.ref l) H'
abbrev s_oa : Stmt := (topS 34)
abbrev nOa : List Str := ["lanes", "arms", "content", "indexes", "index", "arm"]
theorem sc_oa : FnScope nOa ["lanes", "arms", "content"] (defScope s_oa) := ⟨rfl, rfl, rfl, by decide +kernel, rfl, by decide +kernel, by decide +kernel⟩
theorem ok_oa {f : Addr} {fd : FuncData} (F : Fun K "open_arms" "open_arms" s_oa f fd) (T : BT mg) (L : LT K mg C) (CE : Ca P w K mg base 1 "is_else" ["arm"] spElse) (MO : Cm P w K mg base C 4 "is_open" ["self", "content", "word", "lane"] (spOpen C)) :
    FnOk P w K mg base CX0 5 f fd ["lanes", "arms", "content"] (spOA C) := by
  refine F.ok sc_oa (fun vs H Q E h => ?_) (fun cdv A outer s H vs Q E hr h => ?_)
  · obtain ⟨lx, al, v, ys, as, ns, st, bd, rfl, _⟩ := h
    rfl
  · obtain ⟨lx, al, v, ys, as, ns, st, bd, rfl, X, ha, hy, ga, few, q⟩ := h
    refine ⟨_, (pss_cons (ps_setLc (i := 3) (own := [("index", 4), ("arm", 5)]) (g := gTup K 2 (gCons (gName 4) (gCons (gName 5) gNil))) rfl sc_oa.nd rfl rfl (sw_true rfl rfl rfl (by decide +kernel)) (pi_enum (by rfl) L.n_enum (pa_cons (pv 1) pa_nil)) (blkOk_by (N := nOa) (sc := defScope s_oa) (by decide +kernel)) (fun _ _ _ _ _ => pg_tup (by rfl) (pgs_cons (pg_name (i := 4) sc_oa.nd rfl (.inl rfl)) (pgs_cons (pg_name (i := 5) sc_oa.nd rfl (.inl rfl)) pgs_nil)))
          (tt := tAnd (tNot (tB (tCall spElse [] E0 (tCons (tVar 5) tNil)))) (tB (tMeth C "is_open" (spOpen C) [] E0 (tVar 0) (tCons (tVar 2) (tCons (tOp (rIxT K) (tVar 5) (tC (.int 0))) (tCons (tOp (rIxT K) (tVar 5) (tC (.int 1))) tNil)))))) (fun _ _ _ _ _ => pts_one (PW.pt (pw_and (pt_not (pt_val (pe_ca CE (hr.mono (by decide)) (by rfl) (pa_cons (pv 5) pa_nil)))) (pw_and1 (pt_val (pe_cm MO L.cl (hr.mono (by decide)) (pv 0) (pa_cons (pv 2) (pa_cons (pe_ix ix_tup (pv 5) pe_int (fun _ _ => rfl)) (pa_cons (pe_ix ix_tup (pv 5) pe_int (fun _ _ => rfl)) pa_nil))))))))) (fun _ _ _ _ _ => pv 4))
      (pss_cons (ps_if (pt_not (pt_truth (pv 3) (fun _ => rfl)))
        (pss_one (ps_setLc (i := 3) (own := [("index", 4), ("arm", 5)]) (g := gTup K 2 (gCons (gName 4) (gCons (gName 5) gNil))) rfl sc_oa.nd rfl rfl (sw_true rfl rfl rfl (by decide +kernel)) (pi_enum (by rfl) L.n_enum (pa_cons (pv 1) pa_nil)) (blkOk_by (N := nOa) (sc := defScope s_oa) (by decide +kernel)) (fun _ _ _ _ _ => pg_tup (by rfl) (pgs_cons (pg_name (i := 4) sc_oa.nd rfl (.inl rfl)) (pgs_cons (pg_name (i := 5) sc_oa.nd rfl (.inl rfl)) pgs_nil)))
          (fun _ _ _ _ _ => pts_one (pt_val (pe_ca CE (hr.mono (by decide)) (by rfl) (pa_cons (pv 5) pa_nil)))) (fun _ _ _ _ _ => pv 4))) pss_nil)
      (pss_one (ps_ret (pv 3))))), ?_⟩
    have ly : ys.length = as.length := by rw [hy.len, List.length_map]
    have idx : ∀ l ∈ ns, ∃ (i : Nat) (hi : i < ns.length), ns[i] = l := fun l hl => by
      obtain ⟨i, hi, e⟩ := List.getElem_of_mem hl
      exact ⟨i, hi, e⟩
    refine ⟨_, rfl, al, _, rfl, SqL.of ha, fun D hD => ?_⟩
    refine lc1_acc (walk_enum (xs := ys)) (fun k zs _ => zs = ((List.range k).filter fun i => openB st bd (as.getD i (none, 0))).map (fun i : Nat => V.int (i : Int)) ∧ k ≤ 10) (fun _ _ _ _ _ h => h) ⟨rfl, by decide⟩ hD
      (fun k zs _ h => by rw [h.1, List.length_map]; exact Nat.lt_of_le_of_lt (Nat.le_trans (List.length_filter_le ..) (by rw [List.length_range]; exact h.2)) (by decide)) (fun H' e => SqL.of (e _ _ ha)) ?_ ?_
    · rintro k x Hi H' zs hk e hz ⟨T', y1, y2, rfl, hT, rfl, g1, g2⟩ ⟨hp, _⟩ QY QN kY kN
      have hk2 : k < as.length := by omega
      obtain ⟨x', hx', dx'⟩ := DqAll_get hy k (armD as[k]) (by rw [List.getElem?_map, List.getElem?_eq_getElem hk2]; rfl)
      cases g1
      dsimp only at g2
      rw [hx'] at g2
      cases g2
      have eT := Ext.new (o := .tup [.int (k : Int), y2]) hT
      have e2 := e.trans eT
      have dx2 := dx'.up e2
      have gk := ga _ (List.getElem_mem hk2)
      have X2 := X.up e2
      refine ⟨T', _, rfl, SqT.of upd_same, rfl, _, _, rfl, _, _, rfl, rfl, rfl, ?_⟩
      refine ⟨_, rfl, y2, as[k], rfl, dx2, _, rfl, ?_⟩
      cases ho : as[k].1 with
      | none =>
        refine iteF ?_
        refine kN _ eT ⟨?_, by omega⟩
        have : openB st bd as[k] = false := by unfold openB; rw [ho]
        rw [hp, idxs_step hk2, this]
        simp
      | some pr =>
        refine iteT ?_
        obtain ⟨t4, ws, rfl, h4, _, h40, h41⟩ := arm_inv dx2
        have h41' := h41 pr ho
        rw [ho] at h40
        obtain ⟨j, hj, ej⟩ := idx _ (gk.2 pr ho)
        obtain ⟨dx, n, b, sp, i1, _⟩ := id X2.hL
        refine ⟨_, rfl, lx, dx, _, rfl, i1, lf_no _ _ _ (by decide +kernel) (by decide +kernel) (by decide +kernel), _, rfl, _, rfl, t4, ws, 0, .str pr.1, rfl, rfl, SqT.of h4, h40, _, rfl, t4, ws, 1, .str pr.2, rfl, rfl, SqT.of h4, h41', lx, ns, _, v, ns.map st, pr.1, j, hj, st pr.2, bd pr.2, (by rw [ej]; rfl), X2.hL, X2.hv, by rw [List.getElem?_map, List.getElem?_eq_getElem hj, ej]; rfl, by rw [List.getElem?_map, List.getElem?_eq_getElem hj, ej]; rfl, fun H3 e3 => ⟨_, rfl, ?_⟩⟩
        have eo : openB st bd as[k] = (beh pr.1 (st pr.2).1 (st pr.2).2 (bd pr.2)).isSome := by unfold openB; rw [ho]
        rw [← eo]
        refine ite2 (fun g => ?_) (fun g => ?_)
        · refine ⟨_, rfl, kY _ _ (eT.trans e3) ⟨?_, by omega⟩⟩
          rw [hp, idxs_step hk2, if_pos g, List.map_append]
          rfl
        · refine kN _ (eT.trans e3) ⟨?_, by omega⟩
          rw [hp, idxs_step hk2, if_neg g, List.append_nil]
    rintro H2 zs e2 h2 ⟨hz, _⟩
    rw [ly] at hz
    have hz' : zs = (idxs (openB st bd) as).map (fun i : Nat => V.int (i : Int)) := hz
    refine ⟨_, rfl, !zs.isEmpty, .inl ⟨zs, SqL.of h2, rfl⟩, ?_⟩
    by_cases em : idxs (openB st bd) as = []
    · have ze : zs.isEmpty = true := by rw [hz', em]; rfl
      rw [ze]
      refine iteT ?_
      have ha2 := e2 _ _ ha
      refine ⟨_, rfl, al, _, rfl, SqL.of ha2, fun D2 hD2 => ?_⟩
      refine lc1_acc (walk_enum (xs := ys)) (fun k zs _ => zs = ((List.range k).filter fun i => (fun a : Arm => a.1.isNone) (as.getD i (none, 0))).map (fun i : Nat => V.int (i : Int)) ∧ k ≤ 10) (fun _ _ _ _ _ h => h) ⟨rfl, by decide⟩ hD2
        (fun k zs _ h => by rw [h.1, List.length_map]; exact Nat.lt_of_le_of_lt (Nat.le_trans (List.length_filter_le ..) (by rw [List.length_range]; exact h.2)) (by decide)) (fun H' e => SqL.of (e _ _ ha2)) ?_ ?_
      · rintro k x Hi H' zs hk e hz ⟨T', y1, y2, rfl, hT, rfl, g1, g2⟩ ⟨hp, _⟩ QY QN kY kN
        have hk2 : k < as.length := by omega
        obtain ⟨x', hx', dx'⟩ := DqAll_get hy k (armD as[k]) (by rw [List.getElem?_map, List.getElem?_eq_getElem hk2]; rfl)
        cases g1
        dsimp only at g2
        rw [hx'] at g2
        cases g2
        have eT := Ext.new (o := .tup [.int (k : Int), y2]) hT
        have e3 := (e2.trans e).trans eT
        refine ⟨T', _, rfl, SqT.of upd_same, rfl, _, _, rfl, _, _, rfl, rfl, rfl, ?_⟩
        refine ⟨_, rfl, y2, as[k], rfl, dx'.up e3, _, rfl, ?_⟩
        refine ite2 (fun g => ?_) (fun g => ?_)
        · refine ⟨_, rfl, kY _ _ eT ⟨?_, by omega⟩⟩
          rw [hp, idxs_step (q := fun a : Arm => a.1.isNone) hk2, if_pos g, List.map_append]
          rfl
        · refine kN _ eT ⟨?_, by omega⟩
          rw [hp, idxs_step (q := fun a : Arm => a.1.isNone) hk2, if_neg g, List.append_nil]
      rintro H3 zs3 e3 h3 ⟨hz3, _⟩
      rw [ly] at hz3
      refine ⟨_, rfl, q D2 H3 (e2.free hD2) (e2.trans e3) ?_⟩
      unfold openI
      rw [if_pos em, h3, hz3]
      rfl
    · have ze : zs.isEmpty = false := by
        rw [hz']
        cases hq : idxs (openB st bd) as with
        | nil => exact absurd hq em
        | cons _ _ => rfl
      rw [ze]
      refine iteF ?_
      refine ⟨_, rfl, q D H2 hD e2 ?_⟩
      unfold openI
      rw [if_neg em, h2, hz']
end
end K41

set_option Elab.async false
set_option linter.all false
set_option maxRecDepth 100000
set_option maxHeartbeats 4000000
namespace K41
open PySem PySem.Spec PyProof.Rows L2 Ol RZ
open TL (tl)
def allowI (st : Str → Nat × Bool) (bd : Str → Int) (p : Place) : List Nat := if p.1 = "first" then (openI st bd p.2).take 1 else openI st bd p.2
section
variable {P : Program} {w : World} {K : PySem.W.Frag} {mg : Str → Option Value} {base : Heap} {C CP : Addr}
def spAl (C : Addr) : Sp := fun vs H Q _ => ∃ (lx al : Addr) (v : V) (ys : List V) (p : Place) (ns : List Str) (st : Str → Nat × Bool) (bd : Str → Int), vs = [.ref lx, .str p.1, .ref al, v] ∧ Ctx C H lx v ns st bd ∧ H al = some (.lst ys) ∧ DqAll H ys (p.2.map armD) ∧ GAs ns p.2 ∧ p.2.length ≤ 10 ∧
  ∀ (l : Addr) (H' : Hp), H l = none → Ext H H' → H' l = some (.lst ((allowI st bd p).map fun i : Nat => V.int (i : Int))) → Q (.ref l) H'
abbrev s_al : Stmt := (topS 35)
theorem sc_al : FnScope ["lanes", "mode", "arms", "content", "indexes"] ["lanes", "mode", "arms", "content"] (defScope s_al) := ⟨rfl, rfl, rfl, by decide +kernel, rfl, by decide +kernel, by decide +kernel⟩
theorem ok_al {f : Addr} {fd : FuncData} (F : Fun K "allowed" "allowed" s_al f fd) (CO : Ca P w K mg base 5 "open_arms" ["lanes", "arms", "content"] (spOA C)) :
    FnOk P w K mg base CX0 6 f fd ["lanes", "mode", "arms", "content"] (spAl C) := by
  refine F.ok sc_al (fun vs H Q E h => ?_) (fun cdv A outer s H vs Q E hr h => ?_)
  · obtain ⟨lx, al, v, ys, p, ns, st, bd, rfl, _⟩ := h
    rfl
  · obtain ⟨lx, al, v, ys, p, ns, st, bd, rfl, X, ha, hy, ga, few, q⟩ := h
    refine ⟨_, (pss_cons (ps_set (i := 4) sc_al.nd rfl (.inl rfl) (pe_ca CO (hr.mono (by decide)) (by rfl) (pa_cons (pv 0) (pa_cons (pv 2) (pa_cons (pv 3) pa_nil)))))
      (pss_cons (ps_if (pt_cmpR op_eq (pv 1) pe_str (nomark _)) (pss_one (ps_ret (pe_slice sl_list (pv 4) po_none (po_some pe_int)))) pss_nil)
      (pss_one (ps_ret (pv 4))))), ?_⟩
    refine ⟨_, rfl, _, rfl, _, rfl, lx, al, v, ys, p.2, ns, st, bd, rfl, X, ha, hy, ga, few, fun l H1 nl e1 hl => ?_⟩
    refine ⟨_, rfl, rfl, _, rfl, ?_⟩
    refine ite2 (fun g => ?_) (fun g => ?_)
    · have z := of_decide_eq_true g
      injection z with z
      refine ⟨_, rfl, _, rfl, l, _, rfl, SqL.of hl, fun l2 hl2 => ?_⟩
      have e2 := Ext.new (o := .lst (cutV ((openI st bd p.2).map fun i : Nat => V.int (i : Int)) none (some 1))) hl2
      refine q l2 _ (e1.free hl2) (e1.trans e2) ?_
      rw [upd_same]
      unfold allowI
      rw [if_pos z, List.map_take]
      have := cut_take ((openI st bd p.2).map fun i : Nat => V.int (i : Int)) 1
      rw [show (some ((1 : Nat) : Int)) = (some (1 : Int)) from rfl] at this
      rw [this]
    · have z : ¬ p.1 = "first" := fun z => g (by rw [z]; exact decide_eq_true rfl)
      refine ⟨_, rfl, q l H1 nl e1 ?_⟩
      unfold allowI
      rw [if_neg z, hl]
/-! ### choices -/
structure MdM (P : Program) (w : World) (K : PySem.W.Frag) (mg : Str → Option Value) (base : Heap) (CP : Addr) : Prop where
  md : Cm P w K mg base CP 4 "mode" ["self", "place"] (spMode CP)
  as : Cm P w K mg base CP 4 "arms" ["self", "place"] (spArms CP)
def spAt (C CP : Addr) : Sp := fun vs H Q _ => ∃ (lx pr : Addr) (v : V) (ps : List Place) (i : Nat) (hi : i < ps.length) (ns : List Str) (st : Str → Nat × Bool) (bd : Str → Int), vs = [.ref lx, .ref pr, .int (i : Int), v] ∧ Ctx C H lx v ns st bd ∧ ProgAt CP H pr ps ∧ (∀ x ∈ lanesP ps, x ∈ ns) ∧
  ∀ (l : Addr) (H' : Hp), H l = none → Ext H H' → H' l = some (.lst ((allowI st bd ps[i]).map fun i : Nat => V.int (i : Int))) → Q (.ref l) H'
abbrev s_at : Stmt := (topS 36)
theorem sc_at : FnScope ["lanes", "program", "place", "content"] ["lanes", "program", "place", "content"] (defScope s_at) := ⟨rfl, rfl, rfl, by decide +kernel, rfl, by decide +kernel, by decide +kernel⟩
theorem gas_of {ps : List Place} {ns : List Str} (ok : Pls ps) (sub : ∀ x ∈ lanesP ps, x ∈ ns) {i : Nat} (hi : i < ps.length) : GAs ns ps[i].2 := by
  intro a ha
  refine ⟨((ok.ok _ (List.getElem_mem hi)).arms a ha).1, fun p hp => sub _ ?_⟩
  unfold lanesP lanesA
  refine List.mem_flatMap.mpr ⟨ps[i], List.getElem_mem hi, List.mem_filterMap.mpr ⟨a, ha, ?_⟩⟩
  rw [hp]
  rfl
theorem ok_at {f : Addr} {fd : FuncData} (F : Fun K "allowed_at" "allowed_at" s_at f fd) (LP : PT K mg CP) (MM : MdM P w K mg base CP) (CAl : Ca P w K mg base 6 "allowed" ["lanes", "mode", "arms", "content"] (spAl C)) :
    FnOk P w K mg base CX0 7 f fd ["lanes", "program", "place", "content"] (spAt C CP) := by
  refine F.ok sc_at (fun vs H Q E h => ?_) (fun cdv A outer s H vs Q E hr h => ?_)
  · obtain ⟨lx, pr, v, ps, i, hi, ns, st, bd, rfl, _⟩ := h
    rfl
  · obtain ⟨lx, pr, v, ps, i, hi, ns, st, bd, rfl, X, hP, sub, q⟩ := h
    refine ⟨_, (pss_one (ps_ret (pe_ca CAl (hr.mono (by decide)) (by rfl) (pa_cons (pv 0) (pa_cons (pe_cm MM.md LP.cl (hr.mono (by decide)) (pv 1) (pa_cons (pv 2) pa_nil)) (pa_cons (pe_cm MM.as LP.cl (hr.mono (by decide)) (pv 1) (pa_cons (pv 2) pa_nil)) (pa_cons (pv 3) pa_nil))))))), ?_⟩
    obtain ⟨dx, t, u, xs, us, h1, _, _, _, _, _, _, _, ok⟩ := id hP
    refine ⟨_, rfl, _, rfl, pr, dx, _, rfl, h1, pf_no _ _ (by decide +kernel) (by decide +kernel), _, rfl, pr, ps, i, hi, rfl, hP, fun H1 e1 => ?_⟩
    refine ⟨_, rfl, pr, dx, _, rfl, e1 _ _ h1, pf_no _ _ (by decide +kernel) (by decide +kernel), _, rfl, pr, ps, i, hi, rfl, hP.up e1, fun l ys H2 nl e2 hl hys => ?_⟩
    have e12 := e1.trans e2
    have few := (ok.ok _ (List.getElem_mem hi)).few
    exact ⟨_, rfl, lx, l, v, ys, ps[i], ns, st, bd, rfl, X.up e12, hl, hys, gas_of ok sub hi, by omega, fun l2 H3 nl2 e3 hl2 => q l2 H3 (e12.free nl2) (e12.trans e3) hl2⟩
end
end K41

set_option Elab.async false
set_option linter.all false
set_option maxRecDepth 100000
set_option maxHeartbeats 4000000
namespace K41
open PySem PySem.Spec PyProof.Rows L2 Ol RZ
open TL (tl)
section
variable {P : Program} {w : World} {K : PySem.W.Frag} {mg : Str → Option Value} {base : Heap} {C CP : Addr}
/-! ### behind_arm -/
def spBA (C : Addr) : Sp := fun vs H Q _ => ∃ (lx : Addr) (va v : V) (a : Arm) (ns : List Str) (st : Str → Nat × Bool) (bd : Str → Int), vs = [.ref lx, va, v] ∧ Ctx C H lx v ns st bd ∧ Dq H va (armD a) ∧
  ((a.1 = none ∧ ∀ (r : V) (H' : Hp), Ext H H' → Dq H' r (.tuple [.int (a.2 : Int), ctD (ns.map st)]) → Q r H') ∨
   (∃ (p : Str × Str) (j : Nat) (hj : j < ns.length) (s2 : Nat × Bool), a.1 = some p ∧ ns[j] = p.2 ∧ beh p.1 (st p.2).1 (st p.2).2 (bd p.2) = some s2 ∧ ∀ (r : V) (H' : Hp), Ext H H' → Dq H' r (.tuple [.int (a.2 : Int), ctD ((ns.map st).set j s2)]) → Q r H'))
abbrev s_ba : Stmt := (topS 37)
theorem sc_ba : FnScope ["lanes", "arm", "content"] ["lanes", "arm", "content"] (defScope s_ba) := ⟨rfl, rfl, rfl, by decide +kernel, rfl, by decide +kernel, by decide +kernel⟩
theorem ok_ba {f : Addr} {fd : FuncData} (F : Fun K "behind_arm" "behind_arm" s_ba f fd) (L : LT K mg C) (CE : Ca P w K mg base 1 "is_else" ["arm"] spElse) (MD : Cm P w K mg base C 4 "done" ["self", "content", "word", "lane"] (spDone C)) :
    FnOk P w K mg base CX0 5 f fd ["lanes", "arm", "content"] (spBA C) := by
  refine F.ok sc_ba (fun vs H Q E h => ?_) (fun cdv A outer s H vs Q E hr h => ?_)
  · obtain ⟨lx, va, v, a, ns, st, bd, rfl, _⟩ := h
    rfl
  · obtain ⟨lx, va, v, a, ns, st, bd, rfl, X, ha, q⟩ := h
    refine ⟨_, (pss_cons (ps_if (pt_val (pe_ca CE (hr.mono (by decide)) (by rfl) (pa_cons (pv 1) pa_nil))) (pss_one (ps_ret (pe_tup (pa_cons (pe_ix ix_tup (pv 1) pe_int (fun _ _ => rfl)) (pa_cons (pv 2) pa_nil))))) pss_nil)
      (pss_one (ps_ret (pe_tup (pa_cons (pe_ix ix_tup (pv 1) pe_int (fun _ _ => rfl)) (pa_cons (pe_cm MD L.cl (hr.mono (by decide)) (pv 0) (pa_cons (pv 2) (pa_cons (pe_ix ix_tup (pv 1) pe_int (fun _ _ => rfl)) (pa_cons (pe_ix ix_tup (pv 1) pe_int (fun _ _ => rfl)) pa_nil)))) pa_nil)))))), ?_⟩
    obtain ⟨o, g⟩ := a
    refine ⟨_, rfl, va, (o, g), rfl, ha, _, rfl, ?_⟩
    rcases q with ⟨e, q⟩ | ⟨p, j, hj, s2, e, ej, eb, q⟩
    · cases (show o = none from e)
      obtain ⟨t, xs, ds, rfl, ed, h1, h2⟩ := dq_tup (d := .tuple [.str "else", .int (g : Int)]) ha rfl
      cases ed
      cases h2 with
      | cons a1 t1 => cases t1 with
        | cons a2 t2 =>
          cases t2
          cases a1
          cases a2
          refine iteT ?_
          refine ⟨_, rfl, t, _, 1, .int (g : Int), rfl, rfl, SqT.of h1, rfl, _, rfl, by show 2 ≤ sizeLine; decide, fun n hn => ?_⟩
          have e1 := Ext.new (o := .tup [.int (g : Int), v]) hn
          exact q _ _ e1 (.tup upd_same (.cons (.int _) (.cons (X.hv.up e1) .nil)))
    · cases (show o = some p from e)
      obtain ⟨t, xs, ds, rfl, ed, h1, h2⟩ := dq_tup (d := .tuple [.str p.1, .str p.2, .int (g : Int)]) ha rfl
      cases ed
      cases h2 with
      | cons a1 t1 => cases t1 with
        | cons a2 t2 => cases t2 with
          | cons a3 t3 =>
            cases t3
            cases a1
            cases a2
            cases a3
            refine iteF ?_
            obtain ⟨dx, n, b, sp, i1, _, _, _, _, _, l60, _⟩ := id X.hL
            refine ⟨_, rfl, t, _, 2, .int (g : Int), rfl, rfl, SqT.of h1, rfl, _, rfl, lx, dx, _, rfl, i1, lf_no _ _ _ (by decide +kernel) (by decide +kernel) (by decide +kernel), _, rfl, _, rfl, t, _, 0, .str p.1, rfl, rfl, SqT.of h1, rfl, _, rfl, t, _, 1, .str p.2, rfl, rfl, SqT.of h1, rfl, lx, ns, _, v, ns.map st, p.1, j, hj, st p.2, bd p.2, (by rw [ej]; rfl), X.hL, X.hv, by rw [List.getElem?_map, List.getElem?_eq_getElem hj, ej]; rfl, by rw [List.getElem?_map, List.getElem?_eq_getElem hj, ej]; rfl, by rw [List.length_map]; omega, s2, eb, fun r H1 e1 hr1 => ?_⟩
            refine ⟨by show 2 ≤ sizeLine; decide, fun m hm => ?_⟩
            have e2 := Ext.new (o := .tup [.int (g : Int), r]) hm
            exact q _ _ (e1.trans e2) (.tup upd_same (.cons (.int _) (.cons (hr1.up e2) .nil)))
end
end K41

set_option Elab.async false
set_option linter.all false
set_option maxRecDepth 100000
set_option maxHeartbeats 4000000
namespace K41
open PySem PySem.Spec PyProof.Rows L2 Ol RZ
open TL (tl)
theorem inV_idx : ∀ (l : List Nat) (j : Nat), inV (.int (j : Int)) (l.map fun i : Nat => V.int (i : Int)) = decide (j ∈ l)
  | [], j => rfl
  | i :: l, j => by
    have ih := inV_idx l j
    unfold inV at ih ⊢
    rw [List.map_cons, List.any_cons, ih]
    by_cases h : i = j
    · subst h
      simp [eqV]
    · have h2 : ¬ (i : Int) = (j : Int) := by omega
      have h3 : ¬ j = i := fun z => h z.symm
      by_cases m : j ∈ l <;> simp [eqV, h, h2, h3, m]
theorem flat_idx (l : List Nat) : (l.map fun i : Nat => V.int (i : Int)).all flatV = true := by
  rw [List.all_map]
  exact List.all_eq_true.mpr fun _ _ => rfl
theorem mem_allow {st : Str → Nat × Bool} {bd : Str → Int} {p : Place} {j : Nat} (hj : j < p.2.length) (h : j ∈ allowI st bd p) : openB st bd p.2[j] = true ∨ p.2[j].1 = none := by
  have h1 : j ∈ openI st bd p.2 := by
    unfold allowI at h
    split at h
    · exact List.mem_of_mem_take h
    · exact h
  have gd : p.2.getD j (none, 0) = p.2[j] := by rw [List.getD_eq_getElem?_getD, List.getElem?_eq_getElem hj]; rfl
  unfold openI idxs at h1
  split at h1
  · have := (List.mem_filter.mp h1).2
    rw [gd] at this
    exact .inr (Option.isNone_iff_eq_none.mp this)
  · have := (List.mem_filter.mp h1).2
    rw [gd] at this
    exact .inl this
theorem idx_at {ns : List Str} (hd : ns.Nodup) {j : Nat} (hj : j < ns.length) {x : Str} (e : ns[j] = x) : ns.findIdx? (fun y => decide (y = x)) = some j := by
  rw [List.findIdx?_eq_some_iff_getElem]
  refine ⟨hj, decide_eq_true e, fun k hk => ?_⟩
  have := List.pairwise_iff_getElem.mp hd k j (by omega) hj hk
  rw [e] at this
  simpa using this
end K41

set_option Elab.async false
set_option linter.all false
set_option maxRecDepth 100000
set_option maxHeartbeats 4000000
namespace K41
open PySem PySem.Spec PyProof.Rows L2 Ol RZ
open TL (tl)
/-! ### steps of a system, as data -/
abbrev Seat := Str × Nat
structure Stp where
  who : Str
  pl : Nat
  ix : Nat
/-- a standing: the server's place, the content by lanes, the counts by seats -/
structure Sd where
  pl : Nat
  st : Str → Nat × Bool
  ct : List Nat
def Sd.std (ns : List Str) (s : Sd) : Std := ⟨s.pl, ns.map s.st, s.ct⟩
/-- the parts of a system that do not change -/
structure Wd where
  ns : List Str
  bd : Str → Int
  sv : List Place
  ks : List Knd
namespace Wd
variable (W : Wd)
def rows (u : Str) : List Place := if u = "" then W.sv else plOf W.ks u
def row (u : Str) (p : Nat) : Place := (W.rows u).getD p ("", [])
def arm (t : Stp) : Arm := (W.row t.who t.pl).2.getD t.ix (none, 0)
def spot (x : Seat) : Nat := (seatsOf W.ks).idxOf x
def cnt (ct : List Nat) (x : Seat) : Nat := ct.getD (W.spot x) 0
def thereB (ct : List Nat) (u : Str) (p : Nat) : Bool := decide (p = 0 ∨ 0 < W.cnt ct (u, p))
def theres (s : Sd) : List Seat := ("", s.pl) :: W.ks.flatMap fun k => ((List.range k.2.length).filter (W.thereB s.ct k.1)).map fun p => (k.1, p)
def stepsAt (s : Sd) (x : Seat) : List Stp := (allowI s.st W.bd (W.row x.1 x.2)).map fun i => ⟨x.1, x.2, i⟩
def steps (s : Sd) : List Stp := (W.theres s).flatMap (W.stepsAt s)
def moved (st : Str → Nat × Bool) (a : Arm) : Str → Nat × Bool := fun y => match a.1 with
  | none => st y
  | some p => if y = p.2 then (beh p.1 (st p.2).1 (st p.2).2 (W.bd p.2)).getD (st p.2) else st y
def recnt (ct : List Nat) (u : Str) (p : Nat) (f : Nat → Nat) : List Nat := if p = 0 then ct else ct.set (W.spot (u, p)) (f (W.cnt ct (u, p)))
def after (s : Sd) (t : Stp) : Sd := if t.who = "" then ⟨(W.arm t).2, W.moved s.st (W.arm t), s.ct⟩
  else ⟨s.pl, W.moved s.st (W.arm t), W.recnt (W.recnt s.ct t.who t.pl (· - 1)) t.who (W.arm t).2 (· + 1)⟩
end Wd
/-- what holds of the parts -/
structure GW (W : Wd) : Prop where
  gs : GSys W.ns W.sv W.ks
  ps : Pls W.sv
  pk : ∀ k ∈ W.ks, Pls k.2
  nd : W.ns.Nodup
  n1 : W.ns ≠ []
/-- what holds of a standing -/
structure GSd (W : Wd) (s : Sd) : Prop where
  pl : s.pl < W.sv.length
  st : ∀ x ∈ W.ns, ((s.st x).1 : Int) ≤ W.bd x
  ct : s.ct.length = (seatsOf W.ks).length
theorem name_ne {x : Str} (h : isNameS x = true) : x ≠ "" := by
  obtain ⟨h1, h2, _⟩ := name_tl h
  intro z
  subst z
  exact absurd h1 (by decide +kernel)
section
variable {W : Wd}
theorem GW.ne (g : GW W) {k : Knd} (h : k ∈ W.ks) : k.1 ≠ "" := name_ne (g.gs.nm k h)
theorem GW.rows0 (_ : GW W) : W.rows "" = W.sv := if_pos rfl
theorem GW.rowsK (g : GW W) {k : Knd} (h : k ∈ W.ks) : W.rows k.1 = k.2 := by
  unfold Wd.rows
  rw [if_neg (g.ne h), plOf_mem g.gs.nd h]
theorem mem_theres (g : GW W) {s : Sd} {u : Str} {p : Nat} : (u, p) ∈ W.theres s ↔ (u = "" ∧ p = s.pl) ∨ ∃ k ∈ W.ks, u = k.1 ∧ p < k.2.length ∧ W.thereB s.ct u p = true := by
  unfold Wd.theres
  rw [List.mem_cons, List.mem_flatMap]
  constructor
  · rintro (h | ⟨k, hk, h⟩)
    · injection h with h1 h2
      exact .inl ⟨h1, h2⟩
    · obtain ⟨i, hi, e⟩ := List.mem_map.mp h
      injection e with e1 e2
      subst e1 e2
      obtain ⟨h1, h2⟩ := List.mem_filter.mp hi
      exact .inr ⟨k, hk, rfl, List.mem_range.mp h1, h2⟩
  · rintro (⟨rfl, rfl⟩ | ⟨k, hk, rfl, h1, h2⟩)
    · exact .inl rfl
    · exact .inr ⟨k, hk, List.mem_map.mpr ⟨p, List.mem_filter.mpr ⟨List.mem_range.mpr h1, h2⟩, rfl⟩⟩
theorem mem_steps {s : Sd} {t : Stp} : t ∈ W.steps s ↔ (t.who, t.pl) ∈ W.theres s ∧ t.ix ∈ allowI s.st W.bd (W.row t.who t.pl) := by
  unfold Wd.steps Wd.stepsAt
  rw [List.mem_flatMap]
  constructor
  · rintro ⟨x, hx, h⟩
    obtain ⟨i, hi, rfl⟩ := List.mem_map.mp h
    exact ⟨hx, hi⟩
  · rintro ⟨h1, h2⟩
    exact ⟨_, h1, List.mem_map.mpr ⟨t.ix, h2, rfl⟩⟩
/-- a place that is there is a place of its program -/
theorem there_lt (g : GW W) {s : Sd} (gs : GSd W s) {u : Str} {p : Nat} (h : (u, p) ∈ W.theres s) : p < (W.rows u).length := by
  rcases (mem_theres g).mp h with ⟨rfl, rfl⟩ | ⟨k, hk, rfl, h1, _⟩
  · rw [g.rows0]; exact gs.pl
  · rw [g.rowsK hk]; exact h1
theorem GW.pls (g : GW W) {s : Sd} {u : Str} {p : Nat} (h : (u, p) ∈ W.theres s) : Pls (W.rows u) ∧ ∀ x ∈ lanesP (W.rows u), x ∈ W.ns := by
  rcases (mem_theres g).mp h with ⟨rfl, rfl⟩ | ⟨k, hk, rfl, h1, _⟩
  · rw [g.rows0]; exact ⟨g.ps, g.gs.ls⟩
  · rw [g.rowsK hk]; exact ⟨g.pk k hk, g.gs.lk k hk⟩
theorem row_eq {u : Str} {p : Nat} (h : p < (W.rows u).length) : W.row u p = (W.rows u)[p] := by
  unfold Wd.row
  rw [List.getD_eq_getElem?_getD, List.getElem?_eq_getElem h]
  rfl
theorem allow_lt {st : Str → Nat × Bool} {bd : Str → Int} {p : Place} {j : Nat} (h : j ∈ allowI st bd p) : j < p.2.length := by
  have h1 : j ∈ openI st bd p.2 := by
    unfold allowI at h
    split at h
    · exact List.mem_of_mem_take h
    · exact h
  unfold openI idxs at h1
  split at h1 <;> exact List.mem_range.mp (List.mem_filter.mp h1).1
theorem arm_eq {t : Stp} (h1 : t.pl < (W.rows t.who).length) (h2 : t.ix < (W.rows t.who)[t.pl].2.length) : W.arm t = (W.rows t.who)[t.pl].2[t.ix] := by
  unfold Wd.arm
  rw [row_eq h1, List.getD_eq_getElem?_getD, List.getElem?_eq_getElem h2]
  rfl
/-- what is known of a step that is allowed -/
structure Can (W : Wd) (s : Sd) (t : Stp) : Prop where
  th : (t.who, t.pl) ∈ W.theres s
  lt : t.pl < (W.rows t.who).length
  al : t.ix ∈ allowI s.st W.bd (W.rows t.who)[t.pl]
  li : t.ix < (W.rows t.who)[t.pl].2.length
  ar : W.arm t = (W.rows t.who)[t.pl].2[t.ix]
  ga : GArm (W.arm t) ∧ (W.arm t).2 < (W.rows t.who).length
  la : ∀ p, (W.arm t).1 = some p → p.2 ∈ W.ns
  op : openB s.st W.bd (W.arm t) = true ∨ (W.arm t).1 = none
theorem can_of (g : GW W) {s : Sd} (gs : GSd W s) {t : Stp} (h : t ∈ W.steps s) : Can W s t := by
  obtain ⟨h1, h2⟩ := mem_steps.mp h
  have lt := there_lt g gs h1
  rw [row_eq lt] at h2
  have li := allow_lt h2
  have ar := arm_eq lt li
  obtain ⟨pl, ll⟩ := g.pls h1
  have ga := gas_of pl ll lt
  refine ⟨h1, lt, h2, li, ar, ?_, ?_, ?_⟩
  · rw [ar]
    exact ((pl.ok _ (List.getElem_mem lt)).arms _ (List.getElem_mem li))
  · intro p hp
    rw [ar] at hp
    exact (ga _ (List.getElem_mem li)).2 p hp
  · rw [ar]
    exact mem_allow li h2
theorem beh_le {word : Str} {c : Nat} {b : Bool} {bd : Int} {s' : Nat × Bool} (hc : (c : Int) ≤ bd) (h : beh word c b bd = some s') : (s'.1 : Int) ≤ bd := (beh_counts hc h).2.2
theorem moved_le {st : Str → Nat × Bool} {a : Arm} (h : ∀ x ∈ W.ns, ((st x).1 : Int) ≤ W.bd x) : ∀ x ∈ W.ns, ((W.moved st a x).1 : Int) ≤ W.bd x := by
  intro x hx
  unfold Wd.moved
  obtain ⟨o, q⟩ := a
  cases o with
  | none => exact h x hx
  | some p =>
    dsimp only
    split
    · rename_i e
      subst e
      cases hb : beh p.1 (st p.2).1 (st p.2).2 (W.bd p.2) with
      | none => exact h _ hx
      | some s2 => exact beh_le (h _ hx) hb
    · exact h x hx
theorem recnt_len (ct : List Nat) (u : Str) (p : Nat) (f : Nat → Nat) : (W.recnt ct u p f).length = ct.length := by
  unfold Wd.recnt
  split
  · rfl
  · rw [List.length_set]
theorem after_good (g : GW W) {s : Sd} (gs : GSd W s) {t : Stp} (h : t ∈ W.steps s) : GSd W (W.after s t) := by
  have c := can_of g gs h
  unfold Wd.after
  split
  · rename_i e
    refine ⟨?_, moved_le gs.st, gs.ct⟩
    have := c.ga.2
    rw [e, g.rows0] at this
    exact this
  · exact ⟨gs.pl, moved_le gs.st, by show (W.recnt _ _ _ _).length = _; rw [recnt_len, recnt_len]; exact gs.ct⟩
/-! ### more of the same -/
structure Above (lo hi : Sd) : Prop where
  pl : lo.pl = hi.pl
  st : lo.st = hi.st
  ln : lo.ct.length = hi.ct.length
  le : ∀ k, lo.ct.getD k 0 ≤ hi.ct.getD k 0
theorem Above.refl (s : Sd) : Above s s := ⟨rfl, rfl, rfl, fun _ => Nat.le_refl _⟩
theorem Above.trans {a b c : Sd} (h : Above a b) (k : Above b c) : Above a c := ⟨h.pl.trans k.pl, h.st.trans k.st, h.ln.trans k.ln, fun i => Nat.le_trans (h.le i) (k.le i)⟩
theorem getD_set {l : List Nat} {i j v : Nat} : (l.set i v).getD j 0 = if i = j ∧ i < l.length then v else l.getD j 0 := by
  rw [List.getD_eq_getElem?_getD, List.getD_eq_getElem?_getD, List.getElem?_set]
  by_cases e : i = j
  · subst e
    by_cases k : i < l.length
    · rw [if_pos rfl, if_pos k, if_pos ⟨rfl, k⟩]; rfl
    · rw [if_pos rfl, if_neg k, if_neg (fun z => k z.2), List.getElem?_eq_none (by omega)]
  · rw [if_neg e, if_neg (fun z => e z.1)]
theorem recnt_le {a b : List Nat} {u : Str} {p : Nat} {f : Nat → Nat} (hf : ∀ x y, x ≤ y → f x ≤ f y) (hl : a.length = b.length) (h : ∀ k, a.getD k 0 ≤ b.getD k 0) : ∀ k, (W.recnt a u p f).getD k 0 ≤ (W.recnt b u p f).getD k 0 := by
  intro k
  unfold Wd.recnt
  split
  · exact h k
  · rw [getD_set, getD_set, hl]
    split
    · exact hf _ _ (h _)
    · exact h k
theorem above_steps (g : GW W) {lo hi : Sd} (ab : Above lo hi) {t : Stp} (h : t ∈ W.steps lo) : t ∈ W.steps hi := by
  obtain ⟨h1, h2⟩ := mem_steps.mp h
  refine mem_steps.mpr ⟨?_, by rw [← ab.st]; exact h2⟩
  refine (mem_theres g).mpr ?_
  rcases (mem_theres g).mp h1 with ⟨e1, e2⟩ | ⟨k, hk, e1, e2, e3⟩
  · exact .inl ⟨e1, e2.trans ab.pl⟩
  · refine .inr ⟨k, hk, e1, e2, ?_⟩
    unfold Wd.thereB at e3 ⊢
    refine decide_eq_true ?_
    rcases of_decide_eq_true e3 with z | z
    · exact .inl z
    · exact .inr (Nat.lt_of_lt_of_le z (ab.le _))
theorem above_after {lo hi : Sd} (ab : Above lo hi) (t : Stp) : Above (W.after lo t) (W.after hi t) := by
  unfold Wd.after
  split
  · exact ⟨rfl, by show W.moved _ _ = W.moved _ _; rw [ab.st], ab.ln, ab.le⟩
  · refine ⟨ab.pl, by show W.moved _ _ = W.moved _ _; rw [ab.st], ?_, ?_⟩
    · show (W.recnt _ _ _ _).length = (W.recnt _ _ _ _).length
      rw [recnt_len, recnt_len, recnt_len, recnt_len]
      exact ab.ln
    · refine recnt_le (fun x y z => by omega) (by rw [recnt_len, recnt_len]; exact ab.ln) (recnt_le (fun x y z => by omega) ab.ln ab.le)
/-! ### runs -/
def RunOk (W : Wd) : Sd → List Stp → Prop
  | _, [] => True
  | s, t :: ts => t ∈ W.steps s ∧ RunOk W (W.after s t) ts
def ends (W : Wd) : Sd → List Stp → List Sd
  | s, [] => [s]
  | s, t :: ts => s :: ends W (W.after s t) ts
def last (W : Wd) (s : Sd) (ts : List Stp) : Sd := ts.foldl W.after s
theorem ends_len (s : Sd) (ts : List Stp) : (ends W s ts).length = ts.length + 1 := by
  induction ts generalizing s with
  | nil => rfl
  | cons t ts ih => show (ends W _ ts).length + 1 = _; rw [ih]; rfl
theorem run_snoc {s : Sd} {ts : List Stp} {t : Stp} (h : RunOk W s ts) (h2 : t ∈ W.steps (last W s ts)) : RunOk W s (ts ++ [t]) := by
  induction ts generalizing s with
  | nil => exact ⟨h2, trivial⟩
  | cons a ts ih => exact ⟨h.1, ih h.2 h2⟩
theorem last_snoc (s : Sd) (ts : List Stp) (t : Stp) : last W s (ts ++ [t]) = W.after (last W s ts) t := by
  unfold last
  rw [List.foldl_append]
  rfl
theorem ends_snoc (s : Sd) (ts : List Stp) (t : Stp) : ends W s (ts ++ [t]) = ends W s ts ++ [last W s (ts ++ [t])] := by
  induction ts generalizing s with
  | nil => rfl
  | cons a ts ih =>
    show s :: ends W _ (ts ++ [t]) = s :: ends W _ ts ++ _
    rw [ih]
    rfl
theorem ends_last (s : Sd) (ts : List Stp) : (ends W s ts)[ts.length]? = some (last W s ts) := by
  induction ts generalizing s with
  | nil => rfl
  | cons a ts ih =>
    show (s :: ends W _ ts)[ts.length + 1]? = _
    rw [List.getElem?_cons_succ, ih]
    rfl
theorem ends_get (s : Sd) (ts : List Stp) {i : Nat} (h : i ≤ ts.length) : (ends W s ts)[i]? = some (last W s (ts.take i)) := by
  induction ts generalizing s i with
  | nil =>
    obtain rfl : i = 0 := by simpa using h
    rfl
  | cons a ts ih =>
    cases i with
    | zero => rfl
    | succ i =>
      show (s :: ends W _ ts)[i + 1]? = _
      rw [List.getElem?_cons_succ, ih _ (by simpa using h)]
      rfl
theorem run_good (g : GW W) {s : Sd} (gs : GSd W s) {ts : List Stp} (h : RunOk W s ts) : GSd W (last W s ts) := by
  induction ts generalizing s with
  | nil => exact gs
  | cons a ts ih => exact ih (after_good g gs h.1) h.2
theorem run_take {s : Sd} {ts : List Stp} (h : RunOk W s ts) (i : Nat) : RunOk W s (ts.take i) := by
  induction ts generalizing s i with
  | nil => rw [List.take_nil]; trivial
  | cons a ts ih =>
    cases i with
    | zero => trivial
    | succ i => exact ⟨h.1, ih h.2 i⟩
theorem run_at {s : Sd} {ts : List Stp} (h : RunOk W s ts) {i : Nat} (hi : i < ts.length) : ts[i] ∈ W.steps (last W s (ts.take i)) := by
  induction ts generalizing s i with
  | nil => cases hi
  | cons a ts ih =>
    cases i with
    | zero => exact h.1
    | succ i => exact ih h.2 (by simpa using hi)
theorem above_run (g : GW W) {lo hi : Sd} (ab : Above lo hi) {ts : List Stp} (h : RunOk W lo ts) : RunOk W hi ts ∧ Above (last W lo ts) (last W hi ts) := by
  induction ts generalizing lo hi with
  | nil => exact ⟨trivial, ab⟩
  | cons a ts ih =>
    obtain ⟨h1, h2⟩ := ih (above_after ab a) h.2
    exact ⟨⟨above_steps g ab h.1, h1⟩, h2⟩
end
/-! ### as data -/
def stpD (t : Stp) : PyData := .tuple [.str t.who, .int (t.pl : Int), .int (t.ix : Int)]
theorem stp_inv {H : Hp} {v : V} {t : Stp} (h : Dq H v (stpD t)) : ∃ a, v = .ref a ∧ H a = some (.tup [.str t.who, .int (t.pl : Int), .int (t.ix : Int)]) := by
  obtain ⟨a, xs, ds, rfl, e, h1, h2⟩ := dq_tup h rfl
  unfold stpD at e
  cases e
  cases h2 with
  | cons a1 t1 => cases t1 with
    | cons a2 t2 => cases t2 with
      | cons a3 t3 =>
        cases t3
        cases a1
        cases a2
        cases a3
        exact ⟨a, rfl, h1⟩
theorem stp_mk {H : Hp} {a : Addr} {t : Stp} (h : H a = some (.tup [.str t.who, .int (t.pl : Int), .int (t.ix : Int)])) : Dq H (.ref a) (stpD t) :=
  .tup h (.cons (.str _) (.cons (.int _) (.cons (.int _) .nil)))
end K41

set_option Elab.async false
set_option linter.all false
set_option maxRecDepth 100000
set_option maxHeartbeats 4000000
namespace K41
open PySem PySem.Spec PyProof.Rows L2 Ol RZ
open TL (tl)
theorem mem_seats {ks : List Knd} {u : Str} {p : Nat} : (u, p) ∈ seatsOf ks ↔ ∃ k ∈ ks, u = k.1 ∧ 1 ≤ p ∧ p < k.2.length := by
  unfold seatsOf
  rw [List.mem_flatMap]
  constructor
  · rintro ⟨k, hk, h⟩
    obtain ⟨i, hi, e⟩ := List.mem_map.mp h
    injection e with e1 e2
    have := List.mem_range.mp hi
    exact ⟨k, hk, e1.symm, by omega, by omega⟩
  · rintro ⟨k, hk, rfl, h1, h2⟩
    exact ⟨k, hk, List.mem_map.mpr ⟨p - 1, List.mem_range.mpr (by omega), by rw [show p - 1 + 1 = p by omega]⟩⟩
theorem spot_at {ks : List Knd} {x : Seat} (h : x ∈ seatsOf ks) : ∃ hi : (seatsOf ks).idxOf x < (seatsOf ks).length, (seatsOf ks)[(seatsOf ks).idxOf x] = x :=
  ⟨List.idxOf_lt_length_of_mem h, List.getElem_idxOf _⟩
theorem spot_val {W : Wd} (g : GW W) {x : Seat} (h : x ∈ seatsOf W.ks) : valV (spotsT (seatsOf W.ks)) (seatK x) = some (.int (W.spot x : Int)) := by
  obtain ⟨hi, e⟩ := spot_at h
  have z := spotsT_val (seats_nodup g.gs.nd) hi
  rw [e] at z
  exact z
/-- a System whose parts are those -/
def SysR (S C CP : Addr) (H : Hp) (p : Addr) (ns : List Str) (bs : List Int) (sv : List Place) (ks : List Knd) : Prop :=
  ∃ dx lx sx kd st sp xs at_, H p = some (.ins S dx (sf lx sx kd st sp)) ∧ LanesAt C H lx ns bs ∧ ProgAt CP H sx sv ∧ Rd H kd (.dK (kdA ks at_)) ∧ (∀ k ∈ ks, ProgAt CP H (at_ k.1) k.2) ∧
    H st = some (.tup xs) ∧ DqAll H xs ((seatsOf ks).map seatD) ∧ H sp = some (.dT (spotsT (seatsOf ks))) ∧ GSys ns sv ks
theorem SysR.up {S C CP : Addr} {H H' : Hp} {p : Addr} {ns : List Str} {bs : List Int} {sv : List Place} {ks : List Knd} (e : Ext H H') : SysR S C CP H p ns bs sv ks → SysR S C CP H' p ns bs sv ks
  | ⟨dx, lx, sx, kd, st, sp, xs, at_, h1, h2, h3, h4, h5, h6, h7, h8, g⟩ => ⟨dx, lx, sx, kd, st, sp, xs, at_, e _ _ h1, h2.up e, h3.up e, Rd.up e h4, fun k hk => (h5 k hk).up e, e _ _ h6, DqAll.up e h7, e _ _ h8, g⟩
def SysW (S C CP : Addr) (H : Hp) (p : Addr) (W : Wd) : Prop := SysR S C CP H p W.ns (W.ns.map W.bd) W.sv W.ks ∧ GW W
theorem SysW.up {S C CP : Addr} {H H' : Hp} {p : Addr} {W : Wd} (e : Ext H H') (h : SysW S C CP H p W) : SysW S C CP H' p W := ⟨h.1.up e, h.2⟩
/-- its kinds are under no walk -/
def SysO (S C CP : Addr) (H : Hp) (p : Addr) (W : Wd) : Prop := SysAt S C CP H p W.ns (W.ns.map W.bd) W.sv W.ks ∧ GW W
theorem SysO.up {S C CP : Addr} {H H' : Hp} {p : Addr} {W : Wd} (e : Ext H H') (h : SysO S C CP H p W) : SysO S C CP H' p W := ⟨h.1.up e, h.2⟩
theorem SysO.w {S C CP : Addr} {H : Hp} {p : Addr} {W : Wd} (h : SysO S C CP H p W) : SysW S C CP H p W := by
  obtain ⟨⟨dx, lx, sx, kd, st, sp, xs, at_, h1, h2, h3, h4, r⟩, g⟩ := h
  exact ⟨⟨dx, lx, sx, kd, st, sp, xs, at_, h1, h2, h3, .inl h4, r⟩, g⟩
theorem kd_get {H : Hp} {d : Addr} {kx : List Knd} {at_ : Str → Addr} (x : Str) (r : Rd H d (.dK (kdA kx at_))) : DGet H d (.str x) (if x ∈ kx.map (·.1) then some (.ref (at_ x)) else none) := by
  have z := DGet.r (.inr x) r
  rw [kdA_val] at z
  exact z
section
variable {P : Program} {w : World} {K : PySem.W.Frag} {mg : Str → Option Value} {base : Heap} {C CP S : Addr}
/-! ### System.program -/
def spPrg (S C CP : Addr) : Sp := fun vs H Q _ => ∃ (p : Addr) (W : Wd) (u : Str), vs = [.ref p, .str u] ∧ SysW S C CP H p W ∧ (u = "" ∨ u ∈ W.ks.map (·.1)) ∧
  ∀ (pr : Addr) (H' : Hp), Ext H H' → ProgAt CP H' pr (W.rows u) → Q (.ref pr) H'
theorem sc_prg : FnScope ["self", "who"] ["self", "who"] (defScope (cS 7)) := ⟨rfl, rfl, rfl, by decide +kernel, rfl, by decide +kernel, by decide +kernel⟩
theorem ok_prg {f : Addr} {fd : FuncData} (F : Fun K "program" "System.program" (cS 7) f fd) (SL : ST K mg S) (C3 : Ca P w K mg base 1 "is_name" ["thing"] (spPred Ok1 isNameD)) :
    FnOk P w K mg base CX0 2 f fd ["self", "who"] (spPrg S C CP) := by
  refine F.ok sc_prg (fun vs H Q E h => ?_) (fun cdv A outer s H vs Q E hr h => ?_)
  · obtain ⟨p, W, u, rfl, _⟩ := h
    rfl
  · obtain ⟨p, W, u, rfl, hS, hu, q⟩ := h
    refine ⟨_, (pss_cons (ps_if (pt_cmpR op_eq (pv 1) pe_str (nomark _)) (pss_one (ps_ret (pe_fld (pv 0) rfl))) pss_nil)
      (pss_cons (ps_if (PW.pt (pw_or (pt_not (pt_val (pe_ca C3 (hr.mono (by decide)) (by rfl) (pa_cons (pv 1) pa_nil)))) (pw_or1 (pt_cmp (pc_dnotin (hu_of hr) (pv 1) (pe_fld (pv 0) rfl)))))) (pss_one ps_never) pss_nil)
      (pss_one (ps_ret (pe_dget (hu_of hr) (pe_fld (pv 0) rfl) (pv 1) (fun _ _ => rfl)))))), ?_⟩
    obtain ⟨⟨dx, lx, sx, kd, st, sp, xs, at_, h1, h2, h3, h4, h5, h6, h7, h8, g⟩, gw⟩ := id hS
    refine ⟨_, rfl, rfl, _, rfl, ?_⟩
    refine ite2 (fun e => ?_) (fun e => ?_)
    · have e' := dec_word.mp e
      subst e'
      refine ⟨_, rfl, p, S, dx, _, _, rfl, h1, SL.cl, SL.nS, sf_s _ _ _ _ _, q sx H (Ext.refl H) ?_⟩
      rw [gw.rows0]
      exact h3
    · have hm : u ∈ W.ks.map (·.1) := hu.resolve_left fun z => e (dec_word.mpr z)
      obtain ⟨k, hk, rfl⟩ := List.mem_map.mp hm
      have nm := gw.gs.nm k hk
      refine ⟨_, rfl, _, _, rfl, .str _, (fun x hx => by cases hx; exact name_tx nm), fun H1 e1 => ⟨_, rfl, ?_⟩⟩
      rw [show isNameD (.str k.1) = true from nm]
      refine iteF ?_
      have h41 := Rd.up e1 h4
      have gk := kd_get k.1 h41
      rw [if_pos hm] at gk
      refine ⟨_, rfl, _, rfl, p, S, dx, _, _, rfl, e1 _ _ h1, SL.cl, SL.nK, sf_k _ _ _ _ _, kd, _, rfl, gk, _, rfl, ?_⟩
      refine iteF ?_
      refine ⟨_, rfl, p, S, dx, _, _, rfl, e1 _ _ h1, SL.cl, SL.nK, sf_k _ _ _ _ _, _, rfl, kd, _, rfl, gk, q _ H1 e1 ?_⟩
      rw [gw.rowsK hk]
      exact (h5 k hk).up e1
/-! ### System._is_there -/
def spTh (S C CP : Addr) : Sp := fun vs H Q _ => ∃ (p : Addr) (W : Wd) (v : V) (s : Sd) (u : Str) (pl : Nat), vs = [.ref p, v, .str u, .int (pl : Int)] ∧ SysW S C CP H p W ∧ Dq H v (stgD (s.std W.ns)) ∧ GSd W s ∧
  ∀ H', Ext H H' → Q (.bl (decide ((u, pl) ∈ W.theres s))) H'
theorem sc_th : FnScope ["self", "standing", "who", "place"] ["self", "standing", "who", "place"] (defScope (cS 12)) := ⟨rfl, rfl, rfl, by decide +kernel, rfl, by decide +kernel, by decide +kernel⟩
theorem int_dec {a b : Nat} : decide (V.int (a : Int) = V.int (b : Int)) = decide (a = b) := by
  refine decide_eq_decide.mpr ⟨fun h => ?_, fun h => by rw [h]⟩
  injection h with h
  omega
theorem tup_dq {H : Hp} {t : Addr} {u : Str} {n : Nat} (h : H t = some (.tup [.str u, .int (n : Int)])) : H t = some (.tup ((seatK (u, n)).map kV)) := h
theorem ok_th {f : Addr} {fd : FuncData} (F : Fun K "_is_there" "System._is_there" (cS 12) f fd) (SL : ST K mg S) :
    FnOk P w K mg base CX0 1 f fd ["self", "standing", "who", "place"] (spTh S C CP) := by
  refine F.ok sc_th (fun vs H Q E h => ?_) (fun cdv A outer s H vs Q E hr h => ?_)
  · obtain ⟨p, W, v, s, u, pl, rfl, _⟩ := h
    rfl
  · obtain ⟨p, W, v, s, u, pl, rfl, hS, hv, gs, q⟩ := h
    refine ⟨_, (pss_cons (ps_if (pt_cmpR op_eq (pv 2) pe_str (nomark _)) (pss_one (ps_ret (pe_cmpR op_eq (pv 3) (pe_ix ix_tup (pv 1) pe_int (fun _ _ => rfl)) (nomark _)))) pss_nil)
      (pss_cons (ps_if (pt_cmp (pc_dnotin (hu_of hr) (pv 2) (pe_fld (pv 0) rfl))) (pss_one (ps_ret pe_bl)) pss_nil)
      (pss_cons (ps_if (pt_cmpR op_eq (pv 3) pe_int (nomark _)) (pss_one (ps_ret pe_bl)) pss_nil)
      (pss_one (ps_ret (pe_and (pe_cmp (pc_din (hu_of hr) (pe_tup (pa_cons (pv 2) (pa_cons (pv 3) pa_nil))) (pe_fld (pv 0) rfl)) rfl) (pe_one (pe_cmpR op_gt (pe_ix ix_tup (pe_ix ix_tup (pv 1) pe_int (fun _ _ => rfl)) (pe_dget (hu_of hr) (pe_fld (pv 0) rfl) (pe_tup (pa_cons (pv 2) (pa_cons (pv 3) pa_nil))) (fun _ _ => rfl)) (fun _ _ => rfl)) pe_int (nomark _))))))))), ?_⟩
    obtain ⟨⟨dx, lx, sx, kd, st, sp, xs, at_, h1, h2, h3, h4, h5, h6, h7, h8, g⟩, gw⟩ := id hS
    obtain ⟨a, b, c, ys, rfl, v1, v2, v3, v4⟩ := stg_inv hv
    refine ⟨_, rfl, rfl, _, rfl, ?_⟩
    refine ite2 (fun e => ?_) (fun e => ?_)
    · have e' := dec_word.mp e
      subst e'
      refine ⟨_, rfl, _, rfl, a, _, 0, _, rfl, rfl, SqT.of v1, rfl, rfl, ?_⟩
      have z := q H (Ext.refl H)
      have ee : decide ((("" : Str), pl) ∈ W.theres s) = decide (pl = s.pl) := by
        refine decide_eq_decide.mpr ((mem_theres gw).trans ⟨fun h => ?_, fun h => .inl ⟨rfl, h⟩⟩)
        rcases h with ⟨_, h⟩ | ⟨k, hk, h, _⟩
        · exact h
        · exact absurd h.symm (gw.ne hk)
      rw [ee] at z
      rw [show (s.std W.ns).pl = s.pl from rfl, int_dec]
      exact z
    · have ne : u ≠ "" := fun z => e (dec_word.mpr z)
      have gk := kd_get u h4
      refine ⟨_, rfl, _, rfl, p, S, dx, _, _, rfl, h1, SL.cl, SL.nK, sf_k _ _ _ _ _, kd, _, rfl, gk, _, rfl, ?_⟩
      by_cases hm : u ∈ W.ks.map (·.1)
      · rw [if_pos hm]
        refine iteF ?_
        obtain ⟨k, hk, rfl⟩ := List.mem_map.mp hm
        refine ⟨_, rfl, rfl, _, rfl, ?_⟩
        rw [show (V.int (0 : Int)) = V.int ((0 : Nat) : Int) from rfl, int_dec]
        refine ite2 (fun e0 => ?_) (fun e0 => ?_)
        · obtain rfl := of_decide_eq_true e0
          have z := q H (Ext.refl H)
          rw [decide_eq_true ((mem_theres gw).mpr (.inr ⟨k, hk, rfl, List.length_pos_iff.mpr (gw.pk k hk).ne, decide_eq_true (.inl rfl)⟩))] at z
          exact z
        · have n0 : pl ≠ 0 := fun z => e0 (decide_eq_true z)
          refine ⟨_, rfl, _, rfl, by show 2 ≤ sizeLine; decide, fun t ht => ?_⟩
          have et := Ext.new (o := .tup [.str k.1, .int (pl : Int)]) ht
          have t1 : upd H t (.tup [.str k.1, .int (pl : Int)]) t = some (.tup [.str k.1, .int (pl : Int)]) := upd_same
          generalize upd H t (.tup [.str k.1, .int (pl : Int)]) = H1 at et t1 ⊢
          have dg := DGet.t (k := seatK (k.1, pl)) (et _ _ h8) t1
          refine ⟨_, rfl, p, S, dx, _, _, rfl, et _ _ h1, SL.cl, SL.nQ, sf_q _ _ _ _ _, sp, _, rfl, dg, ?_⟩
          by_cases hs : (k.1, pl) ∈ seatsOf W.ks
          · rw [spot_val gw hs]
            refine ⟨_, rfl, ?_⟩
            refine iteT ?_
            obtain ⟨hi, _⟩ := spot_at hs
            have hi2 : W.spot (k.1, pl) < s.ct.length := by rw [gs.ct]; exact hi
            refine ⟨_, rfl, a, _, 2, _, rfl, rfl, SqT.of (et _ _ v1), rfl, _, rfl, p, S, dx, _, _, rfl, et _ _ h1, SL.cl, SL.nQ, sf_q _ _ _ _ _, _, rfl, _, rfl, by show 2 ≤ sizeLine; decide, fun t2 ht2 => ?_⟩
            have et2 := Ext.new (o := .tup [.str k.1, .int (pl : Int)]) ht2
            have t12 : upd H1 t2 (.tup [.str k.1, .int (pl : Int)]) t2 = some (.tup [.str k.1, .int (pl : Int)]) := upd_same
            generalize upd H1 t2 (.tup [.str k.1, .int (pl : Int)]) = H2 at et2 t12 ⊢
            have e2 := et.trans et2
            have dg2 := DGet.t (k := seatK (k.1, pl)) (e2 _ _ h8) t12
            rw [spot_val gw hs] at dg2
            refine ⟨sp, _, rfl, dg2, c, _, _, _, rfl, rfl, SqT.of (e2 _ _ v4), atI_nat (cV_get (ct := (s.std W.ns).ct) hi2), _, _, rfl, rfl, ?_⟩
            have z := q H2 e2
            have ee : decide ((k.1, pl) ∈ W.theres s) = decide ((0 : Int) < ((s.ct[W.spot (k.1, pl)] : Nat) : Int)) := by
              refine decide_eq_decide.mpr ((mem_theres gw).trans ⟨fun h => ?_, fun h => .inr ?_⟩)
              · rcases h with ⟨h, _⟩ | ⟨k', hk', _, _, h⟩
                · exact absurd h ne
                · unfold Wd.thereB Wd.cnt at h
                  rcases of_decide_eq_true h with h | h
                  · exact absurd h n0
                  · rw [List.getD_eq_getElem?_getD, List.getElem?_eq_getElem hi2] at h
                    have h' : 0 < s.ct[W.spot (k.1, pl)] := h
                    omega
              · obtain ⟨k', hk', e1, l1, l2⟩ := mem_seats.mp hs
                refine ⟨k', hk', e1, l2, ?_⟩
                unfold Wd.thereB Wd.cnt
                refine decide_eq_true (.inr ?_)
                rw [List.getD_eq_getElem?_getD, List.getElem?_eq_getElem hi2]
                show 0 < s.ct[W.spot (k.1, pl)]
                omega
            rw [ee] at z
            exact z
          · rw [spotsT_none hs]
            have z := q H1 et
            have ee : decide ((k.1, pl) ∈ W.theres s) = false := by
              refine decide_eq_false fun h => hs ?_
              rcases (mem_theres gw).mp h with ⟨h, _⟩ | ⟨k', hk', e1, l1, _⟩
              · exact absurd h ne
              · exact mem_seats.mpr ⟨k', hk', e1, by omega, l1⟩
            rw [ee] at z
            exact ⟨_, rfl, z⟩
      · rw [if_neg hm]
        refine iteT ?_
        have z := q H (Ext.refl H)
        have ee : decide ((u, pl) ∈ W.theres s) = false := by
          refine decide_eq_false fun h => hm ?_
          rcases (mem_theres gw).mp h with ⟨h, _⟩ | ⟨k', hk', e1, l1, _⟩
          · exact absurd h ne
          · rw [e1]; exact List.mem_map_of_mem hk'
        rw [ee] at z
        exact z
/-! ### System._recounted -/
def spRc (S C CP : Addr) : Sp := fun vs H Q _ => ∃ (p : Addr) (W : Wd) (c : Addr) (ct : List Nat) (u : Str) (pl : Nat) (d : Int) (g : Nat → Nat), vs = [.ref p, .ref c, .str u, .int (pl : Int), .int d] ∧ SysW S C CP H p W ∧ H c = some (.tup (cV ct)) ∧ ct.length = (seatsOf W.ks).length ∧ ct.length ≤ 60 ∧
  (pl = 0 ∨ ((u, pl) ∈ seatsOf W.ks ∧ ((g (W.cnt ct (u, pl)) : Nat) : Int) = (W.cnt ct (u, pl) : Int) + d)) ∧ ∀ (r : Addr) (H' : Hp), Ext H H' → H' r = some (.tup (cV (W.recnt ct u pl g))) → Q (.ref r) H'
theorem sc_rc : FnScope ["self", "counts", "kind", "place", "change", "spot"] ["self", "counts", "kind", "place", "change"] (defScope (cS 13)) := ⟨rfl, rfl, rfl, by decide +kernel, rfl, by decide +kernel, by decide +kernel⟩
theorem ok_rc {f : Addr} {fd : FuncData} (F : Fun K "_recounted" "System._recounted" (cS 13) f fd) (SL : ST K mg S) (C8 : Ca P w K mg base 1 "replaced" ["row", "index", "item"] spReplaced) :
    FnOk P w K mg base CX0 2 f fd ["self", "counts", "kind", "place", "change"] (spRc S C CP) := by
  refine F.ok sc_rc (fun vs H Q E h => ?_) (fun cdv A outer s H vs Q E hr h => ?_)
  · obtain ⟨p, W, c, ct, u, pl, d, g, rfl, _⟩ := h
    rfl
  · obtain ⟨p, W, c, ct, u, pl, d, g, rfl, hS, hc, hl, h60, hg, q⟩ := h
    refine ⟨_, (pss_cons (ps_if (pt_cmpR op_eq (pv 3) pe_int (nomark _)) (pss_one (ps_ret (pv 1))) pss_nil)
      (pss_cons (ps_set (i := 5) sc_rc.nd rfl (.inl rfl) (pe_dget (hu_of hr) (pe_fld (pv 0) rfl) (pe_tup (pa_cons (pv 2) (pa_cons (pv 3) pa_nil))) (fun _ _ => rfl)))
      (pss_one (ps_ret (pe_ca C8 (hr.mono (by decide)) (by rfl) (pa_cons (pv 1) (pa_cons (pv 5) (pa_cons (pe_op op_add (pe_ix ix_tup (pv 1) (pv 5) (fun _ _ => rfl)) (pv 4)) pa_nil)))))))), ?_⟩
    obtain ⟨⟨dx, lx, sx, kd, st, sp, xs, at_, h1, h2, h3, h4, h5, h6, h7, h8, gg⟩, gw⟩ := id hS
    refine ⟨_, rfl, rfl, _, rfl, ?_⟩
    rw [show (V.int (0 : Int)) = V.int ((0 : Nat) : Int) from rfl, int_dec]
    refine ite2 (fun e0 => ?_) (fun e0 => ?_)
    · refine ⟨_, rfl, q c H (Ext.refl H) ?_⟩
      unfold Wd.recnt
      rw [if_pos (of_decide_eq_true e0)]
      exact hc
    · have n0 : pl ≠ 0 := fun z => e0 (decide_eq_true z)
      obtain ⟨hs, hgd⟩ := hg.resolve_left n0
      refine ⟨_, rfl, p, S, dx, _, _, rfl, h1, SL.cl, SL.nQ, sf_q _ _ _ _ _, _, rfl, _, rfl, by show 2 ≤ sizeLine; decide, fun t ht => ?_⟩
      have et := Ext.new (o := .tup [.str u, .int (pl : Int)]) ht
      have t1 : upd H t (.tup [.str u, .int (pl : Int)]) t = some (.tup [.str u, .int (pl : Int)]) := upd_same
      generalize upd H t (.tup [.str u, .int (pl : Int)]) = H1 at et t1 ⊢
      have dg := DGet.t (k := seatK (u, pl)) (et _ _ h8) t1
      rw [spot_val gw hs] at dg
      obtain ⟨hi, _⟩ := spot_at hs
      have hi2 : W.spot (u, pl) < ct.length := by rw [hl]; exact hi
      refine ⟨sp, _, rfl, dg, ?_⟩
      refine ⟨_, rfl, _, rfl, _, rfl, _, rfl, c, _, _, _, rfl, rfl, SqT.of (et _ _ hc), atI_nat (cV_get hi2), _, rfl, _, _, rfl, rfl, ?_⟩
      refine ⟨c, cV ct, W.spot (u, pl), _, rfl, et _ _ hc, by rw [List.length_map]; exact hi2, by rw [List.length_map]; omega, fun p' H2 e2 h2 => q p' H2 (et.trans e2) ?_⟩
      rw [h2]
      unfold Wd.recnt
      rw [if_neg n0]
      have ec : ct.getD (W.spot (u, pl)) 0 = ct[W.spot (u, pl)] := by rw [List.getD_eq_getElem?_getD, List.getElem?_eq_getElem hi2]; rfl
      have hv : V.int ((ct[W.spot (u, pl)] : Int) + d) = V.int ((g (W.cnt ct (u, pl)) : Nat) : Int) := by
        rw [hgd]
        unfold Wd.cnt
        rw [ec]
      refine (congrArg (fun z => some (HO.tup ((cV ct).set (W.spot (u, pl)) z))) hv).trans ?_
      exact congrArg (fun z => some (HO.tup z)) (List.map_set (f := fun n : Nat => V.int (n : Int))).symm
end
end K41

set_option Elab.async false
set_option linter.all false
set_option maxRecDepth 100000
set_option maxHeartbeats 4000000
namespace K41
open PySem PySem.Spec PyProof.Rows L2 Ol RZ
open TL (tl)
theorem moved_no {W : Wd} {st : Str → Nat × Bool} {a : Arm} (h : a.1 = none) : W.moved st a = st := by
  funext y
  unfold Wd.moved
  rw [h]
theorem moved_set {W : Wd} {st : Str → Nat × Bool} {a : Arm} {p : Str × Str} {s2 : Nat × Bool} (hd : W.ns.Nodup) {j : Nat} (hj : j < W.ns.length) (e : W.ns[j] = p.2) (h : a.1 = some p) (hb : beh p.1 (st p.2).1 (st p.2).2 (W.bd p.2) = some s2) :
    (W.ns.map st).set j s2 = W.ns.map (W.moved st a) := by
  have hm : W.moved st a = fun y => if y = p.2 then s2 else st y := by
    obtain ⟨o, q⟩ := a
    cases (show o = some p from h)
    funext y
    show (if y = p.2 then (beh p.1 (st p.2).1 (st p.2).2 (W.bd p.2)).getD (st p.2) else st y) = _
    rw [hb]
    rfl
  rw [hm]
  refine List.ext_getElem (by rw [List.length_set, List.length_map, List.length_map]) fun i h1 h2 => ?_
  have h2' : i < W.ns.length := by rw [List.length_map] at h2; exact h2
  rw [List.getElem_set, List.getElem_map, List.getElem_map]
  by_cases c : j = i
  · subst c
    rw [if_pos rfl, if_pos e]
  · rw [if_neg c, if_neg]
    intro z
    have z2 : W.ns[i] = W.ns[j] := by rw [z, e]
    rcases Nat.lt_or_gt_of_ne c with l | l
    · exact List.pairwise_iff_getElem.mp hd j i hj h2' l z2.symm
    · exact List.pairwise_iff_getElem.mp hd i j h2' hj l z2
theorem ba_mk {W : Wd} {s : Sd} {t : Stp} {H : Hp} {Q : V → Hp → Prop} (g : GW W) (c : Can W s t) (go : ∀ (r : V) (H' : Hp), Ext H H' → Dq H' r (.tuple [.int ((W.arm t).2 : Int), ctD (W.ns.map (W.moved s.st (W.arm t)))]) → Q r H') :
    ((W.arm t).1 = none ∧ ∀ (r : V) (H' : Hp), Ext H H' → Dq H' r (.tuple [.int ((W.arm t).2 : Int), ctD (W.ns.map s.st)]) → Q r H') ∨
    (∃ (p : Str × Str) (j : Nat) (hj : j < W.ns.length) (s2 : Nat × Bool), (W.arm t).1 = some p ∧ W.ns[j] = p.2 ∧ beh p.1 (s.st p.2).1 (s.st p.2).2 (W.bd p.2) = some s2 ∧ ∀ (r : V) (H' : Hp), Ext H H' → Dq H' r (.tuple [.int ((W.arm t).2 : Int), ctD ((W.ns.map s.st).set j s2)]) → Q r H') := by
  rcases c.op with ho | ho
  · cases hp : (W.arm t).1 with
    | none =>
      unfold openB at ho
      rw [hp] at ho
      cases ho
    | some p =>
      right
      obtain ⟨k, hk, ek⟩ := List.getElem_of_mem (c.la p hp)
      unfold openB at ho
      rw [hp] at ho
      obtain ⟨s2, hs2⟩ := Option.isSome_iff_exists.mp ho
      refine ⟨p, k, hk, s2, rfl, ek, hs2, fun r H' e hr => go r H' e ?_⟩
      rw [moved_set g.nd hk ek hp hs2] at hr
      exact hr
  · left
    refine ⟨ho, fun r H' e hr => go r H' e ?_⟩
    rw [moved_no ho]
    exact hr
theorem there_seat {W : Wd} (g : GW W) {s : Sd} {u : Str} {p : Nat} (h : (u, p) ∈ W.theres s) (hu : u ≠ "") : p = 0 ∨ ((u, p) ∈ seatsOf W.ks ∧ 0 < W.cnt s.ct (u, p)) := by
  rcases (mem_theres g).mp h with ⟨h, _⟩ | ⟨k, hk, rfl, h1, h2⟩
  · exact absurd h hu
  · unfold Wd.thereB at h2
    by_cases p0 : p = 0
    · exact .inl p0
    · exact .inr ⟨mem_seats.mpr ⟨k, hk, rfl, by omega, h1⟩, (of_decide_eq_true h2).resolve_left p0⟩
theorem there_kind {W : Wd} (g : GW W) {s : Sd} {u : Str} {p : Nat} (h : (u, p) ∈ W.theres s) : u = "" ∨ u ∈ W.ks.map (·.1) := by
  rcases (mem_theres g).mp h with ⟨h, _⟩ | ⟨k, hk, rfl, h1, h2⟩
  · exact .inl h
  · exact .inr (List.mem_map_of_mem hk)
theorem goal_seat {W : Wd} (g : GW W) {s : Sd} {u : Str} {p q : Nat} (h : (u, p) ∈ W.theres s) (hu : u ≠ "") (hq : q < (W.rows u).length) : q = 0 ∨ (u, q) ∈ seatsOf W.ks := by
  rcases (mem_theres g).mp h with ⟨h, _⟩ | ⟨k, hk, rfl, h1, h2⟩
  · exact absurd h hu
  · rw [g.rowsK hk] at hq
    by_cases q0 : q = 0
    · exact .inl q0
    · exact .inr (mem_seats.mpr ⟨k, hk, rfl, by omega, hq⟩)
theorem seats60 {W : Wd} (g : GW W) : (seatsOf W.ks).length ≤ 15 := by
  have := seats_len (ks := W.ks) fun k hk => (g.pk k hk).few
  have := g.gs.few
  omega
section
variable {P : Program} {w : World} {K : PySem.W.Frag} {mg : Str → Option Value} {base : Heap} {C CP S : Addr}
/-! ### is_step -/
def spStp : Sp := fun vs H Q _ => ∃ (v : V) (t : Stp), vs = [v] ∧ Dq H v (stpD t) ∧ ∀ H', Ext H H' → Q (.bl true) H'
abbrev s_stp : Stmt := (topS 24)
theorem sc_stp : FnScope ["thing"] ["thing"] (defScope s_stp) := ⟨rfl, rfl, rfl, by decide +kernel, rfl, by decide +kernel, by decide +kernel⟩
theorem ok_stp {f : Addr} {fd : FuncData} (F : Fun K "is_step" "is_step" s_stp f fd) (T : BT mg) (C1 : Ca P w K mg base 1 "is_integer" ["thing"] (spPred Any isIntD)) :
    FnOk P w K mg base CX0 2 f fd ["thing"] spStp := by
  refine F.ok sc_stp (fun vs H Q E h => ?_) (fun cdv A outer s H vs Q E hr h => ?_)
  · obtain ⟨v, t, rfl, _⟩ := h
    rfl
  · obtain ⟨v, t, rfl, hv, q⟩ := h
    refine ⟨_, (pss_cons (ps_if (PW.pt (pw_or (pt_not (pt_val (pe_callB call_isi (by rfl) T.n_isinstance (by decide +kernel) (pa_cons (pv 0) (pa_cons (pe_bltn (v := .ty "tuple") (by rfl) T.n_tuple (by decide +kernel) rfl) pa_nil))))) (pw_or1 (pt_cmpR op_ne (pe_callB call_len_seq (by rfl) T.n_len (by decide +kernel) (pa_cons (pv 0) pa_nil)) pe_int (nomark _))))) (pss_one (ps_ret pe_bl)) pss_nil)
      (pss_one (ps_ret (pe_and (pe_callB call_isi (by rfl) T.n_isinstance (by decide +kernel) (pa_cons (pe_ix ix_tup (pv 0) pe_int (fun _ _ => rfl)) (pa_cons (pe_bltn (v := .ty "str") (by rfl) T.n_str (by decide +kernel) rfl) pa_nil))) (pe_and (pe_ca C1 (hr.mono (by decide)) (by rfl) (pa_cons (pe_ix ix_tup (pv 0) pe_int (fun _ _ => rfl)) pa_nil)) (pe_one (pe_ca C1 (hr.mono (by decide)) (by rfl) (pa_cons (pe_ix ix_tup (pv 0) pe_int (fun _ _ => rfl)) pa_nil)))))))), ?_⟩
    obtain ⟨a, rfl, ha⟩ := stp_inv hv
    refine ⟨_, rfl, _, _, _, _, _, rfl, .ty "tuple", ty_of hv, ki_tuple _, _, rfl, ?_⟩
    refine iteF ?_
    refine ⟨_, rfl, a, _, rfl, .inr (SqT.of ha), rfl, _, rfl, ?_⟩
    refine iteF ?_
    refine ⟨_, rfl, a, _, 0, _, rfl, rfl, SqT.of ha, rfl, _, _, _, _, _, rfl, .ty "str", ty_of (.str _), ki_str (.str _), _, rfl, ?_⟩
    refine iteT ?_
    refine ⟨_, rfl, a, _, 1, _, rfl, rfl, SqT.of ha, rfl, _, _, rfl, .int _, trivial, fun H1 e1 => ⟨_, rfl, ?_⟩⟩
    refine iteT ?_
    exact ⟨_, rfl, a, _, 2, _, rfl, rfl, SqT.of (e1 _ _ ha), rfl, _, _, rfl, .int _, trivial, fun H2 e2 => q H2 (e1.trans e2)⟩
/-! ### System._behind -/
def spBh (S C CP : Addr) : Sp := fun vs H Q _ => ∃ (p : Addr) (W : Wd) (v u : V) (s : Sd) (t : Stp), vs = [.ref p, v, u] ∧ SysW S C CP H p W ∧ Dq H v (stgD (s.std W.ns)) ∧ GSd W s ∧ Dq H u (stpD t) ∧
  (t ∈ W.steps s → ∀ (r : V) (H' : Hp), Ext H H' → Dq H' r (stgD ((W.after s t).std W.ns)) → Q r H') ∧ (t ∉ W.steps s → ∀ H', Ext H H' → Q .non H')
abbrev nBh : List Str := ["self", "standing", "step", "who", "place", "index", "content", "counts", "program", "goal"]
theorem sc_bh : FnScope nBh ["self", "standing", "step"] (defScope (cS 14)) := ⟨rfl, rfl, rfl, by decide +kernel, rfl, by decide +kernel, by decide +kernel⟩
theorem ok_bh {f : Addr} {fd : FuncData} (F : Fun K "_behind" "System._behind" (cS 14) f fd) (SL : ST K mg S) (LP : PT K mg CP) (MM : MdM P w K mg base CP)
    (CSt : Ca P w K mg base 2 "is_step" ["thing"] spStp) (MTh : Cm P w K mg base S 1 "_is_there" ["self", "standing", "who", "place"] (spTh S C CP)) (MPr : Cm P w K mg base S 2 "program" ["self", "who"] (spPrg S C CP))
    (CAt : Ca P w K mg base 7 "allowed_at" ["lanes", "program", "place", "content"] (spAt C CP)) (CBA : Ca P w K mg base 5 "behind_arm" ["lanes", "arm", "content"] (spBA C)) (MRc : Cm P w K mg base S 2 "_recounted" ["self", "counts", "kind", "place", "change"] (spRc S C CP)) :
    FnOk P w K mg base CX0 8 f fd ["self", "standing", "step"] (spBh S C CP) := by
  refine F.ok sc_bh (fun vs H Q E h => ?_) (fun cdv A outer s H vs Q E hr h => ?_)
  · obtain ⟨p, W, v, u, s, t, rfl, _⟩ := h
    rfl
  · obtain ⟨p, W, v, u, s, t, rfl, hS, hv, gs, hu, q1, q2⟩ := h
    refine ⟨_, (pss_cons (ps_if (pt_not (pt_val (pe_ca CSt (hr.mono (by decide)) (by rfl) (pa_cons (pv 2) pa_nil)))) (pss_one (ps_ret pe_non)) pss_nil)
      (pss_cons (ps_asg (pv 2) (pg_tup (by rfl) (pgs_cons (pg_name (i := 3) sc_bh.nd rfl (.inl rfl)) (pgs_cons (pg_name (i := 4) sc_bh.nd rfl (.inl rfl)) (pgs_cons (pg_name (i := 5) sc_bh.nd rfl (.inl rfl)) pgs_nil)))))
      (pss_cons (ps_asg (pe_slice sl_tupA (pv 1) (po_some pe_int) po_none) (pg_tup (by rfl) (pgs_cons (pg_name (i := 6) sc_bh.nd rfl (.inl rfl)) (pgs_cons (pg_name (i := 7) sc_bh.nd rfl (.inl rfl)) pgs_nil))))
      (pss_cons (ps_if (pt_not (pt_val (pe_cm MTh SL.cl (hr.mono (by decide)) (pv 0) (pa_cons (pv 1) (pa_cons (pv 3) (pa_cons (pv 4) pa_nil)))))) (pss_one (ps_ret pe_non)) pss_nil)
      (pss_cons (ps_set (i := 8) sc_bh.nd rfl (.inl rfl) (pe_cm MPr SL.cl (hr.mono (by decide)) (pv 0) (pa_cons (pv 3) pa_nil)))
      (pss_cons (ps_if (pt_cmpR op_notIn_seq (pv 5) (pe_ca CAt (hr.mono (by decide)) (by rfl) (pa_cons (pe_fld (pv 0) rfl) (pa_cons (pv 8) (pa_cons (pv 4) (pa_cons (pv 6) pa_nil))))) (by rfl)) (pss_one (ps_ret pe_non)) pss_nil)
      (pss_cons (ps_asg (pe_ca CBA (hr.mono (by decide)) (by rfl) (pa_cons (pe_fld (pv 0) rfl) (pa_cons (pe_ix ix_list (pe_cm MM.as LP.cl (hr.mono (by decide)) (pv 8) (pa_cons (pv 4) pa_nil)) (pv 5) (fun _ _ => rfl)) (pa_cons (pv 6) pa_nil)))) (pg_tup (by rfl) (pgs_cons (pg_name (i := 9) sc_bh.nd rfl (.inl rfl)) (pgs_cons (pg_name (i := 6) sc_bh.nd rfl (.inl rfl)) pgs_nil))))
      (pss_cons (ps_if (pt_cmpR op_eq (pv 3) pe_str (nomark _)) (pss_one (ps_ret (pe_tup (pa_cons (pv 9) (pa_cons (pv 6) (pa_cons (pv 7) pa_nil)))))) pss_nil)
      (pss_cons (ps_set (i := 7) sc_bh.nd rfl (.inl rfl) (pe_cm MRc SL.cl (hr.mono (by decide)) (pv 0) (pa_cons (pe_cm MRc SL.cl (hr.mono (by decide)) (pv 0) (pa_cons (pv 7) (pa_cons (pv 3) (pa_cons (pv 4) (pa_cons (pe_un un_neg pe_int) pa_nil))))) (pa_cons (pv 3) (pa_cons (pv 9) (pa_cons pe_int pa_nil))))))
      (pss_one (ps_ret (pe_tup (pa_cons (pe_ix ix_tup (pv 1) pe_int (fun _ _ => rfl)) (pa_cons (pv 6) (pa_cons (pv 7) pa_nil))))))))))))))), ?_⟩
    obtain ⟨⟨dx, lx, sx, kd, st, sp, xs, at_, h1, h2, h3, h4, h5, h6, h7, h8, gg⟩, gw⟩ := id hS
    obtain ⟨b, rfl, hb⟩ := stp_inv hu
    obtain ⟨a, va, vc, ys, rfl, v1, v2, v3, v4⟩ := stg_inv hv
    have l15 := seats60 gw
    refine ⟨_, rfl, _, _, rfl, hu, fun H1 e1 => ⟨_, rfl, ?_⟩⟩
    refine iteF ?_
    refine ⟨_, rfl, b, _, rfl, SqT.of (e1 _ _ hb), rfl, _, _, rfl, _, _, rfl, _, _, rfl, rfl, ?_⟩
    refine ⟨_, rfl, _, rfl, ?_⟩
    dsimp only [tNoPart]
    refine sl_any (e1 _ _ v1) fun p2 H2 e2 c2 => ?_
    have e12 := e1.trans e2
    refine ⟨p2, _, rfl, SqT.of c2, rfl, _, _, rfl, _, _, rfl, rfl, ?_⟩
    refine ⟨_, rfl, p, dx, _, rfl, e12 _ _ h1, sf_no _ _ _ _ _ (by decide +kernel), _, rfl, _, rfl, _, rfl, p, W, .ref a, s, t.who, t.pl, rfl, hS.up e12, hv.up e12, gs, fun H3 e3 => ⟨_, rfl, ?_⟩⟩
    have e13 := e12.trans e3
    by_cases hth : (t.who, t.pl) ∈ W.theres s
    · rw [decide_eq_true hth]
      refine iteF ?_
      have lt := there_lt gw gs hth
      refine ⟨_, rfl, p, dx, _, rfl, e13 _ _ h1, sf_no _ _ _ _ _ (by decide +kernel), _, rfl, p, W, t.who, rfl, hS.up e13, there_kind gw hth, fun pr H4 e4 hP => ?_⟩
      have e14 := e13.trans e4
      have X4 : Ctx C H4 lx (.ref va) W.ns s.st W.bd := ⟨h2.up e14, .tup (e14 _ _ v2) (DqAll.up e14 v3)⟩
      obtain ⟨pls, sub⟩ := gw.pls hth
      refine ⟨_, rfl, _, rfl, p, S, dx, _, _, rfl, e14 _ _ h1, SL.cl, SL.nL, sf_l _ _ _ _ _, _, rfl, _, rfl, _, rfl, lx, pr, .ref va, W.rows t.who, t.pl, lt, W.ns, s.st, W.bd, rfl, X4, hP, sub, fun l H5 nl5 e5 hl5 => ?_⟩
      have e15 := e14.trans e5
      refine ⟨l, _, rfl, .inl (SqL.of hl5), rfl, flat_idx _, _, rfl, ?_⟩
      rw [if_pos rfl, inV_idx]
      by_cases hal : t.ix ∈ allowI s.st W.bd (W.rows t.who)[t.pl]
      · have hstep : t ∈ W.steps s := mem_steps.mpr ⟨hth, by rw [row_eq lt]; exact hal⟩
        have c := can_of gw gs hstep
        rw [decide_eq_true hal]
        refine iteF ?_
        have hP5 := hP.up e5
        obtain ⟨dp, t5, u5, xs5, us5, p51, _⟩ := id hP5
        refine ⟨_, rfl, p, S, dx, _, _, rfl, e15 _ _ h1, SL.cl, SL.nL, sf_l _ _ _ _ _, _, rfl, pr, dp, _, rfl, p51, pf_no _ _ (by decide +kernel) (by decide +kernel), _, rfl, pr, W.rows t.who, t.pl, lt, rfl, hP5, fun l6 zs H6 nl6 e6 hl6 hzs => ?_⟩
        have e16 := e15.trans e6
        obtain ⟨va6, hva6, dva6⟩ := DqAll_get hzs t.ix (armD (W.arm t)) (by rw [List.getElem?_map, List.getElem?_eq_getElem c.li, c.ar]; rfl)
        refine ⟨_, rfl, l6, _, _, _, rfl, rfl, SqL.of hl6, atI_nat hva6, _, rfl, ?_⟩
        have X6 : Ctx C H6 lx (.ref va) W.ns s.st W.bd := ⟨h2.up e16, .tup (e16 _ _ v2) (DqAll.up e16 v3)⟩
        refine ⟨lx, va6, .ref va, W.arm t, W.ns, s.st, W.bd, rfl, X6, dva6, ba_mk gw c fun r H7 e7 hr7 => ?_⟩
        obtain ⟨ra, zs7, ds7, rfl, ed, k1, k2⟩ := dq_tup hr7 rfl
        cases ed
        cases k2 with
        | cons a1 t1 => cases t1 with
          | cons a2 t2 =>
            cases t2
            cases a1
            rename_i rc
            have e17 := e16.trans e7
            refine ⟨ra, _, rfl, SqT.of k1, rfl, _, _, rfl, _, _, rfl, rfl, ?_⟩
            obtain ⟨rd, ws, rfl, d1, d2, _⟩ := ct_inv a2
            refine ⟨_, rfl, rfl, _, rfl, ?_⟩
            refine ite2 (fun e => ?_) (fun e => ?_)
            · have e' := dec_word.mp e
              refine ⟨_, rfl, _, rfl, _, rfl, by show 3 ≤ sizeLine; decide, fun m hm => ?_⟩
              have e8 := Ext.new (o := .tup [.int ((W.arm t).2 : Int), .ref rd, .ref vc]) hm
              refine q1 hstep _ _ (e17.trans e8) ?_
              unfold Wd.after
              rw [if_pos e']
              exact stg_mk (a := m) (b := rd) (c := vc) upd_same (e8 _ _ d1) (DqAll.up e8 d2) ((e17.trans e8) _ _ v4)
            · have ne : t.who ≠ "" := fun z => e (dec_word.mpr z)
              have hl : s.ct.length = (seatsOf W.ks).length := gs.ct
              refine ⟨_, rfl, p, dx, _, rfl, e17 _ _ h1, sf_no _ _ _ _ _ (by decide +kernel), _, rfl, p, dx, _, rfl, e17 _ _ h1, sf_no _ _ _ _ _ (by decide +kernel), _, rfl, _, rfl, _, rfl, _, rfl, ?_⟩
              refine ⟨p, W, vc, s.ct, t.who, t.pl, -1, (· - 1), rfl, hS.up e17, e17 _ _ v4, hl, by omega, ?_, fun r1 H8 e8 hr8 => ?_⟩
              · rcases there_seat gw hth ne with z | ⟨z1, z2⟩
                · exact .inl z
                · exact .inr ⟨z1, by show (((W.cnt s.ct (t.who, t.pl)) - 1 : Nat) : Int) = _; omega⟩
              have e18 := e17.trans e8
              refine ⟨_, rfl, _, rfl, ?_⟩
              refine ⟨p, W, r1, _, t.who, (W.arm t).2, 1, (· + 1), rfl, hS.up e18, hr8, by rw [recnt_len]; exact hl, by rw [recnt_len]; omega, ?_, fun r2 H9 e9 hr9 => ?_⟩
              · rcases goal_seat gw hth ne c.ga.2 with z | z
                · exact .inl z
                · exact .inr ⟨z, rfl⟩
              have e19 := e18.trans e9
              refine ⟨_, rfl, a, _, 0, _, rfl, rfl, SqT.of (e19 _ _ v1), rfl, _, rfl, _, rfl, by show 3 ≤ sizeLine; decide, fun m hm => ?_⟩
              have e10 := Ext.new (o := .tup [.int ((s.std W.ns).pl : Int), .ref rd, .ref r2]) hm
              refine q1 hstep _ _ (e19.trans e10) ?_
              unfold Wd.after
              rw [if_neg ne]
              have e7m := e8.trans (e9.trans e10)
              exact stg_mk (a := m) (b := rd) (c := r2) upd_same (e7m _ _ d1) (DqAll.up e7m d2) (e10 _ _ hr9)
      · rw [decide_eq_false hal]
        refine iteT ?_
        exact q2 (fun z => hal (by have := (mem_steps.mp z).2; rw [row_eq lt] at this; exact this)) H5 e15
    · rw [decide_eq_false hth]
      refine iteT ?_
      exact q2 (fun z => hth (mem_steps.mp z).1) H3 e13
end
end K41

set_option Elab.async false
set_option linter.all false
set_option maxRecDepth 100000
set_option maxHeartbeats 4000000
namespace K41
open PySem PySem.Spec PyProof.Rows L2 Ol RZ
open TL (tl)
theorem nd_seats (ss : List Seat) : NdAll (ss.map seatD) := NdAll.of fun d hd => by
  obtain ⟨s, _, rfl⟩ := List.mem_map.mp hd
  exact .tup (.cons (.str _) (.cons (.int _) .nil))
theorem nd_stg (s : Std) : Nd (stgD s) := .tup (.cons (.int _) (.cons (nd_ct _) (.cons (.tup (NdAll.of fun d hd => by
  obtain ⟨n, _, rfl⟩ := List.mem_map.mp hd
  exact .int _)) .nil)))
theorem LanesAt.off {C : Addr} {H : Hp} {k p : Addr} {kv : List (Key × V)} {ns : List Str} {bs : List Int} (hk : H k = some (.dK kv)) (hn : kv ≠ spots ns) : LanesAt C H p ns bs → LanesAt C (del H k) p ns bs
  | ⟨dx, n, b, s, h1, h2, h3, h4, r⟩ => ⟨dx, n, b, s, by rw [del_ne (fun z => by rw [z, hk] at h1; cases h1)]; exact h1, by rw [del_ne (fun z => by rw [z, hk] at h2; cases h2)]; exact h2, by rw [del_ne (fun z => by rw [z, hk] at h3; cases h3)]; exact h3,
    by rw [del_ne (fun z => by rw [z, hk] at h4; injection h4 with h4; injection h4 with h4; exact hn h4)]; exact h4, r⟩
theorem spots_ne {ns : List Str} (h : ns ≠ []) (ks : List Knd) (at_ : Str → Addr) : kdA ks at_ ≠ spots ns := by
  cases ns with
  | nil => exact absurd rfl h
  | cons x ns =>
    intro e
    unfold kdA spots at e
    cases ks with
    | nil => simp at e
    | cons k ks => simp at e
theorem allow_len {st : Str → Nat × Bool} {bd : Str → Int} {p : Place} : (allowI st bd p).length ≤ p.2.length := by
  have h1 : ∀ q, (idxs q p.2).length ≤ p.2.length := fun q => by
    unfold idxs
    exact Nat.le_trans (List.length_filter_le ..) (by rw [List.length_range]; exact Nat.le_refl _)
  have h2 : (openI st bd p.2).length ≤ p.2.length := by
    unfold openI
    split <;> exact h1 _
  unfold allowI
  split
  · rw [List.length_take]; omega
  · exact h2
namespace Wd
variable (W : Wd)
/-- the places of a kind that are there -/
def thK (s : Sd) (k : Knd) : List Seat := ((List.range k.2.length).filter (W.thereB s.ct k.1)).map fun p => (k.1, p)
def th (s : Sd) (i : Nat) : List Seat := ("", s.pl) :: (W.ks.take i).flatMap (W.thK s)
end Wd
section
variable {W : Wd}
theorem th_all (s : Sd) : W.th s W.ks.length = W.theres s := by
  unfold Wd.th Wd.theres
  rw [List.take_length]
  rfl
theorem th_snoc (s : Sd) {i : Nat} (h : i < W.ks.length) : W.th s (i + 1) = W.th s i ++ W.thK s W.ks[i] := by
  unfold Wd.th
  rw [List.take_add_one, List.getElem?_eq_getElem h, Option.toList_some, List.flatMap_append, List.cons_append]
  simp
theorem thK_len (s : Sd) (k : Knd) : (W.thK s k).length ≤ k.2.length := by
  unfold Wd.thK
  rw [List.length_map]
  exact Nat.le_trans (List.length_filter_le ..) (by rw [List.length_range]; exact Nat.le_refl _)
theorem th_len (g : GW W) (s : Sd) (i : Nat) : (W.th s i).length ≤ 1 + 6 * i := by
  unfold Wd.th
  rw [List.length_cons]
  have h : ∀ l : List Knd, (∀ k ∈ l, k ∈ W.ks) → (l.flatMap (W.thK s)).length ≤ 6 * l.length := by
    intro l
    induction l with
    | nil => intro _; exact Nat.le_refl _
    | cons k l ih =>
      intro hl
      rw [List.flatMap_cons, List.length_append, List.length_cons]
      have := ih fun a ha => hl a (List.mem_cons_of_mem _ ha)
      have := thK_len (W := W) s k
      have := (g.pk k (hl k List.mem_cons_self)).few
      omega
  have := h (W.ks.take i) fun k hk => List.mem_of_mem_take hk
  rw [List.length_take] at this
  omega
theorem there_iff (g : GW W) {s : Sd} {k : Knd} (hk : k ∈ W.ks) {p : Nat} (hp : p < k.2.length) : decide ((k.1, p) ∈ W.theres s) = W.thereB s.ct k.1 p := by
  cases e : W.thereB s.ct k.1 p with
  | true => exact decide_eq_true ((mem_theres g).mpr (.inr ⟨k, hk, rfl, hp, e⟩))
  | false =>
    refine decide_eq_false fun h => ?_
    rcases (mem_theres g).mp h with ⟨h, _⟩ | ⟨k', hk', _, _, h⟩
    · exact g.ne hk h
    · rw [e] at h; cases h
theorem at_len (g : GW W) {s : Sd} (gs : GSd W s) {x : Seat} (h : x ∈ W.theres s) : (W.stepsAt s x).length ≤ 5 := by
  unfold Wd.stepsAt
  rw [List.length_map]
  obtain ⟨u, p⟩ := x
  have lt := there_lt g gs h
  have := ((g.pls h).1.ok _ (List.getElem_mem lt)).few
  have := allow_len (st := s.st) (bd := W.bd) (p := W.row u p)
  rw [row_eq lt] at this
  rw [row_eq lt]
  omega
theorem stepsAt_get {s : Sd} {x : Seat} (lt : x.2 < (W.rows x.1).length) {j : Nat} (hj : j < (allowI s.st W.bd (W.rows x.1)[x.2]).length) : (W.stepsAt s x)[j]? = some ⟨x.1, x.2, (allowI s.st W.bd (W.rows x.1)[x.2])[j]⟩ := by
  unfold Wd.stepsAt
  rw [List.getElem?_map, row_eq lt, List.getElem?_eq_getElem hj]
  rfl
theorem pre_len (g : GW W) {s : Sd} (gs : GSd W s) (i : Nat) : (((W.theres s).take i).flatMap (W.stepsAt s)).length ≤ 5 * i := by
  have h : ∀ l : List Seat, (∀ x ∈ l, x ∈ W.theres s) → (l.flatMap (W.stepsAt s)).length ≤ 5 * l.length := by
    intro l
    induction l with
    | nil => intro _; exact Nat.le_refl _
    | cons k l ih =>
      intro hl
      rw [List.flatMap_cons, List.length_append, List.length_cons]
      have := ih fun a ha => hl a (List.mem_cons_of_mem _ ha)
      have := at_len g gs (hl k List.mem_cons_self)
      omega
  have := h ((W.theres s).take i) fun x hx => List.mem_of_mem_take hx
  rw [List.length_take] at this
  omega
theorem steps_len (g : GW W) {s : Sd} (gs : GSd W s) : (W.steps s).length ≤ 100 := by
  have h1 := pre_len g gs (W.theres s).length
  rw [List.take_length] at h1
  have h2 := th_len g s W.ks.length
  rw [th_all] at h2
  have := g.gs.few
  unfold Wd.steps
  omega
end
section
variable {P : Program} {w : World} {K : PySem.W.Frag} {mg : Str → Option Value} {base : Heap} {C CP S : Addr}
/-! ### System.steps -/
def spSts (S C CP : Addr) : Sp := fun vs H Q _ => ∃ (p : Addr) (W : Wd) (v : V) (s : Sd), vs = [.ref p, v] ∧ SysO S C CP H p W ∧ Dq H v (stgD (s.std W.ns)) ∧ GSd W s ∧
  ∀ (l : Addr) (ys : List V) (H' : Hp), H l = none → Ext H H' → H' l = some (.lst ys) → DqAll (del H' l) ys ((W.steps s).map stpD) → Q (.ref l) H'
abbrev nSs : List Str := ["self", "standing", "found", "kind", "size", "place", "who", "index"]
theorem sc_sts : FnScope nSs ["self", "standing"] (defScope (cS 15)) := ⟨rfl, rfl, rfl, by decide +kernel, rfl, by decide +kernel, by decide +kernel⟩
theorem ok_sts {f : Addr} {fd : FuncData} (F : Fun K "steps" "System.steps" (cS 15) f fd) (T : BT mg) (SL : ST K mg S) (LP : PT K mg CP) (PZ : Pr P w K mg base CP 1 "size" (spSz CP))
    (MTh : Cm P w K mg base S 1 "_is_there" ["self", "standing", "who", "place"] (spTh S C CP)) (MPr : Cm P w K mg base S 2 "program" ["self", "who"] (spPrg S C CP))
    (CAt : Ca P w K mg base 7 "allowed_at" ["lanes", "program", "place", "content"] (spAt C CP)) :
    FnOk P w K mg base CX0 8 f fd ["self", "standing"] (spSts S C CP) := by
  obtain ⟨xZ, fZ, fdZ, FZ, prZ, bZ⟩ := PZ.has
  refine F.ok sc_sts (fun vs H Q E h => ?_) (fun cdv A outer s H vs Q E hr h => ?_)
  · obtain ⟨p, W, v, s, rfl, _⟩ := h
    rfl
  · obtain ⟨p, W, v, s, rfl, hS, hv, gs, q⟩ := h
    refine ⟨_, (pss_cons (ps_set (i := 2) sc_sts.nd rfl (.inl rfl) (pe_lst (pa_cons (pe_tup (pa_cons pe_str (pa_cons (pe_ix ix_tup (pv 1) pe_int (fun _ _ => rfl)) pa_nil))) pa_nil)))
      (pss_cons (ps_lock (ps_for PassesOwn.never rfl (pi_keys (pe_fld (pv 0) rfl)) (pg_name (i := 3) sc_sts.nd rfl (.inr rfl))
        (pss_cons (ps_set (i := 4) sc_sts.nd rfl (.inl rfl) (pe_prop (pe_dget (hu_of hr) (pe_fld (pv 0) rfl) (pv 3) (fun _ _ => rfl)) LP.cl prZ FZ (hr.mono (by decide)) bZ .nil pass0 rfl))
        (pss_one (ps_expr (pe_bm PySem.F.plainAttrs_list PySem.F.slot_list_extend PySem.F.type_list_extend mt_extend (pv 2) (pa_cons (pe_lc (own := [("place", 5)]) (g := gName 5) (tt := tB (tMeth S "_is_there" (spTh S C CP) [] E0 (tVar 0) (tCons (tVar 1) (tCons (tVar 3) (tCons (tVar 5) tNil))))) rfl sc_sts.nd (pi_range1 (by rfl) T.n_range (pa_cons (pv 4) pa_nil)) (blkOk_by (N := nSs) (sc := defScope (cS 15)) (by decide +kernel)) (fun _ _ _ _ _ => pg_name (i := 5) sc_sts.nd rfl (.inl rfl))
          (fun _ _ _ _ _ => pts_one (pt_val (pe_cm MTh SL.cl (hr.mono (by decide)) (pv 0) (pa_cons (pv 1) (pa_cons (pv 3) (pa_cons (pv 5) pa_nil)))))) (fun _ _ _ _ _ => pe_tup (pa_cons (pv 3) (pa_cons (pv 5) pa_nil)))) pa_nil)))))))
      (pss_one (ps_ret (pe_lc2 (own := [("who", 6), ("place", 5), ("index", 7)]) (vs1 := [7]) (g := gTup K 2 (gCons (gName 6) (gCons (gName 5) gNil))) (g1 := gName 7) (tt := tYes) (tt1 := tYes)
        (wi1 := iList K (tCall (spAt C CP) [] E0 (tCons (tFld K (tVar 0) "_lanes") (tCons (tMeth S "program" (spPrg S C CP) [] E0 (tVar 0) (tCons (tVar 6) tNil)) (tCons (tVar 5) (tCons (tOp (rIxT K) (tVar 1) (tC (.int 1))) tNil)))))) (te := tTup (tCons (tVar 6) (tCons (tVar 5) (tCons (tVar 7) tNil)))) rfl sc_sts.nd (pi_list (pv 2)) (blkOk_by (N := nSs) (sc := defScope (cS 15)) (by decide +kernel)) (by decide)
        (fun _ _ _ _ _ => pg_tup (by rfl) (pgs_cons (pg_name (i := 6) sc_sts.nd rfl (.inl rfl)) (pgs_cons (pg_name (i := 5) sc_sts.nd rfl (.inl rfl)) pgs_nil))) (fun _ _ _ _ _ => pts_nil)
        (fun _ _ _ _ _ => pi_list (pe_ca CAt (hr.mono (by decide)) (by rfl) (pa_cons (pe_fld (pv 0) rfl) (pa_cons (pe_cm MPr SL.cl (hr.mono (by decide)) (pv 0) (pa_cons (pv 6) pa_nil)) (pa_cons (pv 5) (pa_cons (pe_ix ix_tup (pv 1) pe_int (fun _ _ => rfl)) pa_nil))))))
        (fun _ _ _ _ _ => pg_name (i := 7) sc_sts.nd rfl (.inl rfl)) (fun _ _ _ _ _ => pts_nil) (fun _ _ _ _ _ => pe_tup (pa_cons (pv 6) (pa_cons (pv 5) (pa_cons (pv 7) pa_nil))))))))), ?_⟩
    obtain ⟨⟨dx, lx, sx, kd, st, sp, xs, at_, h1, h2, h3, h4, h5, h6, h7, h8, gg⟩, gw⟩ := id hS
    obtain ⟨a, va, vc, ys0, rfl, v1, v2, v3, v4⟩ := stg_inv hv
    have k3 := gw.gs.few
    -- the heap under the walk
    have nS : ∀ b o, H b = some o → b ≠ kd → ∀ o2, (upd H kd o2) b = some o := fun b o z n o2 => by rw [upd_ne n]; exact z
    have hv' := Dq.off h4 hv (nd_stg _)
    have eL : ∀ od : Obj, SysW S C CP (upd H kd (.frz od (.dK (kdA W.ks at_)))) p W := fun od => by
      have du := del_up (H := H) (k := kd) (o := .frz od (.dK (kdA W.ks at_)))
      exact ⟨⟨dx, lx, sx, kd, st, sp, xs, at_, by rw [upd_ne (fun z => by rw [z, h4] at h1; cases h1)]; exact h1, (LanesAt.off h4 (spots_ne gw.n1 _ _) h2).up du, (ProgAt.off h4 h3).up du, .inr ⟨od, upd_same⟩, fun k hk => (ProgAt.off h4 (h5 k hk)).up du,
        by rw [upd_ne (fun z => by rw [z, h4] at h6; cases h6)]; exact h6, DqAll.up du (DqAll.off h4 h7 (nd_seats _)), by rw [upd_ne (fun z => by rw [z, h4] at h8; cases h8)]; exact h8, gg⟩, gw⟩
    have ePL : ∀ (od : Obj), ∀ k ∈ W.ks, ProgAt CP (upd H kd (.frz od (.dK (kdA W.ks at_)))) (at_ k.1) k.2 := fun od k hk => (ProgAt.off h4 (h5 k hk)).up del_up
    refine ⟨_, rfl, a, _, 0, _, rfl, rfl, SqT.of v1, rfl, by show 2 ≤ sizeLine; decide, fun t0 ht0 => ?_⟩
    have e0 := Ext.new (o := .tup [.str "", .int ((s.std W.ns).pl : Int)]) ht0
    have t01 : upd H t0 (.tup [.str "", .int ((s.std W.ns).pl : Int)]) t0 = some (.tup [.str "", .int ((s.std W.ns).pl : Int)]) := upd_same
    generalize upd H t0 (.tup [.str "", .int ((s.std W.ns).pl : Int)]) = Ha at e0 t01 ⊢
    refine ⟨by show 1 ≤ sizeLine; decide, fun F0 hF => ?_⟩
    have eF := Ext.new (o := .lst [.ref t0]) hF
    have nFk : F0 ≠ kd := fun z => by rw [z, e0 _ _ h4] at hF; cases hF
    have hb4 := eF _ _ (e0 _ _ h4)
    refine ⟨kd, _, hb4, trivial, fun od => ?_⟩
    have hSL := eL od
    have hPL := ePL od
    have hvL : Dq (upd H kd (.frz od (.dK (kdA W.ks at_)))) (.ref a) (stgD (s.std W.ns)) := hv'.up del_up
    have hkL : (upd H kd (.frz od (.dK (kdA W.ks at_)))) kd = some (.frz od (.dK (kdA W.ks at_))) := upd_same
    have nF0 : H F0 = none := e0.free hF
    -- from the heap under the walk to what stands now, without the list
    have eB : Ext (upd H kd (.frz od (.dK (kdA W.ks at_)))) (del (upd (upd Ha F0 (.lst [.ref t0])) kd (.frz od (.dK (kdA W.ks at_)))) F0) := fun b o z => by
      have nb : b ≠ F0 := fun c => by rw [c, upd_ne nFk, nF0] at z; cases z
      rw [del_ne nb]
      by_cases c : b = kd
      · rw [c, upd_same] at z ⊢
        exact z
      · rw [upd_ne c] at z ⊢
        exact eF _ _ (e0 _ _ z)
    have nt0 : t0 ≠ kd := fun z => by rw [z, h4] at ht0; cases ht0
    have nt1 : t0 ≠ F0 := fun z => by rw [z, hF] at t01; cases t01
    have hbF : (upd (upd Ha F0 (.lst [.ref t0])) kd (.frz od (.dK (kdA W.ks at_)))) F0 = some (.lst [.ref t0]) := by rw [upd_ne nFk]; exact upd_same
    have hbt : (del (upd (upd Ha F0 (.lst [.ref t0])) kd (.frz od (.dK (kdA W.ks at_)))) F0) t0 = some (.tup [.str "", .int ((s.std W.ns).pl : Int)]) := by rw [del_ne nt1, upd_ne nt0]; exact eF _ _ t01
    have hbU : ∀ b o, H b = some o → b ≠ kd → (upd (upd Ha F0 (.lst [.ref t0])) kd (.frz od (.dK (kdA W.ks at_)))) b = some o := fun b o z c => by rw [upd_ne c]; exact eF _ _ (e0 _ _ z)
    generalize upd (upd Ha F0 (.lst [.ref t0])) kd (.frz od (.dK (kdA W.ks at_))) = Hb at eB hbF hbt hbU ⊢
    generalize upd H kd (.frz od (.dK (kdA W.ks at_))) = HL at hSL hPL hvL hkL eB ⊢
    have hbk : Hb kd = some (.frz od (.dK (kdA W.ks at_))) := del_ext _ _ (eB _ _ hkL)
    have npk : p ≠ kd := fun z => by rw [z, h4] at h1; cases h1
    have hbp : Hb p = some (.ins S dx (sf lx sx kd st sp)) := hbU _ _ h1 npk
    have npF : p ≠ F0 := fun z => by rw [z, nF0] at h1; cases h1
    refine ⟨_, rfl, p, S, dx, _, _, rfl, hbp, SL.cl, SL.nK, sf_k _ _ _ _ _, kd, od, rfl, .inl ⟨_, hbk, ?_⟩⟩
    refine for_it (walk_keys (kvs := kdA W.ks at_)) (fun i σ H' => ∃ v3 v4 v5 v6 v7 xs', σ = [some (.ref p), some (.ref a), some (.ref F0), v3, v4, v5, v6, v7] ∧ Ext (del Hb F0) H' ∧ H' F0 = some (.lst xs') ∧ DqAll (del H' F0) xs' ((W.th s i).map seatD))
      ⟨none, none, none, none, none, _, rfl, del_ext, hbF, .cons (.tup hbt (.cons (.str _) (.cons (.int _) .nil))) .nil⟩ (fun i σ H' _ ⟨_, _, _, _, _, _, _, e, _⟩ => e _ _ ((del_ne (Ne.symm nFk)).trans hbk)) ?_ ?_
    · rintro i x σ H2 H3 hi ⟨v3, v4, v5, v6, v7, xs', rfl, e2, h2F, h2x⟩ ⟨rfl, ky, vv, hkv, rfl⟩
      rw [kdA_len] at hi
      rw [kdA_at hi] at hkv
      cases hkv
      have mem : W.ks[i] ∈ W.ks := List.getElem_mem hi
      have e02 := eB.trans e2
      have h2k := e2 _ _ ((del_ne (Ne.symm nFk)).trans hbk)
      have h2p := e2 _ _ ((del_ne npF).trans hbp)
      have P2 := (hPL _ mem).up e02
      obtain ⟨dk, tk, uk, xk, usk, k1, _⟩ := id P2
      have l6 := (gw.pk _ mem).few
      refine ⟨_, rfl, p, S, dx, _, _, rfl, h2p, SL.cl, SL.nK, sf_k _ _ _ _ _, _, rfl, kd, _, rfl, get_at (.inr ⟨od, h2k⟩) (List.mem_map_of_mem mem), at_ W.ks[i].1, dk, _, rfl, k1, at_ W.ks[i].1, W.ks[i].2, rfl, P2, ?_⟩
      refine ⟨_, rfl, .inl ⟨rfl, _, SqL.of h2F⟩, _, rfl, _, rfl, by omega, by omega, fun D hD => ?_⟩
      rw [Int.toNat_natCast]
      have nDF : D ≠ F0 := fun z => by rw [z, h2F] at hD; cases hD
      have nDk : D ≠ kd := fun z => by rw [z, h2k] at hD; cases hD
      refine lc1_acc walk_range (fun j ys Hd => j ≤ 6 ∧ DqAll (del Hd F0) ys ((((List.range j).filter (W.thereB s.ct W.ks[i].1)).map fun p => ((W.ks[i].1, p) : Seat)).map seatD)) (fun _ _ _ _ e ⟨h1, h⟩ => ⟨h1, DqAll.up (ext_del e) h⟩) ⟨by decide, .nil⟩ hD
        (fun j ys _ ⟨h1, h⟩ => by
          rw [h.len, List.length_map, List.length_map]
          exact Nat.lt_of_le_of_lt (Nat.le_trans (List.length_filter_le ..) (by rw [List.length_range]; exact h1)) (by decide)) (fun _ _ => trivial) ?_ ?_
      · rintro j y Hi H' ys hj e hy ⟨rfl, rfl⟩ ⟨b1, hz⟩ QY QN kY kN
        have e0i := e02.trans e
        refine ⟨rfl, ?_⟩
        dsimp only
        rw [Int.zero_add]
        refine ⟨_, rfl, p, dx, _, rfl, e _ _ h2p, sf_no _ _ _ _ _ (by decide +kernel), _, rfl, _, rfl, _, rfl, p, W, .ref a, s, W.ks[i].1, j, rfl, hSL.up e0i, hvL.up e0i, gs, fun H5 e5 => ⟨_, rfl, ?_⟩⟩
        rw [there_iff gw mem hj]
        have hd : (List.range (j + 1)).filter (W.thereB s.ct W.ks[i].1) = (List.range j).filter (W.thereB s.ct W.ks[i].1) ++ (if W.thereB s.ct W.ks[i].1 j = true then [j] else []) := by
          rw [List.range_succ, List.filter_append]
          congr 1
          by_cases c : W.thereB s.ct W.ks[i].1 j = true
          · rw [if_pos c, List.filter_cons_of_pos c]; rfl
          · rw [if_neg c, List.filter_cons_of_neg c]; rfl
        refine ite2 (fun g => ?_) (fun g => ?_)
        · refine ⟨_, rfl, _, rfl, by show 2 ≤ sizeLine; decide, fun t ht => ?_⟩
          have et := Ext.new (o := .tup [.str W.ks[i].1, .int (j : Int)]) ht
          have n1 : t ≠ F0 := fun z => by
            have := (e.trans e5) _ _ h2F
            rw [z, this] at ht
            cases ht
          have n2 : t ≠ D := fun z => by rw [z, e5 _ _ hy] at ht; cases ht
          refine kY _ _ (e5.trans et) ⟨by omega, ?_⟩
          rw [hd, if_pos g, List.map_append, List.map_append]
          refine dq_app (DqAll.up (ext_del (ext_del (e5.trans et))) hz) (.cons ?_ .nil)
          exact .tup (by rw [del_ne n1, del_ne n2]; exact upd_same) (.cons (.str _) (.cons (.int _) .nil))
        · refine kN _ e5 ⟨by omega, ?_⟩
          rw [hd, if_neg g, List.append_nil]
          exact DqAll.up (ext_del (ext_del e5)) hz
      · rintro H6 ys e6 h6D ⟨_, hz⟩
        have h6F := e6 _ _ h2F
        have n7 := th_len gw s i
        have ly : ys.length ≤ 6 := by
          rw [hz.len, List.length_map, List.length_map]
          exact Nat.le_trans (List.length_filter_le ..) (by rw [List.length_range]; exact l6)
        have lx' : xs'.length ≤ 19 := by rw [h2x.len, List.length_map]; omega
        refine ⟨F0, D, _, _, rfl, rfl, h6F, h6D, Nat.le_trans (show _ ≤ 25 by omega) (by decide), ?_⟩
        refine ⟨_, _, _, _, _, _, rfl, ?_, upd_same, ?_⟩
        · exact Ext.mut (e2.trans e6) del_same
        · rw [del_upd, th_snoc s hi, List.map_append]
          exact dq_app (DqAll.up (ext_del e6) h2x) hz
    · rintro σ H2 ⟨w3, w4, w5, w6, w7, xs', rfl, e2, h2F, h2x⟩
      rw [kdA_len, th_all] at h2x
      have h2k := e2 _ _ ((del_ne (Ne.symm nFk)).trans hbk)
      refine ⟨h2k, ?_⟩
      have e02 := eB.trans e2
      have eH : Ext H (upd H2 kd (.dK (kdA W.ks at_))) := fun b o z => by
        by_cases c : b = kd
        · rw [c] at z ⊢
          rw [upd_same, ← h4, z]
        · rw [upd_ne c]
          exact e2 _ _ ((del_ne (fun y => by rw [y, nF0] at z; cases z)).trans (hbU _ _ z c))
      have h3F : (upd H2 kd (.dK (kdA W.ks at_))) F0 = some (.lst xs') := by rw [upd_ne nFk]; exact h2F
      have h3x : DqAll (del (upd H2 kd (.dK (kdA W.ks at_))) F0) xs' ((W.theres s).map seatD) := by
        have z := DqAll.fz (H := del H2 F0) (k := kd) ((del_ne (Ne.symm nFk)).trans h2k) h2x
        refine DqAll.up (fun b o y => ?_) z
        have c : b ≠ kd := fun c => by rw [c, del_same] at y; cases y
        rw [del_ne c] at y
        have c2 : b ≠ F0 := fun c2 => by rw [c2, del_same] at y; cases y
        rw [del_ne c2] at y ⊢
        rw [upd_ne c]
        exact y
      generalize upd H2 kd (.dK (kdA W.ks at_)) = H3 at eH h3F h3x ⊢
      have hx3 : DqAll H3 xs' ((W.theres s).map seatD) := DqAll.up del_ext h3x
      have lt20 := th_len gw s W.ks.length
      rw [th_all] at lt20
      have lxs : xs'.length = (W.theres s).length := by rw [hx3.len, List.length_map]
      refine ⟨_, rfl, F0, rfl, ⟨_, SqL.of h3F⟩, fun D hD => ?_⟩
      refine lc2_acc (walk_list (xs := xs')) (fun i j ys Hd => i ≤ 20 ∧ j ≤ 5 ∧ DqAll (del Hd D) ys ((((W.theres s).take i).flatMap (W.stepsAt s) ++ (((W.theres s)[i]?.map (W.stepsAt s)).getD []).take j).map stpD))
        (fun _ _ _ _ _ e ⟨a1, a2, h⟩ => ⟨a1, a2, DqAll.up (ext_del e) h⟩) ⟨by decide, by decide, by
          cases hq : (W.theres s)[0]? <;> exact .nil⟩ hD
        (fun i j ys _ ⟨a1, a2, h⟩ => by
          rw [h.len, List.length_map, List.length_append, List.length_take]
          have := pre_len gw gs i
          exact Nat.lt_of_le_of_lt (show _ ≤ 105 by omega) (by decide)) (fun H' e => SqL.of (e _ _ h3F)) ?_ ?_
      · rintro i x Hi H' ys hi ei hy ⟨rfl, hxi⟩ ⟨b1, b2, hz⟩ R hR
        have hi2 : i < (W.theres s).length := by rw [← lxs]; exact hi
        obtain ⟨x', hx', dx'⟩ := DqAll_get hx3 i (seatD (W.theres s)[i]) (by rw [List.getElem?_map, List.getElem?_eq_getElem hi2]; rfl)
        rw [hxi] at hx'
        cases hx'
        obtain ⟨t, rfl, ht⟩ := seat_inv dx'
        have e0i := eH.trans ei
        have mt : (W.theres s)[i] ∈ W.theres s := List.getElem_mem hi2
        have lt := there_lt gw gs (u := (W.theres s)[i].1) (p := (W.theres s)[i].2) mt
        have pl := gw.pls (u := (W.theres s)[i].1) (p := (W.theres s)[i].2) mt
        refine ⟨t, _, rfl, SqT.of (ei _ _ ht), rfl, _, _, rfl, _, _, rfl, rfl, rfl, ?_⟩
        refine ⟨_, rfl, p, S, dx, _, _, rfl, e0i _ _ h1, SL.cl, SL.nL, sf_l _ _ _ _ _, _, rfl, p, dx, _, rfl, e0i _ _ h1, sf_no _ _ _ _ _ (by decide +kernel), _, rfl, p, W, (W.theres s)[i].1, rfl, (hS.up e0i).w, there_kind gw mt, fun pr H4 e4 hP => ?_⟩
        have e04 := e0i.trans e4
        refine ⟨_, rfl, _, rfl, a, _, 1, _, rfl, rfl, SqT.of (e04 _ _ v1), rfl, ?_⟩
        refine ⟨lx, pr, .ref va, W.rows (W.theres s)[i].1, (W.theres s)[i].2, lt, W.ns, s.st, W.bd, rfl, ⟨h2.up e04, .tup (e04 _ _ v2) (DqAll.up e04 v3)⟩, hP, pl.2, fun l H5 nl5 e5 hl5 => ?_⟩
        refine ⟨l, rfl, ⟨_, SqL.of hl5⟩, hR _ _ _ ⟨e4.trans e5, _, _, _, walk_list (xs := (allowI s.st W.bd (W.rows (W.theres s)[i].1)[(W.theres s)[i].2]).map fun i : Nat => V.int (i : Int)), fun Hz ez => SqL.of (ez _ _ ?_), ?_, ?_⟩⟩
        · rw [del_ne]
          · exact hl5
          · intro z
            rw [z, e4 _ _ hy] at nl5
            cases nl5
        · rintro zs Hz ⟨_, _, h⟩
          refine ⟨by omega, by decide, ?_⟩
          rw [List.take_add_one, List.getElem?_eq_getElem hi2, Option.toList_some, List.flatMap_append]
          rw [List.getElem?_eq_getElem hi2] at h
          have el : (W.stepsAt s (W.theres s)[i]).take ((allowI s.st W.bd (W.rows (W.theres s)[i].1)[(W.theres s)[i].2]).map fun i : Nat => V.int (i : Int)).length = W.stepsAt s (W.theres s)[i] := by
            refine List.take_of_length_le ?_
            unfold Wd.stepsAt
            rw [List.length_map, List.length_map, row_eq lt]
            exact Nat.le_refl _
          rw [show ((some (W.theres s)[i]).map (W.stepsAt s)).getD [] = W.stepsAt s (W.theres s)[i] from rfl, el] at h
          rw [List.take_zero, List.append_nil]
          simpa using h
        · rintro j y Ha2 Hb2 zs hj eH2 ha2 ⟨rfl, hyj⟩ ⟨_, _, h⟩ QY QN kY kN
          rw [List.length_map] at hj
          rw [List.getElem?_map, List.getElem?_eq_getElem hj] at hyj
          cases hyj
          refine ⟨rfl, ?_⟩
          refine tyes ?_
          refine ⟨_, rfl, _, rfl, _, rfl, by show 3 ≤ sizeLine; decide, fun t2 ht2 => ?_⟩
          have et := Ext.new (o := .tup [.str (W.theres s)[i].1, .int ((W.theres s)[i].2 : Int), .int ((allowI s.st W.bd (W.rows (W.theres s)[i].1)[(W.theres s)[i].2])[j] : Int)]) ht2
          have n2 : t2 ≠ D := fun z => by rw [z, ha2] at ht2; cases ht2
          have al := at_len gw gs mt
          have lj : j < (W.stepsAt s (W.theres s)[i]).length := by
            unfold Wd.stepsAt
            rw [List.length_map, row_eq lt]
            exact hj
          refine kY _ _ et ⟨b1, by omega, ?_⟩
          rw [List.getElem?_eq_getElem hi2] at h ⊢
          rw [show ((some (W.theres s)[i]).map (W.stepsAt s)).getD [] = W.stepsAt s (W.theres s)[i] from rfl] at h ⊢
          rw [List.take_add_one, List.getElem?_eq_getElem lj, Option.toList_some, ← List.append_assoc, List.map_append]
          refine dq_app (DqAll.up (ext_del (ext_del et)) h) (.cons ?_ .nil)
          have es : (W.stepsAt s (W.theres s)[i])[j] = ⟨(W.theres s)[i].1, (W.theres s)[i].2, (allowI s.st W.bd (W.rows (W.theres s)[i].1)[(W.theres s)[i].2])[j]⟩ := by
            have z := stepsAt_get (W := W) (s := s) (x := (W.theres s)[i]) lt hj
            rw [List.getElem?_eq_getElem lj] at z
            exact Option.some.inj z
          rw [es]
          refine stp_mk (a := t2) ?_
          rw [del_ne n2, del_ne n2]
          exact upd_same
      · rintro H5 ys e5 h5D ⟨_, _, hz⟩
        rw [lxs, List.take_length, List.take_zero, List.append_nil] at hz
        exact q D ys H5 (eH.free hD) (eH.trans e5) h5D hz
end
end K41

set_option Elab.async false
set_option linter.all false
set_option maxRecDepth 100000
set_option maxHeartbeats 4000000
namespace K41
open PySem PySem.Spec PyProof.Rows L2 Ol RZ
open TL (tl)
/-! ### data without lists -/
mutual
inductive Nl : PyData → Prop
  | non : Nl .none
  | bl (b : Bool) : Nl (.bool b)
  | int (i : Int) : Nl (.int i)
  | str (x : Str) : Nl (.str x)
  | tup {ds : List PyData} : NlAll ds → Nl (.tuple ds)
inductive NlAll : List PyData → Prop
  | nil : NlAll []
  | cons {d : PyData} {ds : List PyData} : Nl d → NlAll ds → NlAll (d :: ds)
end
theorem NlAll.of : ∀ {ds : List PyData}, (∀ d ∈ ds, Nl d) → NlAll ds
  | [], _ => .nil
  | d :: ds, h => .cons (h d List.mem_cons_self) (NlAll.of fun e he => h e (List.mem_cons_of_mem _ he))
mutual
theorem Dq.offl {H : Hp} {p : Addr} {xs : List V} (hp : H p = some (.lst xs)) : ∀ {v : V} {d : PyData}, Dq H v d → Nl d → Dq (del H p) v d
  | _, _, .non, _ => .non
  | _, _, .bl b, _ => .bl b
  | _, _, .int i, _ => .int i
  | _, _, .str x, _ => .str x
  | _, _, .lst h t, n => by cases n
  | _, _, .tup h t, n => .tup (by rw [del_ne (fun z => by rw [z, hp] at h; cases h)]; exact h) (DqAll.offl hp t (by cases n; assumption))
  | _, _, .dct h t, n => by cases n
theorem DqAll.offl {H : Hp} {p : Addr} {xs : List V} (hp : H p = some (.lst xs)) : ∀ {vs : List V} {ds : List PyData}, DqAll H vs ds → NlAll ds → DqAll (del H p) vs ds
  | _, _, .nil, _ => .nil
  | _, _, .cons h t, n => .cons (Dq.offl hp h (by cases n; assumption)) (DqAll.offl hp t (by cases n; assumption))
end
theorem nl_st (c : Nat) (b : Bool) : Nl (stD c b) := .tup (.cons (.int _) (.cons (.bl _) .nil))
theorem nl_ct (cs : List (Nat × Bool)) : Nl (ctD cs) := .tup (NlAll.of fun d hd => by
  obtain ⟨s, _, rfl⟩ := List.mem_map.mp hd
  exact nl_st _ _)
theorem nl_stg (s : Std) : Nl (stgD s) := .tup (.cons (.int _) (.cons (nl_ct _) (.cons (.tup (NlAll.of fun d hd => by
  obtain ⟨n, _, rfl⟩ := List.mem_map.mp hd
  exact .int _)) .nil)))
theorem nl_stp (t : Stp) : Nl (stpD t) := .tup (.cons (.str _) (.cons (.int _) (.cons (.int _) .nil)))
theorem nl_arm (a : Arm) : Nl (armD a) := by
  obtain ⟨o, g⟩ := a
  cases o with
  | none => exact .tup (.cons (.str _) (.cons (.int _) .nil))
  | some p => exact .tup (.cons (.str _) (.cons (.str _) (.cons (.int _) .nil)))
theorem nl_place (p : Place) : Nl (placeD p) := .tup (.cons (.str _) (.cons (.tup (NlAll.of fun d hd => by
  obtain ⟨n, _, rfl⟩ := List.mem_map.mp hd
  exact nl_arm _)) .nil))
theorem atI_last {xs : List V} {n : Nat} {x : V} (hl : xs.length = n + 1) (h : xs[n]? = some x) : atI xs (-1) = some x := by
  unfold atI ixN
  have h1 : ¬ ((0 : Int) ≤ -1) := by omega
  have h2 : (0 : Int) ≤ -1 + (xs.length : Int) := by omega
  have h3 : (-1 + (xs.length : Int)).toNat = n := by omega
  have h4 : (-1 + (xs.length : Int)) < (xs.length : Int) := by omega
  simp [h3, h, hl]
  rw [if_pos (by omega)]
  have h5 : (-1 + ((n : Int) + 1)).toNat = n := by omega
  rw [h5]
  exact h
section
variable {P : Program} {w : World} {K : PySem.W.Frag} {mg : Str → Option Value} {base : Heap} {C CP S : Addr}
/-! ### System.run -/
def endD (W : Wd) (s : Sd) (ts : List Stp) : List PyData := (ends W s ts).map fun x => stgD (x.std W.ns)
theorem endD_snoc {W : Wd} (s : Sd) (ts : List Stp) (t : Stp) : endD W s (ts ++ [t]) = endD W s ts ++ [stgD ((last W s (ts ++ [t])).std W.ns)] := by
  unfold endD
  rw [ends_snoc, List.map_append]
  rfl
def spRun (S C CP : Addr) : Sp := fun vs H Q _ => ∃ (p l : Addr) (W : Wd) (v : V) (s : Sd) (ys : List V) (ts : List Stp), vs = [.ref p, v, .ref l] ∧ SysW S C CP H p W ∧ Dq H v (stgD (s.std W.ns)) ∧ GSd W s ∧ H l = some (.lst ys) ∧ DqAll H ys (ts.map stpD) ∧ RunOk W s ts ∧ ts.length ≤ 100 ∧
  ∀ (r : Addr) (zs : List V) (H' : Hp), H r = none → Ext H H' → H' r = some (.lst zs) → DqAll (del H' r) zs (endD W s ts) → Q (.ref r) H'
abbrev nRun : List Str := ["self", "standing", "steps", "way", "index", "step", "behind"]
theorem sc_run : FnScope nRun ["self", "standing", "steps"] (defScope (cS 17)) := ⟨rfl, rfl, rfl, by decide +kernel, rfl, by decide +kernel, by decide +kernel⟩
theorem ok_run {f : Addr} {fd : FuncData} (F : Fun K "run" "System.run" (cS 17) f fd) (T : BT mg) (SL : ST K mg S) (LL : LT K mg C) (MBh : Cm P w K mg base S 8 "_behind" ["self", "standing", "step"] (spBh S C CP)) :
    FnOk P w K mg base CX0 9 f fd ["self", "standing", "steps"] (spRun S C CP) := by
  refine F.ok sc_run (fun vs H Q E h => ?_) (fun cdv A outer s H vs Q E hr h => ?_)
  · obtain ⟨p, l, W, v, s, ys, ts, rfl, _⟩ := h
    rfl
  · obtain ⟨p, l, W, v, s, ys, ts, rfl, hS, hv, gs, hl, hy, ro, t100, q⟩ := h
    refine ⟨_, (pss_cons (ps_set (i := 3) sc_run.nd rfl (.inl rfl) (pe_lst (pa_cons (pv 1) pa_nil)))
      (pss_cons (ps_for PassesOwn.never rfl (pi_enum (by rfl) LL.n_enum (pa_cons (pv 2) pa_nil)) (pg_tup (by rfl) (pgs_cons (pg_name (i := 4) sc_run.nd rfl (.inl rfl)) (pgs_cons (pg_name (i := 5) sc_run.nd rfl (.inl rfl)) pgs_nil)))
        (pss_cons (ps_set (i := 6) sc_run.nd rfl (.inl rfl) (pe_cm MBh SL.cl (hr.mono (by decide)) (pv 0) (pa_cons (pe_ix ix_list (pv 3) (pe_un un_neg pe_int) (fun _ _ => rfl)) (pa_cons (pv 5) pa_nil))))
        (pss_cons (ps_if (pt_cmpR op_isN (pv 6) pe_non (nomark _)) (pss_one ps_never) pss_nil)
        (pss_one (ps_expr (pe_bm PySem.F.plainAttrs_list PySem.F.slot_list_append PySem.F.type_list_append mt_append (pv 3) (pa_cons (pv 6) pa_nil)))))))
      (pss_one (ps_ret (pv 3))))), ?_⟩
    obtain ⟨⟨dx, lx, sx, kd, st, sp, xs, at_, h1, _⟩, gw⟩ := id hS
    have ly : ys.length = ts.length := by rw [hy.len, List.length_map]
    refine ⟨_, rfl, by show 1 ≤ sizeLine; decide, fun F0 hF => ?_⟩
    have e1 := Ext.new (o := .lst [v]) hF
    have eB : Ext H (del (upd H F0 (.lst [v])) F0) := ext_to e1 hF
    have hF1 : upd H F0 (.lst [v]) F0 = some (.lst [v]) := upd_same
    generalize upd H F0 (.lst [v]) = H1 at e1 eB hF1 ⊢
    have nlF : l ≠ F0 := fun z => by rw [z, hF] at hl; cases hl
    refine ⟨_, rfl, l, _, rfl, SqL.of (e1 _ _ hl), ?_⟩
    refine for_it (walk_enum (xs := ys)) (fun i σ H' => ∃ v4 v5 v6 zs, σ = [some (.ref p), some v, some (.ref l), some (.ref F0), v4, v5, v6] ∧ Ext (del H1 F0) H' ∧ H' F0 = some (.lst zs) ∧ DqAll (del H' F0) zs (endD W s (ts.take i)))
      ⟨none, none, none, _, rfl, del_ext, hF1, .cons (hv.up eB) .nil⟩ (fun i σ H' _ ⟨_, _, _, _, _, e, _⟩ => SqL.of (e _ _ ((del_ne nlF).trans (e1 _ _ hl)))) ?_ ?_
    · rintro i x σ H2 H3 hi ⟨v4, v5, v6, zs, rfl, e2, h2F, h2z⟩ ⟨T', y1, y2, rfl, hT, rfl, g1, g2⟩
      have hi2 : i < ts.length := by omega
      obtain ⟨x', hx', dx'⟩ := DqAll_get hy i (stpD ts[i]) (by rw [List.getElem?_map, List.getElem?_eq_getElem hi2]; rfl)
      cases g1
      dsimp only at g2
      rw [hx'] at g2
      cases g2
      have eT := Ext.new (o := .tup [.int (i : Int), y2]) hT
      have e02 := eB.trans e2
      have e23 : Ext H (upd H2 T' (.tup [.int (i : Int), y2])) := e02.trans eT
      have h3F := eT _ _ h2F
      have lz : zs.length = i + 1 := by
        rw [h2z.len]
        unfold endD
        rw [List.length_map, ends_len, List.length_take]
        omega
      have lt : (ts.take i).length = i := by rw [List.length_take]; omega
      obtain ⟨xl, hxl, dxl⟩ := DqAll_get h2z i (stgD ((last W s (ts.take i)).std W.ns)) (by
        unfold endD
        have z := ends_last (W := W) s (ts.take i)
        rw [lt] at z
        rw [List.getElem?_map, z]
        rfl)
      have roi := run_take ro i
      have gsi := run_good gw gs roi
      have sti := run_at ro hi2
      refine ⟨T', _, rfl, SqT.of upd_same, rfl, _, _, rfl, _, _, rfl, rfl, ?_⟩
      generalize upd H2 T' (.tup [.int (i : Int), y2]) = H3 at eT e23 h3F ⊢
      refine ⟨_, rfl, p, dx, _, rfl, e23 _ _ h1, sf_no _ _ _ _ _ (by decide +kernel), _, rfl, _, rfl, F0, _, _, _, rfl, rfl, SqL.of h3F, atI_last lz hxl, _, rfl, ?_⟩
      refine ⟨p, W, xl, y2, last W s (ts.take i), ts[i], rfl, hS.up e23, (dxl.up del_ext).up eT, gsi, dx'.up e23, fun _ r H4 e4 hr4 => ?_, fun n => absurd sti n⟩
      obtain ⟨b, _, _, _, rfl, _⟩ := stg_inv hr4
      refine ⟨_, rfl, rfl, _, rfl, ?_⟩
      refine iteF ?_
      have h4F := e4 _ _ h3F
      refine ⟨_, rfl, .inl ⟨rfl, _, SqL.of h4F⟩, _, rfl, F0, zs, _, rfl, rfl, h4F, by rw [lz]; exact Nat.lt_of_le_of_lt (show _ ≤ 101 by omega) (by decide), ?_⟩
      refine ⟨_, _, _, _, rfl, Ext.mut (e2.trans (eT.trans e4)) del_same, upd_same, ?_⟩
      rw [del_upd, List.take_add_one, List.getElem?_eq_getElem hi2, Option.toList_some, endD_snoc, last_snoc]
      exact dq_app (DqAll.up (ext_del (eT.trans e4)) h2z) (.cons (Dq.offl h4F hr4 (nl_stg _)) .nil)
    · rintro σ H2 ⟨v4, v5, v6, zs, rfl, e2, h2F, h2z⟩
      rw [ly, List.take_length] at h2z
      exact ⟨_, rfl, q F0 zs H2 hF (eB.trans e2) h2F h2z⟩
end
end K41

set_option Elab.async false
set_option linter.all false
set_option maxRecDepth 100000
set_option maxHeartbeats 4000000
namespace Ol
open PySem PySem.Spec PyProof.Rows L2
/-! ### sorted of pairs of a text and an int -/
theorem cps_inj {a b : Str} (e : a.cps.toList = b.cps.toList) : a = b := by
  cases a with | mk a => cases b with | mk b =>
    have e2 : a = b := Array.toList_inj.mp e
    rw [e2]
theorem lt_irr (a : List Nat) : ltCps a a = false := by rw [ltCps_eq]; exact decide_eq_false (List.lt_irrefl a)
/-- by the text, then by the int -/
def lexT (p q : Str × Int) : Bool := if p.1 = q.1 then decide (p.2 < q.2) else ltCps p.1.cps.toList q.1.cps.toList
theorem lexT_eq {p q : Str × Int} (h : p.1 = q.1) : lexT p q = decide (p.2 < q.2) := if_pos h
theorem lexT_ne {p q : Str × Int} (h : ¬ p.1 = q.1) : lexT p q = ltCps p.1.cps.toList q.1.cps.toList := if_neg h
theorem lt_asym {a b : List Nat} (h : ltCps a b = true) : ltCps b a = false := by
  rw [ltCps_eq] at h ⊢
  exact decide_eq_false fun z => List.lt_irrefl a (List.lt_trans (of_decide_eq_true h) z)
theorem lexT_anti {p q : Str × Int} (h1 : lexT p q = false) (h2 : lexT q p = false) : p = q := by
  by_cases e : p.1 = q.1
  · rw [lexT_eq e] at h1
    rw [lexT_eq e.symm] at h2
    have := of_decide_eq_false h1
    have := of_decide_eq_false h2
    exact Prod.ext e (by omega)
  · rw [lexT_ne e] at h1
    rw [lexT_ne (Ne.symm e)] at h2
    exact absurd (cps_inj (lt_anti _ _ h1 h2)) e
theorem swo_lexT {α : Type} (k : α → Str × Int) : SrtO.Swo fun v u => lexT (k v) (k u) := by
  constructor
  · intro x y h
    by_cases e : (k x).1 = (k y).1
    · rw [lexT_eq e] at h
      rw [lexT_eq e.symm]
      have := of_decide_eq_true h
      exact decide_eq_false (by omega)
    · rw [lexT_ne e] at h
      rw [lexT_ne (Ne.symm e)]
      exact lt_asym h
  · intro x y z h1 h2
    by_cases e : (k y).1 = (k x).1
    · by_cases e2 : (k z).1 = (k y).1
      · rw [lexT_eq e] at h1
        rw [lexT_eq e2] at h2
        rw [lexT_eq (e2.trans e)]
        have := of_decide_eq_false h1
        have := of_decide_eq_false h2
        exact decide_eq_false (by omega)
      · rw [lexT_ne (e ▸ e2), ← e]
        rw [lexT_ne e2] at h2
        exact h2
    · by_cases e2 : (k z).1 = (k y).1
      · rw [lexT_ne (e2 ▸ e), e2]
        rw [lexT_ne e] at h1
        exact h1
      · rw [lexT_ne e] at h1
        rw [lexT_ne e2] at h2
        have h3 := lt_trans _ _ _ h1 h2
        by_cases e3 : (k z).1 = (k x).1
        · rw [e3] at h2
          exact absurd (cps_inj (lt_anti _ _ h1 h2)) e
        · rw [lexT_ne e3]
          exact h3
/-- at this value stands a tuple of this text and this int -/
def AtPair (h : Heap) (v : Value) (p : Str × Int) : Prop := ∃ (c : Addr) (ob : Obj) (tx ti : Tok) (ep : Nat), v = .ref c ∧ h.get? c = some ob ∧ ob.cls = .type "tuple" ∧ ob.data = .seq #[.str p.1 tx, .int p.2 ti] ep
theorem AtPair.stays {h h' : Heap} {v : Value} {p : Str × Int} (keep : ∀ c ob, h.get? c = some ob → ob.cls = .type "tuple" → h'.get? c = some ob) : AtPair h v p → AtPair h' v p
  | ⟨c, ob, tx, ti, ep, ev, got, kind, data⟩ => ⟨c, ob, tx, ti, ep, ev, keep c ob got kind, kind, data⟩
/-- the texts that the tuples begin with -/
theorem begin_with {h : Heap} {k : Value → Str × Int} : ∀ {vs : List Value}, (∀ v ∈ vs, AtPair h v (k v)) → ∃ fs : List Value, PySem.W.KatTups h vs fs ∧ fs.length = vs.length ∧ ∀ f ∈ fs, ∃ x t, f = Value.str x t
  | [], _ => ⟨[], .nil, rfl, by simp⟩
  | v :: vs, all => by
    obtain ⟨fs, kat, len, txt⟩ := begin_with (vs := vs) (k := k) fun u mu => all u (.tail _ mu)
    obtain ⟨c, ob, tx, ti, ep, ev, got, kind, data⟩ := all v (.head _)
    rw [ev]
    refine ⟨.str (k v).1 tx :: fs, .cons got kind data rfl kat, by simp [len], ?_⟩
    intro f mf
    cases mf with
    | head => exact ⟨_, _, rfl⟩
    | tail _ mf => exact txt f mf
section
variable {prog : Program} {w : World} {A : Around} {s : Shared}
theorem pair_less {vs : List Value} {k : Value → Str × Int} (all : ∀ v ∈ vs, AtPair s.heap v (k v)) : SrtO.Cmp prog w A s (tuples' true) (fun p => p.1 ∈ vs) (SrtO.lt2 fun v u => lexT (k v) (k u)) := by
  rintro ⟨v, v2⟩ ⟨u, u2⟩ mv mu
  show wpAny (model prog w) A (keyLt' (tuples' true) v u) (fun r s2 => s2 = s ∧ r = lexT (k v) (k u)) (fun _ _ => False) s
  obtain ⟨cv, ov, xv, iv, pv, ev, gv, _, dv⟩ := all v mv
  obtain ⟨cu, ou, xu, iu, pu, eu, gu, _, du⟩ := all u mu
  generalize k v = p at *
  generalize k u = q at *
  rw [ev, eu]
  apply PySem.W.kat_lt gv dv gu du
  show PySem.W.KatLex prog w A true (decide (2 < 2)) _ [(.str p.1 xv, .str q.1 xu), (.int p.2 iv, .int q.2 iu)] 0 s
  apply PySem.W.kat_cons
  apply SeqAt.EqAt.str_str
  apply PySem.W.kat_go
  · intro g
    have same : p.1 = q.1 := by simpa using g
    rw [lexT_eq same]
    apply PySem.W.kat_yes
    apply PySem.W.kat_cons
    apply SeqAt.EqAt.int_int
    apply PySem.W.kat_go
    · intro g2
      have same2 : p.2 = q.2 := by simpa using g2
      apply PySem.W.kat_yes
      apply PySem.W.kat_nil
      exact ⟨rfl, (decide_eq_false (by omega)).symm⟩
    · intro _
      apply PySem.W.kat_no
      apply PySem.W.kat_one
      apply PyProof.Rows.lt_int
      exact ⟨rfl, rfl⟩
  · intro g
    have other : ¬ p.1 = q.1 := by simpa using g
    rw [lexT_ne other, ltCps_eq]
    apply PySem.W.kat_no
    apply oneLt_str
    exact ⟨rfl, rfl⟩
theorem pairs_sort {a : Addr} {vs : List Value} {k : Value → Str × Int} (some_ : 0 < vs.length) (all : ∀ v ∈ vs, AtPair s.heap v (k v)) (lst : ∀ ob, s.heap.get? a = some ob → ob.cls ≠ .type "tuple") : SrtO.SortableO prog w A s a vs fun v u => lexT (k v) (k u) := by
  intro h2 keep
  have all2 : ∀ v ∈ vs, AtPair h2 v (k v) := fun v mv => (all v mv).stays fun c ob got kind => keep c ob (fun z => lst ob (z ▸ got) kind) got
  obtain ⟨fs, kat, len, txt⟩ := begin_with all2
  refine ⟨tuples' true, ?_, pair_less all2⟩
  intro Q E fin
  apply PySem.W.kat_kind (T := .type "str") kat (len ▸ some_)
  · intro f mf
    obtain ⟨x, t, rfl⟩ := txt f mf
    exact .now
  · rfl
  · rw [show (Value.type "str" != Value.type "tuple") = true by decide +kernel]
    exact fin
end
/-- sorted(xs), xs a list of pairs of a text and an int: a new list of the same, sorted -/
def rSortT (K : PySem.W.Frag) : List V → Hp → VK → Prop := fun vs H Q => ∃ (a : Addr) (xs : List V) (k : V → Str × Int), vs = [V.ref a] ∧ SqL K H a xs ∧ (∀ x ∈ xs, ∃ t, x = V.ref t ∧ H t = some (.tup [.str (k x).1, .int (k x).2])) ∧
  ∀ ys p, ys.Perm xs → ys.Pairwise (fun x y => lexT (k y) (k x) = false) → H p = none → Q (.ref p) (upd H p (.lst ys))
theorem call_sortT {X : Cx} : CallR X (.builtin "sorted") (rSortT X.K) := by
  rintro pins s σ H vs us Q I r ⟨a, xs, k, rfl, sq, prs, fin⟩
  obtain ⟨u, rfl, ru⟩ := vals1 r
  cases (show u = Value.ref a from ru)
  obtain ⟨its, rel, place, size⟩ := I.list sq
  obtain ⟨back, refs⟩ := refs_back rel fun x mx => (prs x mx).imp fun _ z => z.1
  have raw : ∀ v ∈ its, AtPair s.heap v (k (backV v)) := by
    intro v mv
    obtain ⟨t, rfl⟩ := refs v mv
    obtain ⟨t2, et, ht⟩ := prs (V.ref t) (back ▸ List.mem_map.mpr ⟨_, mv, rfl⟩)
    cases et
    obtain ⟨_, parts, relp, ob, got, kind, ep, data⟩ := I.hok _ _ ht
    obtain ⟨w1, w2, rfl, ⟨y1, rfl⟩, ⟨y2, rfl⟩⟩ := vals2 relp
    exact ⟨t, ob, y1, y2, ep, rfl, got, kind, data⟩
  have len : its.length ≤ sizeLine := rel.length ▸ size
  apply SrtO.sorted_ord (ltv := fun v u => lexT (k (backV v)) (k (backV u))) (swo_lexT (fun v => k (backV v))) place.isList len
  · intro two h2 b gb keep
    apply pairs_sort (k := fun v => k (backV v)) (s := { s with heap := h2 }) (by omega)
    · intro v mv
      exact (raw v mv).stays fun c ob got _ => (keep c ob got).2
    · intro ob got kind
      have eo : some ob = some (seqObj "list" its.toArray 0) := got.symm.trans gb
      cases eo
      exact absurd (Value.type.inj kind) (by decide)
  · intro out so st
    have refs2 : ∀ u ∈ out, ∃ c, u = Value.ref c := fun u mu => refs u (st.perm.mem_iff.mp mu)
    have pm : (out.map backV).Perm xs := back ▸ st.perm.map _
    obtain ⟨ep, made⟩ := sortedAll_at s.heap its out.toArray
    have fits : (out.map backV).length ≤ sizeLine := by rw [pm.length_eq]; exact size
    have I2 := I.laid (a := s.heap.objs.size + 1) (o := .lst (out.map backV)) (t' := s.toks) (fun _ _ => sortedAll_old) (Nat.le_succ _) ⟨fits, out, ep, vals_back refs2, made⟩
    exact ⟨.ref _, _, I2, rfl, fin _ _ pm (List.pairwise_map.mpr so) (I.hok.fresh (Nat.le_succ _))⟩
end Ol

set_option Elab.async false
set_option linter.all false
set_option maxRecDepth 100000
set_option maxHeartbeats 4000000
namespace K41
open PySem PySem.Spec PyProof.Rows L2 Ol RZ
open TL (tl)
/-! ### the places that are there, sorted -/
def seatP (x : Seat) : Str × Int := (x.1, (x.2 : Int))
theorem seatP_inj {a b : Seat} (h : seatP a = seatP b) : a = b := by
  obtain ⟨a1, a2⟩ := a
  obtain ⟨b1, b2⟩ := b
  unfold seatP at h
  injection h with h1 h2
  dsimp only at h1 h2
  have : a2 = b2 := by omega
  rw [h1, this]
def SortedP (l : List (Str × Int)) : Prop := l.Pairwise fun x y => lexT y x = false
theorem sortedP_one {l m : List (Str × Int)} (h1 : SortedP l) (h2 : SortedP m) (hp : l.Perm m) : l = m :=
  List.Perm.eq_of_pairwise (fun a b _ _ q1 q2 => lexT_anti q2 q1) h1 h2 hp
theorem lt_empty (a : List Nat) : ltCps a [] = false := by
  rw [ltCps_eq]
  exact decide_eq_false (by simp)
theorem thK_in {W : Wd} {s : Sd} {k : Knd} {x : Seat} (h : x ∈ W.thK s k) : x.1 = k.1 := by
  unfold Wd.thK at h
  obtain ⟨i, _, rfl⟩ := List.mem_map.mp h
  rfl
theorem theres_sorted {W : Wd} (g : GW W) (s : Sd) : SortedP ((W.theres s).map seatP) := by
  unfold SortedP
  rw [List.pairwise_map]
  have e : W.theres s = ((("" : Str), s.pl) : Seat) :: W.ks.flatMap (W.thK s) := rfl
  rw [e, List.pairwise_cons]
  constructor
  · intro x hx
    obtain ⟨k, hk, hxk⟩ := List.mem_flatMap.mp hx
    have e1 := thK_in hxk
    have ne : ¬ (seatP x).1 = (seatP (("" : Str), s.pl)).1 := fun z => g.ne hk (e1 ▸ z)
    rw [lexT_ne ne]
    exact lt_empty _
  · rw [List.pairwise_flatMap]
    constructor
    · intro k hk
      unfold Wd.thK
      rw [List.pairwise_map]
      refine List.Pairwise.sublist List.filter_sublist (List.pairwise_lt_range.imp ?_)
      intro a b hab
      rw [lexT_eq (p := seatP (k.1, b)) (q := seatP (k.1, a)) rfl]
      exact decide_eq_false (by show ¬ ((b : Int) < (a : Int)); omega)
    · have h1 : W.ks.Pairwise fun a b => ltCps b.1.cps.toList a.1.cps.toList = false ∧ a.1 ≠ b.1 := by
        have z1 := List.pairwise_map.mp (sorted_pw _ g.gs.so)
        have z2 := List.pairwise_map.mp g.gs.nd
        exact z1.and z2
      refine h1.imp ?_
      rintro a b ⟨h1, h2⟩ x hx y hy
      have ex := thK_in hx
      have ey := thK_in hy
      have ne : ¬ (seatP y).1 = (seatP x).1 := fun z => h2 (by rw [← ex, ← ey]; exact z.symm)
      rw [lexT_ne ne]
      show ltCps y.1.cps.toList x.1.cps.toList = false
      rw [ex, ey]
      exact h1
theorem flat_perm {α β : Type} (f : α → β) (g : α → List β) : ∀ l : List α, (l.flatMap fun a => f a :: g a).Perm (l.map f ++ l.flatMap g)
  | [] => .nil
  | a :: l => by
    rw [List.flatMap_cons, List.map_cons, List.flatMap_cons]
    refine List.Perm.cons _ ?_
    refine ((flat_perm f g l).append_left (g a)).trans ?_
    show (g a ++ (l.map f ++ l.flatMap g)).Perm (l.map f ++ (g a ++ l.flatMap g))
    rw [← List.append_assoc, ← List.append_assoc]
    exact List.perm_append_comm.append_right _
/-- the seats that hold somebody -/
def heldS (W : Wd) (s : Sd) : List Seat := (seatsOf W.ks).filter fun x => decide (0 < W.cnt s.ct x)
theorem thK_eq {W : Wd} {s : Sd} {k : Knd} (h : k.2 ≠ []) : W.thK s k = (k.1, 0) :: (((List.range (k.2.length - 1)).map fun i => ((k.1, i + 1) : Seat)).filter fun x => decide (0 < W.cnt s.ct x)) := by
  unfold Wd.thK
  obtain ⟨n, hn⟩ : ∃ n, k.2.length = n + 1 := ⟨k.2.length - 1, by have := List.length_pos_iff.mpr h; omega⟩
  rw [hn, List.range_succ_eq_map, List.filter_cons_of_pos (by unfold Wd.thereB; exact decide_eq_true (.inl rfl)), List.map_cons, List.filter_map, List.map_map, List.filter_map]
  congr 1
  rw [Nat.add_sub_cancel]
  have e : ((W.thereB s.ct k.1) ∘ Nat.succ) = ((fun x : Seat => decide (0 < W.cnt s.ct x)) ∘ fun i => ((k.1, i + 1) : Seat)) := by
    funext i
    show W.thereB s.ct k.1 (i + 1) = decide (0 < W.cnt s.ct (k.1, i + 1))
    unfold Wd.thereB
    exact decide_eq_decide.mpr ⟨fun h => h.resolve_left (by omega), fun h => .inr h⟩
  rw [e]
  rfl
theorem theres_perm {W : Wd} (g : GW W) (s : Sd) : (((("" : Str), s.pl) : Seat) :: (W.ks.map fun k => ((k.1, 0) : Seat)) ++ heldS W s).Perm (W.theres s) := by
  have e : W.theres s = ((("" : Str), s.pl) : Seat) :: W.ks.flatMap (W.thK s) := rfl
  rw [e, List.cons_append]
  refine List.Perm.cons _ (List.Perm.symm ?_)
  have e2 : W.ks.flatMap (W.thK s) = W.ks.flatMap fun k => (k.1, 0) :: (((List.range (k.2.length - 1)).map fun i => ((k.1, i + 1) : Seat)).filter fun x => decide (0 < W.cnt s.ct x)) := by
    have h : ∀ l : List Knd, (∀ k ∈ l, k ∈ W.ks) → l.flatMap (W.thK s) = l.flatMap fun k => (k.1, 0) :: (((List.range (k.2.length - 1)).map fun i => ((k.1, i + 1) : Seat)).filter fun x => decide (0 < W.cnt s.ct x)) := by
      intro l
      induction l with
      | nil => intro _; rfl
      | cons k l ih =>
        intro hl
        rw [List.flatMap_cons, List.flatMap_cons, ih fun a ha => hl a (List.mem_cons_of_mem _ ha), thK_eq (g.pk k (hl k List.mem_cons_self)).ne]
    exact h W.ks fun _ h => h
  rw [e2]
  refine (flat_perm _ _ _).trans ?_
  unfold heldS seatsOf
  rw [List.filter_flatMap]
/-- the law's choice of the seats that hold somebody -/
theorem held_eq {W : Wd} (g : GW W) {s : Sd} (gs : GSd W s) : ((List.range (seatsOf W.ks).length).filter fun i => decide (0 < s.ct.getD i 0)).map (fun i => (seatsOf W.ks).getD i ("", 0)) = heldS W s := by
  unfold heldS
  have e := range_getD (fun a : Seat => a) ("", 0) (seatsOf W.ks)
  rw [List.map_id'] at e
  conv => rhs; rw [← e]
  rw [List.filter_map]
  congr 1
  refine List.filter_congr fun i hi => ?_
  have hi' := List.mem_range.mp hi
  show decide (0 < s.ct.getD i 0) = decide (0 < W.cnt s.ct ((seatsOf W.ks).getD i ("", 0)))
  unfold Wd.cnt Wd.spot
  have e1 : (seatsOf W.ks).getD i ("", 0) = (seatsOf W.ks)[i] := by rw [List.getD_eq_getElem?_getD, List.getElem?_eq_getElem hi']; rfl
  rw [e1, List.Nodup.idxOf_getElem (seats_nodup g.gs.nd) i hi']
/-! ### the model and its system -/
def MdlW (H : Hp) (m : Addr) (W : Wd) : Prop := ∃ g ps kx, MdlAt H m ps W.sv kx ∧ GMdl g ps W.sv kx ∧ g ≤ 3 ∧ W.ks.Perm kx ∧ sortedS (W.ks.map (·.1)) = true ∧ W.ns.Perm (ps.map (·.1)) ∧ sortedS W.ns = true ∧ W.bd = bdOf ps
theorem MdlW.up {H H' : Hp} {m : Addr} {W : Wd} (e : Ext H H') : MdlW H m W → MdlW H' m W
  | ⟨g, ps, kx, h, r⟩ => ⟨g, ps, kx, h.up e, r⟩
theorem MdlW.gw {H : Hp} {m : Addr} {W : Wd} (h : MdlW H m W) : GW W := by
  obtain ⟨g, ps, kx, hM, hG, g3, hkp, hks, hperm, hso, hbd⟩ := h
  have sub : ∀ x, x ∈ ps.map (·.1) → x ∈ W.ns := fun x hx => hperm.mem_iff.mpr hx
  have m : ∀ k ∈ W.ks, k ∈ kx := fun k hk => hkp.mem_iff.mp hk
  refine ⟨⟨by rw [hkp.length_eq]; exact Nat.le_trans hG.k2 (by decide), (hkp.map _).nodup_iff.mpr hG.kd, hks, fun k hk => hG.kn k (m k hk), fun k hk x hx => sub _ (sub_of (hG.kg k (m k hk)) x hx), fun x hx => sub _ (sub_of hG.sg x hx)⟩, pls_of (n := 0) hG.s1 hG.s5 hG.sg, fun k hk => pls_of (n := 0) (hG.k1 _ (m k hk)) (hG.k5 _ (m k hk)) (hG.kg _ (m k hk)), hperm.nodup_iff.mpr hG.nd, fun z => ?_⟩
  have := hperm.length_eq
  rw [z, List.length_map] at this
  have := hG.p1
  simp at *
  omega
def Wd.first (W : Wd) : Sd := ⟨0, fun _ => (0, false), List.replicate (seatsOf W.ks).length 0⟩
theorem first_good {H : Hp} {m : Addr} {W : Wd} (h : MdlW H m W) : GSd W W.first := by
  obtain ⟨g, ps, kx, hM, hG, g3, hkp, hks, hperm, hso, hbd⟩ := h
  refine ⟨hG.s1, fun x hx => ?_, by show (List.replicate _ 0).length = _; rw [List.length_replicate]⟩
  have := (hG.bd3 g3 (hperm.mem_iff.mp hx)).1
  rw [hbd]
  show ((0 : Nat) : Int) ≤ _
  omega
section
variable {P : Program} {w : World} {K : PySem.W.Frag} {mg : Str → Option Value} {base : Heap} {C CP S : Addr}
/-! ### _law_first -/
def spFi : Sp := fun vs H Q _ => ∃ (m : Addr) (W : Wd), vs = [.ref m] ∧ MdlW H m W ∧ ∀ (v : V) (H' : Hp), Ext H H' → Dq H' v (stgD (W.first.std W.ns)) → Q v H'
abbrev s__law_first : Stmt := (topS 62)
theorem sc__law_first : FnScope ["_law_model_here", "_law_content", "_law_name", "_law_seat"] ["_law_model_here"] (defScope s__law_first) := ⟨rfl, rfl, rfl, by decide +kernel, rfl, by decide +kernel, by decide +kernel⟩
theorem ok_fi {f : Addr} {fd : FuncData} (F : Fun K "_law_first" "_law_first" s__law_first f fd) (T : BT mg) (CSe : Ca P w K mg base 1 "_law_seats" ["_law_model_here"] spSeats) :
    FnOk P w K mg base CX0 2 f fd ["_law_model_here"] spFi := by
  refine F.ok sc__law_first (fun vs H Q E h => ?_) (fun cdv A outer s H vs Q E hr h => ?_)
  · obtain ⟨m, W, rfl, _⟩ := h
    rfl
  · obtain ⟨m, W, rfl, hW, q⟩ := h
    refine ⟨_, (pss_cons (ps_set (i := 1) sc__law_first.nd rfl (.inl rfl) (pe_callTy call_tuple_of (by rfl) T.n_tuple (by decide +kernel) (pa_cons (pe_lock (pe_lc (own := [("_law_name", 2)]) (g := gName 2) (tt := tYes) rfl sc__law_first.nd (pi_keys (pe_dget (hu_of hr) (pv 0) pe_str (fun _ _ => rfl))) (blkOk_by (N := ["_law_model_here", "_law_content", "_law_name", "_law_seat"]) (sc := defScope s__law_first) (by decide +kernel)) (fun _ _ _ _ _ => (pg_name (i := 2) sc__law_first.nd rfl (.inl rfl))) (fun _ _ _ _ _ => pts_nil) (fun _ _ _ _ _ => (pe_tup (pa_cons pe_int (pa_cons pe_bl pa_nil)))))) pa_nil)))
    (pss_one (ps_ret (pe_tup (pa_cons pe_int (pa_cons (pv 1) (pa_cons (pe_callTy call_tuple_of (by rfl) T.n_tuple (by decide +kernel) (pa_cons (pe_lc (own := [("_law_seat", 3)]) (g := gName 3) (tt := tYes) rfl sc__law_first.nd (pi_list (pe_ca CSe (hr.mono (by decide)) (by rfl) (pa_cons (pv 0) pa_nil))) (blkOk_by (N := ["_law_model_here", "_law_content", "_law_name", "_law_seat"]) (sc := defScope s__law_first) (by decide +kernel)) (fun _ _ _ _ _ => (pg_name (i := 3) sc__law_first.nd rfl (.inl rfl))) (fun _ _ _ _ _ => pts_nil) (fun _ _ _ _ _ => pe_int)) pa_nil)) pa_nil))))))), ?_⟩
    have gw := hW.gw
    obtain ⟨g, ps, kx, hM, hG, g3, hkp, hks, hperm, hso, hbd⟩ := id hW
    obtain ⟨db, sl, dk, at_, hm, hdb, hsl, hdk, hkl, nmk, nbk⟩ := id hM
    refine ⟨db, _, hdb, trivial, fun od => ?_⟩
    have nmb : m ≠ db := fun z => by
      rw [z, hdb] at hm
      injection hm with hm
      injection hm with hm
      have := hG.p1
      cases ps with
      | nil => simp at this
      | cons a ps => 
        unfold kvI mdK at hm
        simp at hm
    have h1k := upd_same (H := H) (a := db) (o := HO.frz od (.dK (kvI ps)))
    have du := del_up (H := H) (k := db) (o := .frz od (.dK (kvI ps)))
    have h1m : (upd H db (.frz od (.dK (kvI ps)))) m = some (.dK (mdK db sl dk)) := by rw [upd_ne nmb]; exact hm
    generalize upd H db (.frz od (.dK (kvI ps))) = H1 at h1k du h1m ⊢
    refine ⟨_, rfl, m, _, rfl, get_b h1m, db, od, rfl, .inl ⟨_, h1k, fun D hD => ?_⟩⟩
    have lp : (kvI ps).length = ps.length := by unfold kvI; rw [List.length_map]
    have p3 := hG.p3
    have nDb : D ≠ db := fun z => by rw [z, h1k] at hD; cases hD
    have hD0 : H D = none := by
      have z := du.free hD
      rw [del_ne nDb] at z
      exact z
    refine lc1_acc (walk_keys (kvs := kvI ps)) (fun i ys Hd => i ≤ 3 ∧ DqAll (del Hd db) ys (List.replicate i (stD 0 false))) (fun _ _ _ _ e ⟨a1, h⟩ => ⟨a1, DqAll.up (ext_del e) h⟩) ⟨by decide, .nil⟩ hD
      (fun i ys _ ⟨a1, h⟩ => by rw [h.len, List.length_replicate]; exact Nat.lt_of_le_of_lt a1 (by decide)) (fun H' e => e _ _ h1k) ?_ ?_
    · rintro i x Hi H' ys hi e hy ⟨rfl, ky, vv, hkv, rfl⟩ ⟨a1, hz⟩ QY QN kY kN
      rw [lp] at hi
      refine ⟨rfl, ?_⟩
      refine tyes ?_
      refine ⟨by show 2 ≤ sizeLine; decide, fun t ht => ?_⟩
      have et := Ext.new (o := .tup [.int 0, .bl false]) ht
      have n1 : t ≠ db := fun z => by rw [z, e _ _ h1k] at ht; cases ht
      have n2 : t ≠ D := fun z => by rw [z, hy] at ht; cases ht
      refine kY _ _ et ⟨by omega, ?_⟩
      rw [List.replicate_succ']
      exact dq_app (DqAll.up (ext_del (ext_del et)) hz) (.cons (.tup (by rw [del_ne n1, del_ne n2]; exact upd_same) (.cons (.int _) (.cons (.bl _) .nil))) .nil)
    rintro H2 ys e2 h2D ⟨_, hz⟩
    rw [lp] at hz
    refine ⟨e2 _ _ h1k, D, _, rfl, .inl ⟨SqL.of ((upd_ne nDb).trans h2D), fun t ht => ?_⟩⟩
    have eH : Ext H (upd H2 db (.dK (kvI ps))) := fun b o z => by
      by_cases c : b = db
      · rw [c] at z ⊢
        rw [upd_same, ← hdb, z]
      · rw [upd_ne c]
        exact e2 _ _ (du _ _ (by rw [del_ne c]; exact z))
    have z3 : DqAll (upd H2 db (.dK (kvI ps))) ys (List.replicate ps.length (stD 0 false)) := DqAll.up del_up hz
    generalize upd H2 db (.dK (kvI ps)) = H3 at eH z3 ht ⊢
    have et := Ext.new (o := .tup ys) ht
    have t4 := upd_same (H := H3) (a := t) (o := HO.tup ys)
    have z4 := DqAll.up et z3
    have e4 := eH.trans et
    generalize upd H3 t (.tup ys) = H4 at et t4 z4 e4 ⊢
    refine ⟨_, rfl, _, rfl, m, g, ps, W.sv, kx, W.ks, rfl, hM.up e4, hG, hkp, hks, fun l ws H5 hl e5 h5 hw => ?_⟩
    have lw : ws.length = (seatsOf W.ks).length := by rw [hw.len, List.length_map]
    have l15 := seats60 gw
    refine ⟨l, rfl, ⟨_, SqL.of h5⟩, fun D2 hD2 => ?_⟩
    refine lc1_acc (walk_list (xs := ws)) (fun i zs _ => i ≤ 15 ∧ zs = cV (List.replicate i 0)) (fun _ _ _ _ _ h => h) ⟨by decide, rfl⟩ hD2
      (fun i zs _ ⟨a1, h⟩ => by rw [h, List.length_map, List.length_replicate]; exact Nat.lt_of_le_of_lt a1 (by decide)) (fun H' e => SqL.of (e _ _ h5)) ?_ ?_
    · rintro i x Hi H' zs hi e hy ⟨rfl, hxi⟩ ⟨a1, hz⟩ QY QN kY kN
      refine ⟨rfl, ?_⟩
      refine tyes ?_
      refine kY _ _ (Ext.refl _) ⟨by omega, ?_⟩
      rw [hz, List.replicate_succ']
      exact (List.map_append (l₁ := List.replicate i 0) (l₂ := [0])).symm
    rintro H6 zs e6 h6D ⟨_, hz2⟩
    rw [lw] at hz2
    rw [hz2] at h6D
    refine ⟨D2, _, rfl, .inl ⟨SqL.of h6D, fun t2 ht2 => ?_⟩⟩
    have et2 := Ext.new (o := .tup (cV (List.replicate (seatsOf W.ks).length 0))) ht2
    refine ⟨by show 3 ≤ sizeLine; decide, fun t3 ht3 => ?_⟩
    have et3 := Ext.new (o := .tup [.int 0, .ref t, .ref t2]) ht3
    have e46 := (e5.trans e6).trans (et2.trans et3)
    refine q _ _ (e4.trans e46) (stg_mk (a := t3) (b := t) (c := t2) (xs := ys) upd_same (e46 _ _ t4) ?_ (et3 _ _ upd_same))
    have en : (W.first.std W.ns).cs = List.replicate ps.length (0, false) := by
      show W.ns.map (fun _ => ((0 : Nat), false)) = _
      rw [List.map_const', hperm.length_eq, List.length_map]
    unfold ctL
    rw [en, List.map_replicate]
    exact DqAll.up e46 z4
/-! ### _law_rows -/
def spRo : Sp := fun vs H Q _ => ∃ (m : Addr) (W : Wd) (u : Str), vs = [.ref m, .str u] ∧ MdlW H m W ∧ (u = "" ∨ u ∈ W.ks.map (·.1)) ∧ ∀ (l : Addr) (xs : List V), H l = some (.lst xs) → DqAll H xs ((W.rows u).map placeD) → Q (.ref l) H
abbrev s__law_rows : Stmt := (topS 63)
theorem sc__law_rows : FnScope ["_law_model_here", "_law_who"] ["_law_model_here", "_law_who"] (defScope s__law_rows) := ⟨rfl, rfl, rfl, by decide +kernel, rfl, by decide +kernel, by decide +kernel⟩
theorem ok_ro {f : Addr} {fd : FuncData} (F : Fun K "_law_rows" "_law_rows" s__law_rows f fd) :
    FnOk P w K mg base CX0 1 f fd ["_law_model_here", "_law_who"] spRo := by
  refine F.ok sc__law_rows (fun vs H Q E h => ?_) (fun cdv A outer s H vs Q E hr h => ?_)
  · obtain ⟨m, W, u, rfl, _⟩ := h
    rfl
  · obtain ⟨m, W, u, rfl, hW, hu, q⟩ := h
    refine ⟨_, (pss_one (ps_ret (pe_ifExp (pt_cmpR op_eq (pv 1) pe_str (nomark _)) (pe_dget (hu_of hr) (pv 0) pe_str (fun _ _ => rfl)) (pe_dget (hu_of hr) (pe_dget (hu_of hr) (pv 0) pe_str (fun _ _ => rfl)) (pv 1) (fun _ _ => rfl))))), ?_⟩
    have gw := hW.gw
    obtain ⟨g, ps, kx, hM, hG, g3, hkp, hks, hperm, hso, hbd⟩ := id hW
    obtain ⟨db, sl, dk, at_, hm, hdb, ⟨xs, l1, l2⟩, hdk, hkl, nmk, nbk⟩ := id hM
    refine ⟨_, rfl, rfl, _, rfl, ?_⟩
    refine ite2 (fun e => ?_) (fun e => ?_)
    · have e' := dec_word.mp e
      subst e'
      refine ⟨_, rfl, m, _, rfl, get_s hm, q sl xs l1 ?_⟩
      rw [gw.rows0]
      exact l2
    · have hm2 : u ∈ W.ks.map (·.1) := hu.resolve_left fun z => e (dec_word.mpr z)
      obtain ⟨k, hk, rfl⟩ := List.mem_map.mp hm2
      have mk := hkp.mem_iff.mp hk
      obtain ⟨ys, y1, y2⟩ := hkl k mk
      refine ⟨_, rfl, m, _, rfl, get_k hm, _, rfl, dk, _, rfl, get_at (.inl hdk) (List.mem_map_of_mem mk), q _ ys y1 ?_⟩
      rw [gw.rowsK hk]
      exact y2
end
end K41

set_option Elab.async false
set_option linter.all false
set_option maxRecDepth 100000
set_option maxHeartbeats 4000000
namespace K41
open PySem PySem.Spec PyProof.Rows L2 Ol RZ
open TL (tl)
/-- the parts of an arm -/
def armV : Arm → List V
  | (some p, g) => [.str p.1, .str p.2, .int (g : Int)]
  | (none, g) => [.str "else", .int (g : Int)]
theorem arm_tup {H : Hp} {v : V} {a : Arm} (h : Dq H v (armD a)) : ∃ r, v = .ref r ∧ H r = some (.tup (armV a)) := by
  obtain ⟨o, g⟩ := a
  cases o with
  | none =>
    obtain ⟨t, xs, ds, e, ed, h1, h2⟩ := dq_tup (d := .tuple [.str "else", .int (g : Int)]) h rfl
    cases ed
    refine ⟨t, e, ?_⟩
    cases h2 with
    | cons a1 t1 => cases t1 with
      | cons a2 t2 =>
        cases t2
        cases a1
        cases a2
        exact h1
  | some p =>
    obtain ⟨t, xs, ds, e, ed, h1, h2⟩ := dq_tup (d := .tuple [.str p.1, .str p.2, .int (g : Int)]) h rfl
    cases ed
    refine ⟨t, e, ?_⟩
    cases h2 with
    | cons a1 t1 => cases t1 with
      | cons a2 t2 => cases t2 with
        | cons a3 t3 =>
          cases t3
          cases a1
          cases a2
          cases a3
          exact h1
theorem armV0 {a : Arm} : atI (armV a) 0 = some (.str (match a.1 with | some p => p.1 | none => ("else" : Str))) := by
  obtain ⟨o, g⟩ := a
  cases o <;> rfl
theorem idxs_len (q : Arm → Bool) (as : List Arm) : (idxs q as).length = (as.filter q).length := by
  have e := range_getD (fun a : Arm => a) (none, 0) as
  rw [List.map_id'] at e
  conv => rhs; rw [← e]
  rw [List.filter_map, List.length_map]
  rfl
theorem idx_small {q : Arm → Bool} {as : List Arm} {n : Nat} (h : as.length ≤ n) : ∀ i ∈ idxs q as, i < n := fun i hi => by
  have := List.mem_range.mp (List.mem_filter.mp hi).1
  omega
theorem dq_ints (H : Hp) : ∀ l : List Nat, DqAll H (l.map fun i : Nat => V.int (i : Int)) (l.map fun i : Nat => PyData.int (i : Int))
  | [] => .nil
  | _ :: l => .cons (.int _) (dq_ints H l)
theorem ints_shaped {l : List Nat} (h : ∀ i ∈ l, i < 7) : SeqAt.shaped (.list (l.map fun i : Nat => PyData.int (i : Int))) = true := by
  have hg : ∀ d ∈ l.map (fun i : Nat => PyData.int (i : Int)), Gd 0 d := fun d hd => by
    obtain ⟨i, hi, rfl⟩ := List.mem_map.mp hd
    exact gd_nat5 (by have := h i hi; omega)
  refine lay_shaped ?_ ?_
  · rw [PyData.canLay0]
    refine lay_all fun d hd => ?_
    obtain ⟨i, hi, rfl⟩ := List.mem_map.mp hd
    simp [PyData.canLay0]
  · have := (all_sh hg).2.1
    simp only [PyData.depth]
    omega
section
variable {P : Program} {w : World} {K : PySem.W.Frag} {mg : Str → Option Value} {base : Heap} {C CP : Addr}
/-! ### _law_choices -/
def spLCh : Sp := fun vs H Q _ => ∃ (db : Addr) (vr vc : V) (prs : List (Str × Int)) (ns : List Str) (st : Str → Nat × Bool) (n : Nat) (p : Place), vs = [.ref db, vr, vc] ∧ Sys H ∧ H db = some (.dK (kvI prs)) ∧ Dq H vr (placeD p) ∧ Dq H vc (ctD (ns.map st)) ∧ prs.length ≤ 3 ∧
  ns.Perm (prs.map (·.1)) ∧ ns.Nodup ∧ sortedS ns = true ∧ GL n ns p ∧
  ∀ (l : Addr) (H' : Hp), H l = none → Ext H H' → H' l = some (.lst ((allowI st (bdOf prs) p).map fun i : Nat => V.int (i : Int))) → Q (.ref l) H'
abbrev s__law_choices : Stmt := (topS 60)
abbrev nLCh : List Str := ["_law_bounds_here", "_law_row", "_law_content", "_law_arms", "_law_found", "_law_k"]
theorem sc__law_choices : FnScope nLCh ["_law_bounds_here", "_law_row", "_law_content"] (defScope s__law_choices) := ⟨rfl, rfl, rfl, by decide +kernel, rfl, by decide +kernel, by decide +kernel⟩
theorem ok_lch {f : Addr} {fd : FuncData} (F : Fun K "_law_choices" "_law_choices" s__law_choices f fd) (T : BT mg)
    (COp : Ca P w K mg base 1 "_law_opens" ["_law_bounds_here", "_law_content", "_law_arm_here"] spOpens) :
    FnOk P w K mg base CX0 2 f fd ["_law_bounds_here", "_law_row", "_law_content"] spLCh := by
  refine F.ok sc__law_choices (fun vs H Q E h => ?_) (fun cdv A outer s H vs Q E hr h => ?_)
  · obtain ⟨db, vr, vc, prs, ns, st, n, p, rfl, _⟩ := h
    rfl
  · obtain ⟨db, vr, vc, prs, ns, st, n, p, rfl, hS, hdb, hvr, hvc, l3, hperm, hnd, hso, gl, q⟩ := h
    refine ⟨_, (pss_cons (ps_set (i := 3) sc__law_choices.nd rfl (.inr rfl) (pe_ix ix_tup (pv 1) pe_int (fun _ _ => rfl)))
    (pss_cons (ps_setLc (i := 4) (own := [("_law_k", 5)]) (g := gName 5) (tt := tAnd (tTest (tOp rNe (tOp (rIxT K) (tOp (rIxT K) (tVar 3) (tVar 5)) (tC (.int 0))) (tC (.str "else")))) (tB (tCall spOpens [] E0 (tCons (tVar 0) (tCons (tVar 2) (tCons (tOp (rIxT K) (tVar 3) (tVar 5)) tNil)))))) rfl sc__law_choices.nd rfl rfl (sw_true rfl rfl rfl (by decide +kernel)) (pi_range1 (by rfl) T.n_range (pa_cons (pe_callB call_len_seq (by rfl) T.n_len (by decide +kernel) (pa_cons (pv 3) pa_nil)) pa_nil)) (blkOk_by (N := nLCh) (sc := defScope s__law_choices) (by decide +kernel)) (fun _ _ _ _ _ => (pg_name (i := 5) sc__law_choices.nd rfl (.inl rfl))) (fun _ _ _ _ _ => (pts_one (PW.pt (pw_and (pt_cmpR op_ne (pe_ix ix_tup (pe_ix ix_tup (pv 3) (pv 5) (fun _ _ => rfl)) pe_int (fun _ _ => rfl)) pe_str (nomark _)) (pw_and1 (pt_val (pe_ca COp (hr.mono (by decide)) (by rfl) (pa_cons (pv 0) (pa_cons (pv 2) (pa_cons (pe_ix ix_tup (pv 3) (pv 5) (fun _ _ => rfl)) pa_nil)))))))))) (fun _ _ _ _ _ => (pv 5)))
    (pss_cons (ps_if (pt_cmpR (op_eqQ hr) (pv 4) (pe_lst pa_nil) (nomark _))
      (pss_one (ps_ret (pe_lc (own := [("_law_k", 5)]) (g := gName 5) (tt := tTest (tOp rEq (tOp (rIxT K) (tOp (rIxT K) (tVar 3) (tVar 5)) (tC (.int 0))) (tC (.str "else")))) rfl sc__law_choices.nd (pi_range1 (by rfl) T.n_range (pa_cons (pe_callB call_len_seq (by rfl) T.n_len (by decide +kernel) (pa_cons (pv 3) pa_nil)) pa_nil)) (blkOk_by (N := nLCh) (sc := defScope s__law_choices) (by decide +kernel)) (fun _ _ _ _ _ => (pg_name (i := 5) sc__law_choices.nd rfl (.inl rfl))) (fun _ _ _ _ _ => (pts_one (pt_cmpR op_eq (pe_ix ix_tup (pe_ix ix_tup (pv 3) (pv 5) (fun _ _ => rfl)) pe_int (fun _ _ => rfl)) pe_str (nomark _)))) (fun _ _ _ _ _ => (pv 5)))))
      pss_nil)
    (pss_one (ps_ret (pe_ifExp (pt_cmpR op_eq (pe_ix ix_tup (pv 1) pe_int (fun _ _ => rfl)) pe_str (nomark _)) (pe_slice sl_list (pv 4) po_none (po_some pe_int)) (pv 4))))))), ?_⟩
    obtain ⟨ra, t2, ys, rfl, hra, ht2, hys⟩ := place_inv hvr
    have ly : ys.length = p.2.length := by rw [hys.len, List.length_map]
    have few := gl.few
    refine ⟨_, rfl, ra, _, 1, _, rfl, rfl, SqT.of hra, atI_nat (by rfl), ?_⟩
    refine ⟨_, rfl, t2, _, rfl, .inr (SqT.of ht2), _, rfl, by rw [ly]; omega, by rw [ly]; omega, fun D hD => ?_⟩
    rw [Int.toNat_natCast, ly]
    have gas : GAs ns p.2 := fun a ha => ⟨(gl.place.arms a ha).1, fun pr hp => gl.lanes _ (List.mem_filterMap.mpr ⟨a, ha, by rw [hp]; rfl⟩)⟩
    have arm : ∀ (k : Nat) (hk : k < p.2.length) (H' : Hp), Ext H H' → ∃ r, H' r = some (.tup (armV p.2[k])) ∧ SqT K H' t2 ys ∧ atI ys (0 + (k : Int)) = some (.ref r) := fun k hk H' e => by
      obtain ⟨x', hx', dx'⟩ := DqAll_get hys k (armD p.2[k]) (by rw [List.getElem?_map, List.getElem?_eq_getElem hk]; rfl)
      obtain ⟨r, rfl, h1⟩ := arm_tup dx'
      exact ⟨r, e _ _ h1, SqT.of (e _ _ ht2), by rw [Int.zero_add]; exact atI_nat hx'⟩
    refine lc1_acc walk_range (fun k zs _ => zs = ((List.range k).filter fun i => openB st (bdOf prs) (p.2.getD i (none, 0))).map (fun i : Nat => V.int (i : Int)) ∧ k ≤ 10) (fun _ _ _ _ _ h => h) ⟨rfl, by decide⟩ hD
      (fun k zs _ h => by rw [h.1, List.length_map]; exact Nat.lt_of_le_of_lt (Nat.le_trans (List.length_filter_le ..) (by rw [List.length_range]; exact h.2)) (by decide)) (fun _ _ => trivial) ?_ ?_
    · rintro k x Hi H' zs hk e hz ⟨rfl, rfl⟩ ⟨hp, _⟩ QY QN kY kN
      have gk := gas _ (List.getElem_mem hk)
      obtain ⟨r, h1, s2, a2⟩ := arm k hk _ e
      refine ⟨rfl, ?_⟩
      refine ⟨_, rfl, _, rfl, t2, ys, _, _, rfl, rfl, s2, a2, r, _, 0, _, rfl, rfl, SqT.of h1, armV0, rfl, _, rfl, ?_⟩
      refine ite2 (fun g => ?_) (fun g => ?_)
      · cases ho : p.2[k].1 with
        | none =>
          rw [ho] at g
          simp at g
        | some pr =>
          obtain ⟨j, hj, ej⟩ := List.getElem_of_mem (gk.2 pr ho)
          have hw : pr.1 ∈ words4 ∧ isNameS pr.2 = true := by
            have := gk.1
            unfold GArm at this
            rw [ho] at this
            exact this
          have h1' : H' r = some (.tup [.str pr.1, .str ns[j], .int (p.2[k].2 : Int)]) := by
            rw [h1, ej]
            generalize p.2[k] = a at ho
            obtain ⟨o, gg⟩ := a
            cases ho
            rfl
          refine ⟨_, rfl, _, rfl, _, rfl, _, rfl, t2, ys, _, _, rfl, rfl, s2, a2, db, r, vc, _, prs, ns, st, pr.1, j, hj, rfl, e _ _ hdb, hvc.up e, h1', l3, hperm, hnd, hso, hw.1, fun H3 e3 => ⟨_, rfl, ?_⟩⟩
          have eo : openB st (bdOf prs) p.2[k] = (beh pr.1 (st ns[j]).1 (st ns[j]).2 (bdOf prs ns[j])).isSome := by unfold openB; rw [ho, ej]
          rw [← eo]
          refine ite2 (fun g => ?_) (fun g => ?_)
          · refine ⟨_, rfl, ?_⟩
            show QY (.int (0 + (k : Int))) _
            rw [Int.zero_add]
            refine kY _ _ e3 ⟨?_, by omega⟩
            rw [hp, idxs_step hk, if_pos g, List.map_append]
            rfl
          · refine kN _ e3 ⟨?_, by omega⟩
            rw [hp, idxs_step hk, if_neg g, List.append_nil]
      · have ho : p.2[k].1 = none := by
          cases ho : p.2[k].1 with
          | none => rfl
          | some pr =>
            refine absurd ?_ g
            have z := mt (els_iff gk.1).mp (by rw [ho]; exact Bool.false_ne_true)
            rw [Bool.not_eq_true', decide_eq_false]
            exact fun y => z (by injection y)
        refine iteF ?_
        refine kN _ (Ext.refl _) ⟨?_, by omega⟩
        have : openB st (bdOf prs) p.2[k] = false := by unfold openB; rw [ho]
        rw [hp, idxs_step hk, this]
        simp
    rintro H2 zs e2 h2 ⟨hz, _⟩
    have hz' : zs = (idxs (openB st (bdOf prs)) p.2).map (fun i : Nat => V.int (i : Int)) := hz
    rw [hz'] at h2
    refine ⟨_, rfl, by show 0 ≤ sizeLine; decide, fun l7 hl7 => ?_⟩
    have e8 := Ext.new (o := .lst []) hl7
    have e28 := e2.trans e8
    refine ⟨.list ((idxs (openB st (bdOf prs)) p.2).map fun i : Nat => PyData.int (i : Int)), .list [], sysUp hS e28, .lst (e8 _ _ h2) (dq_ints _ _), .lst upd_same .nil, ints_shaped (fun i hi => by have := idx_small few i hi; omega), nil_shaped, _, rfl, ?_⟩
    have h28 := e8 _ _ h2
    generalize upd H2 l7 _ = H3 at e28 h28 ⊢
    rw [eqv_e]
    refine ite2 (fun g => ?_) (fun g => ?_)
    · have em : idxs (openB st (bdOf prs)) p.2 = [] := List.map_eq_nil_iff.mp (List.isEmpty_iff.mp g)
      refine ⟨_, rfl, t2, _, rfl, .inr (SqT.of (e28 _ _ ht2)), _, rfl, by rw [ly]; omega, by rw [ly]; omega, fun D2 hD2 => ?_⟩
      rw [Int.toNat_natCast, ly]
      refine lc1_acc walk_range (fun k zs _ => zs = ((List.range k).filter fun i => (fun a : Arm => a.1.isNone) (p.2.getD i (none, 0))).map (fun i : Nat => V.int (i : Int)) ∧ k ≤ 10) (fun _ _ _ _ _ h => h) ⟨rfl, by decide⟩ hD2
        (fun k zs _ h => by rw [h.1, List.length_map]; exact Nat.lt_of_le_of_lt (Nat.le_trans (List.length_filter_le ..) (by rw [List.length_range]; exact h.2)) (by decide)) (fun _ _ => trivial) ?_ ?_
      · rintro k x Hi H' zs hk e hz ⟨rfl, rfl⟩ ⟨hp, _⟩ QY QN kY kN
        have gk := gas _ (List.getElem_mem hk)
        obtain ⟨r, h1, s2, a2⟩ := arm k hk _ (e28.trans e)
        refine ⟨rfl, ?_⟩
        refine ⟨_, rfl, _, rfl, t2, ys, _, _, rfl, rfl, s2, a2, r, _, 0, _, rfl, rfl, SqT.of h1, armV0, rfl, _, rfl, ?_⟩
        refine ite2 (fun g' => ?_) (fun g' => ?_)
        · have ee := (els_iff gk.1).mp (dec_word.mp g')
          refine ⟨_, rfl, ?_⟩
          show QY (.int (0 + (k : Int))) _
          rw [Int.zero_add]
          refine kY _ _ (Ext.refl _) ⟨?_, by omega⟩
          rw [hp, idxs_step (q := fun a : Arm => a.1.isNone) hk, if_pos ee, List.map_append]
          rfl
        · refine kN _ (Ext.refl _) ⟨?_, by omega⟩
          rw [hp, idxs_step (q := fun a : Arm => a.1.isNone) hk, if_neg (fun z => g' (dec_word.mpr ((els_iff gk.1).mpr z))), List.append_nil]
      rintro H4 zs e4 h4 ⟨hz, _⟩
      refine q D2 H4 (e28.free hD2) (e28.trans e4) ?_
      rw [h4, hz]
      have z1 : (idxs (fun a : Arm => a.1.isNone) p.2).length ≤ 1 := by rw [idxs_len]; exact gl.place.els
      have z2 : allowI st (bdOf prs) p = idxs (fun a : Arm => a.1.isNone) p.2 := by
        unfold allowI openI
        rw [if_pos em, List.take_of_length_le z1]
        split <;> rfl
      rw [z2]
      rfl
    · have em : ¬ idxs (openB st (bdOf prs)) p.2 = [] := fun z => g (by rw [z]; rfl)
      have eo : openI st (bdOf prs) p.2 = idxs (openB st (bdOf prs)) p.2 := by unfold openI; rw [if_neg em]
      refine ⟨_, rfl, ra, _, 0, _, rfl, rfl, SqT.of (e28 _ _ hra), atI_nat (by rfl), rfl, _, rfl, ?_⟩
      refine ite2 (fun g => ?_) (fun g => ?_)
      · refine ⟨_, rfl, _, rfl, D, _, rfl, SqL.of h28, fun l2 hl2 => ?_⟩
        refine q l2 _ (e28.free hl2) (e28.trans (Ext.new hl2)) ?_
        rw [upd_same]
        unfold allowI
        rw [if_pos (dec_word.mp g), eo, List.map_take]
        have := cut_take ((idxs (openB st (bdOf prs)) p.2).map fun i : Nat => V.int (i : Int)) 1
        rw [show (some ((1 : Nat) : Int)) = (some (1 : Int)) from rfl] at this
        rw [this]
      · refine ⟨_, rfl, q D H3 hD e28 ?_⟩
        unfold allowI
        rw [if_neg (fun z => g (dec_word.mpr z)), eo, h28]
end
end K41

set_option Elab.async false
set_option linter.all false
set_option maxRecDepth 100000
set_option maxHeartbeats 4000000
namespace K41
open PySem PySem.Spec PyProof.Rows L2 Ol RZ
open TL (tl)
section
variable {P : Program} {w : World} {K : PySem.W.Frag} {mg : Str → Option Value} {base : Heap} {C S N : Addr}
/-! ### _law_left -/
def spLeft : Sp := fun vs H Q _ => (∃ (db da : Addr) (va z : V) (ps : List (Str × Int)) (ns : List Str) (st : Str → Nat × Bool) (word : Str) (j : Nat) (hj : j < ns.length) (s' : Nat × Bool), vs = [.ref db, va, .ref da] ∧ H db = some (.dK (kvI ps)) ∧ Dq H va (ctD (ns.map st)) ∧
  H da = some (.tup [.str word, .str ns[j], z]) ∧ ps.length ≤ 3 ∧ ns.Perm (ps.map (·.1)) ∧ ns.Nodup ∧ sortedS ns = true ∧ word ∈ words4 ∧ ((st ns[j]).1 : Int) ≤ bdOf ps ns[j] ∧
  beh word (st ns[j]).1 (st ns[j]).2 (bdOf ps ns[j]) = some s' ∧ ∀ (r : V) (H' : Hp), Ext H H' → Dq H' r (ctD ((ns.map st).set j s')) → Q r H') ∨
  (∃ (db da : Addr) (va z : V), vs = [.ref db, va, .ref da] ∧ H da = some (.tup [.str "else", z]) ∧ Q va H)
abbrev s_left : Stmt := (topS 59)
theorem sc_left : FnScope ["_law_bounds_here", "_law_content", "_law_arm_here", "_law_found", "_law_at", "_law_count", "_law_closed", "_law_more"] ["_law_bounds_here", "_law_content", "_law_arm_here"] (defScope s_left) := ⟨rfl, rfl, rfl, by decide +kernel, rfl, by decide +kernel, by decide +kernel⟩
theorem word_no {word : Str} (hw : word ∈ words4) : ¬ word = "else" := fun z => by
  rw [z] at hw
  exact absurd hw (by decide +kernel)
theorem ok_left {f : Addr} {fd : FuncData} (F : Fun K "_law_left" "_law_left" s_left f fd) (T : BT mg) :
    FnOk P w K mg base CX0 1 f fd ["_law_bounds_here", "_law_content", "_law_arm_here"] spLeft := by
  refine F.ok sc_left (fun vs H Q E h => ?_) (fun cdv A outer s H vs Q E hr h => ?_)
  · rcases h with ⟨db, da, va, z, ps, ns, st, word, j, hj, s', rfl, _⟩ | ⟨db, da, va, z, rfl, _⟩ <;> rfl
  · have hu := hu_of hr
    refine ⟨_, (pss_cons (ps_if (pt_cmpR op_eq (pe_ix ix_tup (pv 2) pe_int (fun _ _ => rfl)) pe_str (nomark _)) (pss_one (ps_ret (pv 1))) pss_nil)
    (pss_cons (ps_par (i := 3) (j := 4) rfl sc_left.nd rfl rfl (by decide) rfl rfl (pa_cons (pe_callTy call_list_of (by rfl) T.n_list (by decide +kernel) (pa_cons (pv 1) pa_nil)) (pa_cons (pe_bm PySem.F.plainAttrs_list PySem.F.slot_list_index PySem.F.type_list_index mt_index (pe_callB (call_sortedD rfl) (by rfl) T.n_sorted (by decide +kernel) (pa_cons (pv 0) pa_nil)) (pa_cons (pe_ix ix_tup (pv 2) pe_int (fun _ _ => rfl)) pa_nil)) pa_nil)) (by rfl))
    (pss_cons (ps_asg (pe_ix ix_list (pv 3) (pv 4) (fun _ _ => rfl)) (pg_tup (by rfl) (pgs_cons (pg_name (i := 5) sc_left.nd rfl (.inl rfl)) (pgs_cons (pg_name (i := 6) sc_left.nd rfl (.inl rfl)) pgs_nil))))
    (pss_cons (ps_set (i := 7) sc_left.nd rfl (.inl rfl) (pe_ifExp (pt_cmpR op_eq (pe_ix ix_tup (pv 2) pe_int (fun _ _ => rfl)) pe_str (nomark _)) pe_int (pe_ifExp (pt_cmpR op_eq (pe_ix ix_tup (pv 2) pe_int (fun _ _ => rfl)) pe_str (nomark _)) (pe_un un_neg pe_int) pe_int)))
    (pss_cons (ps_asg (pe_tup (pa_cons (pe_op op_add (pv 5) (pv 7)) (pa_cons (pe_or (pv 6) (pe_one (pe_cmpR op_eq (pe_ix ix_tup (pv 2) pe_int (fun _ _ => rfl)) pe_str (nomark _)))) pa_nil))) (pg_sub (pv 3) (pv 4) set_list))
    (pss_one (ps_ret (pe_callTy call_tuple_of (by rfl) T.n_tuple (by decide +kernel) (pa_cons (pv 3) pa_nil))))))))), ?_⟩
    rcases h with ⟨db, da, va, z, ps, ns, st, word, j, hj, s', rfl, hdb, hva, hda, hl3, hperm, hnd, hso, hw, hle, hbe, q⟩ | ⟨db, da, va, z, rfl, hda, q⟩
    case inr =>
      refine ⟨_, rfl, da, _, 0, _, rfl, rfl, SqT.of hda, atI_nat (by rfl), rfl, _, rfl, ?_⟩
      refine ite2 (fun g => ?_) (fun g => absurd (dec_word.mpr rfl) g)
      exact ⟨_, rfl, q⟩
    obtain ⟨a, xs, rfl, ha, hxs, hxl⟩ := ct_inv hva
    refine ⟨_, rfl, da, _, 0, _, rfl, rfl, SqT.of hda, atI_nat (by rfl), rfl, _, rfl, ?_⟩
    refine ite2 (fun g => absurd (dec_word.mp g) (word_no hw)) (fun _ => ?_)
    have nl : ns.length ≤ 3 := by rw [hperm.length_eq, List.length_map]; exact hl3
    have xl : xs.length = ns.length := by rw [hxl, List.length_map]
    refine ⟨_, rfl, a, xs, rfl, .inr (SqT.of ha), fun l hl => ?_⟩
    have e1 := Ext.new (o := .lst xs) hl
    have hl1 : upd H l (.lst xs) l = some (.lst xs) := upd_same
    refine ⟨_, rfl, db, _, _, rfl, Rd.of (e1 _ _ hdb), kvI_keys ps, (by rw [List.length_map]; omega), fun ys p1 hperm2 hso2 hp1 => ?_⟩
    obtain rfl : ys = ns := sorted_one hso2 hso (hperm2.trans hperm.symm)
    have e3 := Ext.new (o := .lst (ys.map V.str)) hp1
    have h3 : upd (upd H l (.lst xs)) p1 (.lst (ys.map V.str)) p1 = some (.lst (ys.map V.str)) := upd_same
    have hl3' := e3 _ _ hl1
    have e13 := e1.trans e3
    refine ⟨.inl ⟨rfl, _, SqL.of h3⟩, ?_⟩
    generalize upd (upd H l (.lst xs)) p1 (.lst (ys.map V.str)) = H3 at *
    have hda3 := e13 _ _ hda
    have hxs3 := DqAll.up e13 hxs
    obtain ⟨u, hu2, du⟩ := DqAll_get hxs3 j (stD (st ys[j]).1 (st ys[j]).2) (by unfold ctL; rw [List.map_map, List.getElem?_map, List.getElem?_eq_getElem hj]; rfl)
    refine ⟨_, rfl, da, _, 1, _, rfl, rfl, SqT.of hda3, atI_nat (by rfl), ?_⟩
    refine ⟨p1, ys.map V.str, .str ys[j], j, .str ys[j], rfl, rfl, SqL.of h3, rfl, ix_all ys, ix_get j hj, ix_eq _, ix_no hnd j hj, ?_⟩
    refine ⟨_, _, rfl, ?_⟩
    obtain ⟨b, rfl, hb⟩ := st_inv du
    refine ⟨_, rfl, _, rfl, l, _, _, _, rfl, rfl, SqL.of hl3', atI_nat hu2, ?_⟩
    refine ⟨b, _, rfl, SqT.of hb, rfl, _, _, rfl, _, _, rfl, rfl, ?_⟩
    obtain ⟨q1, q2, q3⟩ := beh_counts hle hbe
    generalize (st ys[j]).1 = c at *
    generalize (st ys[j]).2 = cl at *
    dsimp only [gName]
    refine cutN (fun σ' H' => H' = H3 ∧ σ' = [some (.ref db), some (.ref a), some (.ref da), some (.ref l), some (.int (j : Int)), some (.int (c : Int)), some (.bl cl), some (.int (addW word))]) (fun W hW => ?_) ?_
    · refine ⟨_, rfl, da, _, 0, _, rfl, rfl, SqT.of hda3, atI_nat (by rfl), rfl, _, rfl, ?_⟩
      refine ite2 (fun g => ?_) (fun g => ?_)
      · refine hW _ _ ⟨rfl, ?_⟩
        have z : addW word = 1 := by unfold addW; rw [if_pos (dec_word.mp g)]
        rw [z]
        rfl
      · have n1 : ¬ word = "send" := fun z => g (dec_word.mpr z)
        refine ⟨_, rfl, da, _, 0, _, rfl, rfl, SqT.of hda3, atI_nat (by rfl), rfl, _, rfl, ?_⟩
        refine ite2 (fun g2 => ?_) (fun g2 => ?_)
        · refine ⟨_, rfl, hW _ _ ⟨rfl, ?_⟩⟩
          have z : addW word = -1 := by unfold addW; rw [if_neg n1, if_pos (dec_word.mp g2)]
          rw [z]
          rfl
        · refine hW _ _ ⟨rfl, ?_⟩
          have z : addW word = 0 := by unfold addW; rw [if_neg n1, if_neg (fun z => g2 (dec_word.mpr z))]
          rw [z]
          rfl
    rintro σ' H' ⟨rfl, rfl⟩
    have ixj : ixN xs.length (j : Int) = some j := by
      unfold ixN
      rw [if_pos (by omega), if_pos (by omega)]
      simp
    refine cutN (fun σ' H5 => σ' = [some (.ref db), some (.ref a), some (.ref da), some (.ref l), some (.int (j : Int)), some (.int (c : Int)), some (.bl cl), some (.int (addW word))] ∧ Ext H H5 ∧ ∃ t, H5 l = some (.lst (xs.set j (.ref t))) ∧ H5 t = some (.tup [.int (((s'.1 : Nat) : Int)), .bl s'.2])) (fun W hW => ?_) ?_
    · have fin : ∀ (bb : Bool) (t : Addr), bb = s'.2 → H' t = none → W [some (.ref db), some (.ref a), some (.ref da), some (.ref l), some (.int (j : Int)), some (.int (c : Int)), some (.bl cl), some (.int (addW word))] (upd (upd H' t (.tup [.int ((c : Int) + addW word), .bl bb])) l (.lst (xs.set j (.ref t)))) := by
        intro bb t hbb ht
        have et := Ext.new (o := .tup [.int ((c : Int) + addW word), .bl bb]) ht
        have ntl : t ≠ l := fun z => by rw [z, hl3'] at ht; cases ht
        refine hW _ _ ⟨rfl, Ext.mut (e13.trans et) hl, t, upd_same, ?_⟩
        rw [upd_ne ntl, upd_same, ← q1, hbb]
      refine ⟨_, rfl, _, rfl, _, _, rfl, rfl, _, rfl, _, rfl, ?_⟩
      have sub : ∀ (bb : Bool) (t : Addr), bb = s'.2 → H' t = none → upd H' t (.tup [.int ((c : Int) + addW word), .bl bb]) l = some (.lst xs) := fun bb t _ ht => Ext.new ht _ _ hl3'
      refine ite2 (fun g => ?_) (fun g => ?_)
      · refine ⟨by show 2 ≤ sizeLine; decide, fun t ht => ?_⟩
        have hb2 : true = s'.2 := by rw [q2, g]; rfl
        exact ⟨_, rfl, _, rfl, l, _, _, j, rfl, rfl, sub true t hb2 ht, ixj, fin true t hb2 ht⟩
      · refine ⟨_, rfl, da, _, 0, _, rfl, rfl, SqT.of hda3, atI_nat (by rfl), rfl, by show 2 ≤ sizeLine; decide, fun t ht => ?_⟩
        have hb2 : decide (V.str word = V.str "close") = s'.2 := by
          rw [q2, Bool.eq_false_iff.mpr g, Bool.false_or]
          by_cases c : word = "close"
          · rw [decide_eq_true c]; exact dec_word.mpr c
          · rw [decide_eq_false c]; exact Bool.eq_false_iff.mpr fun z => c (dec_word.mp z)
        exact ⟨_, rfl, _, rfl, l, _, _, j, rfl, rfl, sub _ t hb2 ht, ixj, fin _ t hb2 ht⟩
    rintro σ' H5 ⟨rfl, e5, t, hl5, ht5⟩
    refine ⟨_, rfl, l, _, rfl, .inl ⟨SqL.of hl5, fun r hr => ?_⟩⟩
    have e6 := Ext.new (o := .tup (xs.set j (.ref t))) hr
    refine q _ _ (e5.trans e6) (.tup upd_same ?_)
    have z := DqAll_set (DqAll.up (e5.trans e6) hxs) j (.ref t) (stD s'.1 s'.2) (.tup (e6 _ _ ht5) (.cons (.int _) (.cons (.bl _) .nil)))
    unfold ctL at z ⊢
    rw [List.map_set]
    exact z
end
end K41

set_option Elab.async false
set_option linter.all false
set_option maxRecDepth 100000
set_option maxHeartbeats 4000000
namespace K41
open PySem PySem.Spec PyProof.Rows L2 Ol RZ
open TL (tl)
/-! ### a list of pairs, sorted -/
def kOf (H : Hp) (v : V) : Str × Int := match v with
  | .ref t => match H t with
    | some (.tup [.str u, .int i]) => (u, i)
    | _ => ("", 0)
  | _ => ("", 0)
theorem kOf_at {H : Hp} {t : Addr} {u : Str} {i : Int} (h : H t = some (.tup [.str u, .int i])) : kOf H (.ref t) = (u, i) := by
  unfold kOf
  dsimp only
  rw [h]
theorem prs_at {H : Hp} : ∀ {xs : List V} {ss : List Seat}, DqAll H xs (ss.map seatD) → xs.map (kOf H) = ss.map seatP ∧ ∀ x ∈ xs, ∃ t, x = V.ref t ∧ H t = some (.tup [.str (kOf H x).1, .int (kOf H x).2])
  | [], [], _ => ⟨rfl, fun x hx => by cases hx⟩
  | x :: xs, s :: ss, h => by
    cases h with
    | cons a t =>
      obtain ⟨b, rfl, hb⟩ := seat_inv a
      obtain ⟨i1, i2⟩ := prs_at t
      have e := kOf_at hb
      refine ⟨by rw [List.map_cons, List.map_cons, i1, e]; rfl, fun y hy => ?_⟩
      rcases List.mem_cons.mp hy with rfl | hy
      · rw [e]
        exact ⟨b, rfl, hb⟩
      · exact i2 y hy
theorem prs_of {H : Hp} : ∀ {ys : List V} {ss : List Seat}, ys.map (kOf H) = ss.map seatP → (∀ x ∈ ys, ∃ t, x = V.ref t ∧ H t = some (.tup [.str (kOf H x).1, .int (kOf H x).2])) → DqAll H ys (ss.map seatD)
  | [], [], _, _ => .nil
  | [], _ :: _, h, _ => by simp at h
  | _ :: _, [], h, _ => by simp at h
  | y :: ys, s :: ss, h, g => by
    rw [List.map_cons, List.map_cons] at h
    injection h with h1 h2
    obtain ⟨t, rfl, ht⟩ := g _ List.mem_cons_self
    refine .cons ?_ (prs_of h2 fun x hx => g x (List.mem_cons_of_mem _ hx))
    rw [h1] at ht
    exact .tup ht (.cons (.str _) (.cons (.int _) .nil))
theorem sorted_prs {W : Wd} (g : GW W) {s : Sd} {H : Hp} {xs ys : List V} {tl : List Seat} (h : DqAll H xs (tl.map seatD)) (hp : tl.Perm (W.theres s)) (hy : ys.Perm xs) (hs : ys.Pairwise fun x y => lexT (kOf H y) (kOf H x) = false) : DqAll H ys ((W.theres s).map seatD) := by
  obtain ⟨h1, h2⟩ := prs_at h
  refine prs_of (sortedP_one (List.pairwise_map.mpr hs) (theres_sorted g s) ?_) fun x hx => h2 x (hy.mem_iff.mp hx)
  refine (hy.map _).trans ?_
  rw [h1]
  exact hp.map _
section
variable {P : Program} {w : World} {K : PySem.W.Frag} {mg : Str → Option Value} {base : Heap} {C CP S : Addr}
/-! ### _law_steps -/
def spLSt : Sp := fun vs H Q _ => ∃ (m : Addr) (W : Wd) (v : V) (s : Sd), vs = [.ref m, v] ∧ Sys H ∧ MdlW H m W ∧ Dq H v (stgD (s.std W.ns)) ∧ GSd W s ∧
  ∀ (l : Addr) (ys : List V) (H' : Hp), H l = none → Ext H H' → H' l = some (.lst ys) → DqAll (del H' l) ys ((W.steps s).map stpD) → Q (.ref l) H'
abbrev s__law_steps : Stmt := (topS 64)
abbrev nLSt : List Str := ["_law_model_here", "_law_standing", "_law_found", "_law_seats_here", "_law_there", "_law_who", "_law_place", "_law_row", "_law_kind", "_law_k"]
theorem sc_lst : FnScope nLSt ["_law_model_here", "_law_standing"] (defScope s__law_steps) := ⟨rfl, rfl, rfl, by decide +kernel, rfl, by decide +kernel, by decide +kernel⟩
theorem ok_lsts {f : Addr} {fd : FuncData} (F : Fun K "_law_steps" "_law_steps" s__law_steps f fd) (T : BT mg)
    (CSe : Ca P w K mg base 1 "_law_seats" ["_law_model_here"] spSeats) (CRo : Ca P w K mg base 1 "_law_rows" ["_law_model_here", "_law_who"] spRo) (CCh : Ca P w K mg base 2 "_law_choices" ["_law_bounds_here", "_law_row", "_law_content"] spLCh) :
    FnOk P w K mg base CX0 3 f fd ["_law_model_here", "_law_standing"] spLSt := by
  refine F.ok sc_lst (fun vs H Q E h => ?_) (fun cdv A outer s H vs Q E hr h => ?_)
  · obtain ⟨m, W, v, s, rfl, _⟩ := h
    rfl
  · obtain ⟨m, W, v, s, rfl, hSy, hW, hv, gs, q⟩ := h
    refine ⟨_, (pss_cons (ps_asg (pe_tup (pa_cons (pe_lst pa_nil) (pa_cons (pe_ca CSe (hr.mono (by decide)) (by rfl) (pa_cons (pv 0) pa_nil)) pa_nil))) (pg_tup (by rfl) (pgs_cons (pg_name (i := 2) sc_lst.nd rfl (.inl rfl)) (pgs_cons (pg_name (i := 3) sc_lst.nd rfl (.inr rfl)) pgs_nil))))
      (pss_cons (ps_set (i := 4) sc_lst.nd rfl (.inl rfl) (pe_op op_cat (pe_lst (pa_cons (pe_tup (pa_cons pe_str (pa_cons (pe_ix ix_tup (pv 1) pe_int (fun _ _ => rfl)) pa_nil))) pa_nil)) (pe_lc (own := [("_law_kind", 8)]) (g := gName 8) (tt := tYes) rfl sc_lst.nd (pi_list (pe_callB (call_sortedD rfl) (by rfl) T.n_sorted (by decide +kernel) (pa_cons (pe_dget (hu_of hr) (pv 0) pe_str (fun _ _ => rfl)) pa_nil))) (blkOk_by (N := nLSt) (sc := defScope s__law_steps) (by decide +kernel)) (fun _ _ _ _ _ => (pg_name (i := 8) sc_lst.nd rfl (.inl rfl))) (fun _ _ _ _ _ => pts_nil) (fun _ _ _ _ _ => (pe_tup (pa_cons (pv 8) (pa_cons pe_int pa_nil)))))))
      (pss_cons (ps_aug (i := 4) sc_lst.nd rfl (.inl rfl) (pe_lc (own := [("_law_k", 9)]) (g := gName 9) (tt := tTest (tOp (rI0 fun i j => V.bl (decide (j < i))) (tOp (rIxT K) (tOp (rIxT K) (tVar 1) (tC (.int 2))) (tVar 9)) (tC (.int 0)))) rfl sc_lst.nd (pi_range1 (by rfl) T.n_range (pa_cons (pe_callB call_len_seq (by rfl) T.n_len (by decide +kernel) (pa_cons (pv 3) pa_nil)) pa_nil)) (blkOk_by (N := nLSt) (sc := defScope s__law_steps) (by decide +kernel)) (fun _ _ _ _ _ => (pg_name (i := 9) sc_lst.nd rfl (.inl rfl))) (fun _ _ _ _ _ => (pts_one (pt_cmpR op_gt (pe_ix ix_tup (pe_ix ix_tup (pv 1) pe_int (fun _ _ => rfl)) (pv 9) (fun _ _ => rfl)) pe_int (nomark _)))) (fun _ _ _ _ _ => (pe_ix (r := rIxL K) ix_list (pv 3) (pv 9) (fun _ _ => rfl)))) iop_ext)
      (pss_cons (ps_for PassesOwn.never rfl (pi_list (pe_callB call_sortT (by rfl) T.n_sorted (by decide +kernel) (pa_cons (pv 4) pa_nil))) (pg_tup (by rfl) (pgs_cons (pg_name (i := 5) sc_lst.nd rfl (.inr rfl)) (pgs_cons (pg_name (i := 6) sc_lst.nd rfl (.inr rfl)) pgs_nil)))
        (pss_cons (ps_set (i := 7) sc_lst.nd rfl (.inl rfl) (pe_ix ix_list (pe_ca CRo (hr.mono (by decide)) (by rfl) (pa_cons (pv 0) (pa_cons (pv 5) pa_nil))) (pv 6) (fun _ _ => rfl)))
        (pss_one (ps_aug (i := 2) sc_lst.nd rfl (.inl rfl) (pe_lc (own := [("_law_k", 9)]) (g := gName 9) (tt := tYes) rfl sc_lst.nd (pi_list (pe_ca CCh (hr.mono (by decide)) (by rfl) (pa_cons (pe_dget (hu_of hr) (pv 0) pe_str (fun _ _ => rfl)) (pa_cons (pv 7) (pa_cons (pe_ix ix_tup (pv 1) pe_int (fun _ _ => rfl)) pa_nil))))) (blkOk_by (N := nLSt) (sc := defScope s__law_steps) (by decide +kernel)) (fun _ _ _ _ _ => (pg_name (i := 9) sc_lst.nd rfl (.inl rfl))) (fun _ _ _ _ _ => pts_nil) (fun _ _ _ _ _ => (pe_tup (pa_cons (pv 5) (pa_cons (pv 6) (pa_cons (pv 9) pa_nil)))))) iop_ext))))
      (pss_one (ps_ret (pv 2))))))), ?_⟩
    have gw := hW.gw
    obtain ⟨g, ps, kx, hM, hG, g3, hkp, hks, hperm, hso, hbd⟩ := id hW
    obtain ⟨db, sl, dk, at_, hm, hdb, hsl, hdk, hkl, nmk, nbk⟩ := id hM
    obtain ⟨a, va, vc, ys0, rfl, v1, v2, v3, v4⟩ := stg_inv hv
    have k2 := hG.k2
    have lks : W.ks.length = kx.length := hkp.length_eq
    have l15 := seats60 gw
    -- found and the seats
    refine ⟨by show 0 ≤ sizeLine; decide, fun F0 hF => ?_⟩
    have e1 := Ext.new (o := .lst []) hF
    have f1 := upd_same (H := H) (a := F0) (o := HO.lst [])
    generalize upd H F0 (.lst []) = H1 at e1 f1 ⊢
    refine ⟨_, rfl, m, g, ps, W.sv, kx, W.ks, rfl, hM.up e1, hG, hkp, hks, fun ls ws H2 hls e2 h2s hw => ?_⟩
    have f2 := e2 _ _ f1
    have w2 : DqAll H2 ws ((seatsOf W.ks).map seatD) := DqAll.up del_ext hw
    have lw : ws.length = (seatsOf W.ks).length := by rw [w2.len, List.length_map]
    refine ⟨by show 2 ≤ sizeLine; decide, fun tt ht => ?_⟩
    have e3 := Ext.new (o := .tup [.ref F0, .ref ls]) ht
    refine ⟨tt, _, rfl, SqT.of upd_same, rfl, _, _, rfl, _, _, rfl, rfl, ?_⟩
    have f3 := e3 _ _ f2
    have s3 := e3 _ _ h2s
    have w3 := DqAll.up e3 w2
    have e03 := e1.trans (e2.trans e3)
    generalize upd H2 tt (.tup [.ref F0, .ref ls]) = H3 at f3 s3 w3 e03 ⊢
    -- the server and the newcomers
    refine ⟨_, rfl, a, _, 0, _, rfl, rfl, SqT.of (e03 _ _ v1), rfl, by show 2 ≤ sizeLine; decide, fun t0 ht0 => ?_⟩
    have e4 := Ext.new (o := .tup [.str "", .int ((s.std W.ns).pl : Int)]) ht0
    have t4 := upd_same (H := H3) (a := t0) (o := HO.tup [.str "", .int ((s.std W.ns).pl : Int)])
    generalize upd H3 t0 (.tup [.str "", .int ((s.std W.ns).pl : Int)]) = H4 at e4 t4 ⊢
    refine ⟨by show 1 ≤ sizeLine; decide, fun T0 hT0 => ?_⟩
    have e5 := Ext.new (o := .lst [.ref t0]) hT0
    have t5 := upd_same (H := H4) (a := T0) (o := HO.lst [.ref t0])
    generalize upd H4 T0 (.lst [.ref t0]) = H5 at e5 t5 ⊢
    have e05 := e03.trans (e4.trans e5)
    refine ⟨_, rfl, m, _, rfl, get_k (e05 _ _ hm), dk, _, kx.map (·.1), rfl, Rd.of (e05 _ _ hdk), kdA_keys kx at_, by rw [List.length_map]; omega, fun us l3 hpermu hsou hl3 => ?_⟩
    obtain rfl : us = W.ks.map (·.1) := sorted_one hsou hks (hpermu.trans (hkp.map _).symm)
    have e6 := Ext.new (o := .lst ((W.ks.map (·.1)).map V.str)) hl3
    have u6 := upd_same (H := H5) (a := l3) (o := HO.lst ((W.ks.map (·.1)).map V.str))
    generalize upd H5 l3 (.lst ((W.ks.map (·.1)).map V.str)) = H6 at e6 u6 ⊢
    have ml : ((W.ks.map (·.1)).map V.str).length = W.ks.length := by rw [List.length_map, List.length_map]
    refine ⟨l3, rfl, ⟨_, SqL.of u6⟩, fun D hD => ?_⟩
    refine lc1_acc (walk_list (xs := (W.ks.map (·.1)).map V.str)) (fun i zs Hd => i ≤ 3 ∧ DqAll Hd zs (((W.ks.take i).map fun k : Knd => ((k.1, 0) : Seat)).map seatD)) (fun _ _ _ _ e ⟨a1, h⟩ => ⟨a1, DqAll.up e h⟩) ⟨by decide, .nil⟩ hD
      (fun i zs _ ⟨a1, h⟩ => by rw [h.len, List.length_map, List.length_map, List.length_take]; exact Nat.lt_of_le_of_lt (show _ ≤ 3 by omega) (by decide)) (fun H' e => SqL.of (e _ _ u6)) ?_ ?_
    · rintro i x Hi H' zs hi e hy ⟨rfl, hxi⟩ ⟨a1, hz⟩ QY QN kY kN
      rw [ml] at hi
      rw [List.getElem?_map, List.getElem?_map, List.getElem?_eq_getElem hi] at hxi
      cases hxi
      refine ⟨rfl, ?_⟩
      refine tyes ?_
      refine ⟨_, rfl, by show 2 ≤ sizeLine; decide, fun t ht => ?_⟩
      have et := Ext.new (o := .tup [.str W.ks[i].1, .int 0]) ht
      have n2 : t ≠ D := fun z => by rw [z, hy] at ht; cases ht
      refine kY _ _ et ⟨by omega, ?_⟩
      rw [List.take_add_one, List.getElem?_eq_getElem hi, Option.toList_some, List.map_append, List.map_append]
      exact dq_app (DqAll.up (ext_del et) hz) (.cons (.tup (by rw [del_ne n2]; exact upd_same) (.cons (.str _) (.cons (.int _) .nil))) .nil)
    rintro H7 zs e7 h7D ⟨_, hz⟩
    rw [ml, List.take_length] at hz
    have lz : zs.length = W.ks.length := by rw [hz.len, List.length_map, List.length_map]
    have t7 := e7 _ _ (e6 _ _ t5)
    refine ⟨T0, D, _, _, rfl, rfl, t7, h7D, by rw [lz]; exact Nat.le_trans (show _ ≤ 10 by simp; omega) (by decide), fun TL hTL => ?_⟩
    have e8 := Ext.new (o := .lst ([.ref t0] ++ zs)) hTL
    have t8 := upd_same (H := H7) (a := TL) (o := HO.lst ([.ref t0] ++ zs))
    generalize upd H7 TL (.lst ([.ref t0] ++ zs)) = H8 at e8 t8 ⊢
    have e57 := e5.trans (e6.trans e7)
    have e08 : Ext H H8 := (e03.trans (e4.trans e57)).trans e8
    have e38 : Ext H3 H8 := (e4.trans e57).trans e8
    have q8 : DqAll H8 ([.ref t0] ++ zs) ((((("" : Str), s.pl) : Seat) :: (W.ks.map fun k : Knd => ((k.1, 0) : Seat))).map seatD) :=
      .cons (.tup (e8 _ _ (e57 _ _ t4)) (.cons (.str _) (.cons (.int _) .nil))) (DqAll.up e8 hz)
    have f8 := e38 _ _ f3
    have s8 := e38 _ _ s3
    have w8 := DqAll.up e38 w3
    have nTF : TL ≠ F0 := fun z => by rw [z, e57 _ _ (e4 _ _ f3)] at hTL; cases hTL
    have hTL0 : H TL = none := (e03.trans (e4.trans e57)).free hTL
    -- who sits
    refine ⟨_, rfl, _, rfl, ls, _, rfl, .inl (SqL.of s8), _, rfl, by rw [lw]; omega, by rw [lw]; omega, fun D2 hD2 => ?_⟩
    rw [Int.toNat_natCast, lw]
    refine lc1_acc walk_range (fun j zs2 Hd => j ≤ 15 ∧ DqAll Hd zs2 ((((List.range j).filter fun i => decide (0 < s.ct.getD i 0)).map fun i => (seatsOf W.ks).getD i ("", 0)).map seatD)) (fun _ _ _ _ e ⟨a1, h⟩ => ⟨a1, DqAll.up e h⟩) ⟨by decide, .nil⟩ hD2
      (fun j zs2 _ ⟨a1, h⟩ => by rw [h.len, List.length_map, List.length_map]; exact Nat.lt_of_le_of_lt (Nat.le_trans (List.length_filter_le ..) (by rw [List.length_range]; exact a1)) (by decide)) (fun _ _ => trivial) ?_ ?_
    · rintro j y Hi H' zs2 hj e hy ⟨rfl, rfl⟩ ⟨a1, hz2⟩ QY QN kY kN
      have e0i := e08.trans e
      have hj2 : j < s.ct.length := by rw [gs.ct]; exact hj
      obtain ⟨x', hx', dx'⟩ := DqAll_get w8 j (seatD (seatsOf W.ks)[j]) (by rw [List.getElem?_map, List.getElem?_eq_getElem hj]; rfl)
      refine ⟨rfl, ?_⟩
      dsimp only
      rw [Int.zero_add]
      have hd : (List.range (j + 1)).filter (fun i => decide (0 < s.ct.getD i 0)) = (List.range j).filter (fun i => decide (0 < s.ct.getD i 0)) ++ (if decide (0 < s.ct.getD j 0) = true then [j] else []) := by
        rw [List.range_succ, List.filter_append]
        congr 1
        by_cases c : decide (0 < s.ct.getD j 0) = true
        · rw [if_pos c, List.filter_cons_of_pos (p := fun i => decide (0 < s.ct.getD i 0)) (a := j) c]; rfl
        · rw [if_neg c, List.filter_cons_of_neg (p := fun i => decide (0 < s.ct.getD i 0)) (a := j) c]; rfl
      have eg : s.ct.getD j 0 = s.ct[j] := by rw [List.getD_eq_getElem?_getD, List.getElem?_eq_getElem hj2]; rfl
      have es : (seatsOf W.ks).getD j ("", 0) = (seatsOf W.ks)[j] := by rw [List.getD_eq_getElem?_getD, List.getElem?_eq_getElem hj]; rfl
      refine ⟨_, rfl, a, _, 2, _, rfl, rfl, SqT.of (e0i _ _ v1), rfl, _, rfl, vc, _, _, _, rfl, rfl, SqT.of (e0i _ _ v4), atI_nat (cV_get (ct := (s.std W.ns).ct) hj2), _, _, rfl, rfl, _, rfl, ?_⟩
      have ed : decide ((0 : Int) < (((s.std W.ns).ct[j] : Nat) : Int)) = decide (0 < s.ct.getD j 0) := by
        rw [eg]
        exact decide_eq_decide.mpr ⟨fun h => by have h' : (0 : Int) < ((s.ct[j] : Nat) : Int) := h; omega, fun h => by show (0 : Int) < ((s.ct[j] : Nat) : Int); omega⟩
      rw [ed]
      refine ite2 (fun g => ?_) (fun g => ?_)
      · refine ⟨_, rfl, _, rfl, ls, _, _, _, rfl, rfl, SqL.of (e _ _ s8), atI_nat hx', ?_⟩
        refine kY _ _ (Ext.refl _) ⟨by omega, ?_⟩
        rw [hd, if_pos g, List.map_append, List.map_append]
        refine dq_app hz2 (.cons ?_ .nil)
        show Dq _ _ (seatD ((seatsOf W.ks).getD j ("", 0)))
        rw [es]
        obtain ⟨t, rfl, ht⟩ := seat_inv (dx'.up e)
        exact .tup (by rw [del_ne (fun z => by rw [z, hy] at ht; cases ht)]; exact ht) (.cons (.str _) (.cons (.int _) .nil))
      · refine kN _ (Ext.refl _) ⟨by omega, ?_⟩
        rw [hd, if_neg g, List.append_nil]
        exact hz2
    rintro H9 zs2 e9 h9D ⟨_, hz2⟩
    rw [held_eq gw gs] at hz2
    have t9 := e9 _ _ t8
    have lz2 : zs2.length ≤ 15 := by
      rw [hz2.len, List.length_map]
      unfold heldS
      exact Nat.le_trans (List.length_filter_le ..) l15
    refine ⟨TL, D2, _, _, rfl, rfl, t9, h9D, by simp; exact Nat.le_trans (show _ ≤ 30 by omega) (by decide), ?_⟩
    have e010 : Ext H (upd H9 TL (.lst ([.ref t0] ++ zs ++ zs2))) := Ext.mut (e08.trans e9) hTL0
    have t10 := upd_same (H := H9) (a := TL) (o := HO.lst ([.ref t0] ++ zs ++ zs2))
    have f10 : (upd H9 TL (.lst ([.ref t0] ++ zs ++ zs2))) F0 = some (.lst []) := by rw [upd_ne (Ne.symm nTF)]; exact e9 _ _ f8
    have q10 : DqAll (upd H9 TL (.lst ([.ref t0] ++ zs ++ zs2))) ([.ref t0] ++ zs ++ zs2) (((((("" : Str), s.pl) : Seat) :: (W.ks.map fun k : Knd => ((k.1, 0) : Seat))) ++ heldS W s).map seatD) := by
      rw [List.map_append]
      have z := DqAll.offl t9 (DqAll.up e9 q8) (NlAll.of fun d hd => by
        obtain ⟨x, _, rfl⟩ := List.mem_map.mp hd
        exact .tup (.cons (.str _) (.cons (.int _) .nil)))
      have z2 := DqAll.offl t9 hz2 (NlAll.of fun d hd => by
        obtain ⟨x, _, rfl⟩ := List.mem_map.mp hd
        exact .tup (.cons (.str _) (.cons (.int _) .nil)))
      exact DqAll.up del_up (dq_app z z2)
    generalize upd H9 TL (.lst ([.ref t0] ++ zs ++ zs2)) = H10 at e010 t10 f10 q10 ⊢
    refine ⟨_, rfl, TL, _, kOf H10, rfl, SqL.of t10, (prs_at q10).2, fun ys p hpy hsy hp => ?_⟩
    have sy := sorted_prs gw q10 (theres_perm gw s) hpy hsy
    have e11 := Ext.new (o := .lst ys) hp
    have y11 := upd_same (H := H10) (a := p) (o := HO.lst ys)
    have sy11 := DqAll.up e11 sy
    have f11 := e11 _ _ f10
    have e011 := e010.trans e11
    have npF : p ≠ F0 := fun z => by rw [z, f10] at hp; cases hp
    generalize upd H10 p (.lst ys) = H11 at y11 sy11 f11 e011 ⊢
    have eB : Ext H (del H11 F0) := ext_to e011 hF
    have lys : ys.length = (W.theres s).length := by rw [sy11.len, List.length_map]
    have syF : DqAll (del H11 F0) ys ((W.theres s).map seatD) := DqAll.offl f11 sy11 (NlAll.of fun d hd => by
      obtain ⟨x, _, rfl⟩ := List.mem_map.mp hd
      exact .tup (.cons (.str _) (.cons (.int _) .nil)))
    have lt20 := th_len gw s W.ks.length
    rw [th_all] at lt20
    refine ⟨p, rfl, ⟨_, SqL.of y11⟩, ?_⟩
    refine for_it (walk_list (xs := ys)) (fun i σ H' => ∃ v5 v6 v7 zs, σ = [some (.ref m), some (.ref a), some (.ref F0), some (.ref ls), some (.ref TL), v5, v6, v7, none, none] ∧ Ext (del H11 F0) H' ∧ H' F0 = some (.lst zs) ∧ DqAll (del H' F0) zs ((((W.theres s).take i).flatMap (W.stepsAt s)).map stpD))
      ⟨none, none, none, [], rfl, del_ext, f11, .nil⟩ (fun i σ H' _ ⟨_, _, _, _, _, e, _⟩ => SqL.of (e _ _ ((del_ne npF).trans y11))) ?_ ?_
    · rintro i x σ H12 H13 hi ⟨v5, v6, v7, zs, rfl, e12, h12F, h12z⟩ ⟨rfl, hxi⟩
      have hi2 : i < (W.theres s).length := by rw [← lys]; exact hi
      obtain ⟨x', hx', dx'⟩ := DqAll_get syF i (seatD (W.theres s)[i]) (by rw [List.getElem?_map, List.getElem?_eq_getElem hi2]; rfl)
      rw [hxi] at hx'
      cases hx'
      obtain ⟨t, rfl, ht⟩ := seat_inv (dx'.up e12)
      have e0i := eB.trans e12
      have mt : (W.theres s)[i] ∈ W.theres s := List.getElem_mem hi2
      have lt := there_lt gw gs (u := (W.theres s)[i].1) (p := (W.theres s)[i].2) mt
      refine ⟨t, _, rfl, SqT.of ht, rfl, _, _, rfl, _, _, rfl, rfl, ?_⟩
      refine ⟨_, rfl, _, rfl, m, W, (W.theres s)[i].1, rfl, hW.up e0i, there_kind gw mt, fun lr xr hlr hxr => ?_⟩
      obtain ⟨vr, hvr, dvr⟩ := DqAll_get hxr (W.theres s)[i].2 (placeD (W.rows (W.theres s)[i].1)[(W.theres s)[i].2]) (by rw [List.getElem?_map, List.getElem?_eq_getElem lt]; rfl)
      refine ⟨_, rfl, lr, _, _, _, rfl, rfl, SqL.of hlr, atI_nat hvr, ?_⟩
      obtain ⟨nn, gl⟩ : ∃ nn, GL nn W.ns (W.rows (W.theres s)[i].1)[(W.theres s)[i].2] := by
        have hmem := List.getElem_mem lt
        have mono : ∀ {nn : Nat} {q : Place}, GL nn (ps.map (·.1)) q → GL nn W.ns q := fun h => ⟨h.place, h.few, fun x hx => hperm.mem_iff.mpr (h.lanes x hx)⟩
        rcases (mem_theres gw).mp (show ((W.theres s)[i].1, (W.theres s)[i].2) ∈ W.theres s from mt) with ⟨e1, _⟩ | ⟨k, hk, e1, _⟩
        · have er : W.rows (W.theres s)[i].1 = W.sv := by rw [e1]; exact gw.rows0
          exact ⟨_, mono (hG.sg _ (er ▸ hmem))⟩
        · have er : W.rows (W.theres s)[i].1 = k.2 := by rw [e1]; exact gw.rowsK hk
          exact ⟨_, mono (hG.kg k (hkp.mem_iff.mp hk) _ (er ▸ hmem))⟩
      refine ⟨_, rfl, _, rfl, m, _, rfl, get_b (e0i _ _ hm), _, rfl, _, rfl, a, _, 1, _, rfl, rfl, SqT.of (e0i _ _ v1), rfl, ?_⟩
      refine ⟨db, vr, .ref va, ps, W.ns, s.st, nn, _, rfl, sysUp hSy e0i, e0i _ _ hdb, dvr, .tup (e0i _ _ v2) (DqAll.up e0i v3), hG.p3, hperm, gw.nd, hso, gl, fun l2 H14 nl2 e14 hl2 => ?_⟩
      refine ⟨l2, rfl, ⟨_, SqL.of hl2⟩, fun D hD => ?_⟩
      rw [← hbd] at hl2
      have h14F := e14 _ _ h12F
      have al := at_len gw gs mt
      have nDF : D ≠ F0 := fun z => by rw [z, h14F] at hD; cases hD
      have lal : ((allowI s.st (bdOf ps) (W.rows (W.theres s)[i].1)[(W.theres s)[i].2]).map fun i : Nat => V.int (i : Int)).length = (W.stepsAt s (W.theres s)[i]).length := by
        unfold Wd.stepsAt
        rw [List.length_map, List.length_map, row_eq lt, hbd]
      refine lc1_acc (walk_list (xs := (allowI s.st (bdOf ps) (W.rows (W.theres s)[i].1)[(W.theres s)[i].2]).map fun i : Nat => V.int (i : Int))) (fun j ys Hd => j ≤ 5 ∧ DqAll (del Hd F0) ys (((W.stepsAt s (W.theres s)[i]).take j).map stpD)) (fun _ _ _ _ e ⟨a1, h⟩ => ⟨a1, DqAll.up (ext_del e) h⟩) ⟨by decide, .nil⟩ hD
        (fun j ys _ ⟨a1, h⟩ => by rw [h.len, List.length_map, List.length_take]; exact Nat.lt_of_le_of_lt (show _ ≤ 5 by omega) (by decide)) (fun H' e => SqL.of (by rw [← hbd]; exact e _ _ hl2)) ?_ ?_
      · rintro j y Hi H' ys2 hj e hy ⟨rfl, hyj⟩ ⟨a1, hz⟩ QY QN kY kN
        rw [lal] at hj
        have hz2 := stepsAt_get (W := W) (s := s) (x := (W.theres s)[i]) lt (j := j) (by rw [hbd]; have := hj; rw [← lal, List.length_map] at this; exact this)
        rw [List.getElem?_map, ← hbd, List.getElem?_eq_getElem (by rw [hbd]; have := hj; rw [← lal, List.length_map] at this; exact this)] at hyj
        cases hyj
        refine ⟨rfl, ?_⟩
        refine tyes ?_
        refine ⟨_, rfl, _, rfl, _, rfl, by show 3 ≤ sizeLine; decide, fun t2 ht2 => ?_⟩
        have et := Ext.new (o := .tup [.str (W.theres s)[i].1, .int ((W.theres s)[i].2 : Int), .int ((allowI s.st W.bd (W.rows (W.theres s)[i].1)[(W.theres s)[i].2])[j]'(by rw [hbd]; have := hj; rw [← lal, List.length_map] at this; exact this) : Int)]) ht2
        have n1 : t2 ≠ F0 := fun z => by rw [z, e _ _ h14F] at ht2; cases ht2
        have n2 : t2 ≠ D := fun z => by rw [z, hy] at ht2; cases ht2
        refine kY _ _ et ⟨by omega, ?_⟩
        rw [List.take_add_one, hz2, Option.toList_some, List.map_append]
        refine dq_app (DqAll.up (ext_del (ext_del et)) hz) (.cons ?_ .nil)
        refine stp_mk (a := t2) ?_
        rw [del_ne n1, del_ne n2]
        exact upd_same
      · rintro H15 ys2 e15 h15D ⟨_, hz⟩
        rw [lal, List.take_length] at hz
        have h15F := e15 _ _ h14F
        have n1 := pre_len gw gs i
        have n2 : zs.length ≤ 5 * i := by rw [h12z.len, List.length_map]; exact n1
        have n3 : ys2.length ≤ 5 := by rw [hz.len, List.length_map]; exact al
        refine ⟨F0, D, _, _, rfl, rfl, h15F, h15D, Nat.le_trans (show _ ≤ 200 by omega) (by decide), ?_⟩
        refine ⟨_, _, _, _, rfl, Ext.mut (e12.trans (e14.trans e15)) del_same, upd_same, ?_⟩
        rw [del_upd, List.take_add_one, List.getElem?_eq_getElem hi2, Option.toList_some, List.flatMap_append, List.map_append]
        refine dq_app (DqAll.up (ext_del (e14.trans e15)) h12z) ?_
        have ef : [(W.theres s)[i]].flatMap (W.stepsAt s) = W.stepsAt s (W.theres s)[i] := by simp
        rw [ef]
        exact hz
    · rintro σ H12 ⟨v5, v6, v7, zs, rfl, e12, h12F, h12z⟩
      rw [lys, List.take_length] at h12z
      exact ⟨_, rfl, q F0 zs H12 hF (eB.trans e12) h12F h12z⟩
end
end K41

set_option Elab.async false
set_option linter.all false
set_option maxRecDepth 100000
set_option maxHeartbeats 4000000
namespace K41
open PySem PySem.Spec PyProof.Rows L2 Ol RZ
open TL (tl)
mutual
theorem dp_of {K : PySem.W.Frag} {H : Hp} : ∀ {v : V} {d : PyData}, Dq H v d → Nd d → Dp K H v d
  | _, _, .non, _ => .non
  | _, _, .bl b, _ => .bl b
  | _, _, .int i, _ => .int i
  | _, _, .str x, _ => .str x
  | _, _, .lst h t, n => .lst (SqL.of h) (dpAll_of t (by cases n; assumption))
  | _, _, .tup h t, n => .tup (SqT.of h) (dpAll_of t (by cases n; assumption))
  | _, _, .dct h t, n => by cases n
theorem dpAll_of {K : PySem.W.Frag} {H : Hp} : ∀ {vs : List V} {ds : List PyData}, DqAll H vs ds → NdAll ds → DpAll K H vs ds
  | _, _, .nil, _ => .nil
  | _, _, .cons h t, n => .cons (dp_of h (by cases n; assumption)) (dpAll_of t (by cases n; assumption))
end
theorem nd_seat (x : Seat) : Nd (seatD x) := .tup (.cons (.str _) (.cons (.int _) .nil))
theorem sh_seat {x : Seat} (h : isNameS x.1 = true) : SeqAt.shaped (seatD x) = true := lay_shaped (by simp [seatD, PyData.canLay0, PyData.canLayAll0, name_ok h]) (by simp [seatD, PyData.depth, PyData.depthAll])
theorem sh_seats {ss : List Seat} (hs : ∀ x ∈ ss, isNameS x.1 = true) : SeqAt.shaped (.list (ss.map seatD)) = true := by
  refine lay_shaped ?_ ?_
  · rw [PyData.canLay0]
    refine lay_all fun d hd => ?_
    obtain ⟨x, hx, rfl⟩ := List.mem_map.mp hd
    simp [seatD, PyData.canLay0, PyData.canLayAll0, name_ok (hs x hx)]
  · have := dep_all (n := 4) (ds := ss.map seatD) fun d hd => by
      obtain ⟨x, _, rfl⟩ := List.mem_map.mp hd
      simp [seatD, PyData.depth, PyData.depthAll]
    simp only [PyData.depth]
    omega
theorem seats_named {W : Wd} (g : GW W) {x : Seat} (h : x ∈ seatsOf W.ks) : isNameS x.1 = true := by
  obtain ⟨k, hk, e⟩ := List.mem_map.mp (seats_in h)
  rw [← e]
  exact g.gs.nm k hk
theorem beq_dec {a b : Str} : (a == b) = decide (a = b) := by
  rw [Bool.eq_iff_iff]
  simp
theorem beqI_dec {i j : Nat} : ((i : Int) == (j : Int)) = decide (i = j) := by
  rw [Bool.eq_iff_iff]
  simp
  omega
theorem seat_eqv (x y : Seat) : (seatD x).eqv (seatD y) = decide (x = y) := by
  obtain ⟨a, i⟩ := x
  obtain ⟨b, j⟩ := y
  simp [seatD, PyData.eqv, PyData.eqvAll, beq_dec, beqI_dec]
theorem armVm {a : Arm} : atI (armV a) (-1) = some (.int (a.2 : Int)) := by
  obtain ⟨o, g⟩ := a
  cases o <;> rfl
/-- the word that is not else: what _law_left makes of it -/
theorem left_mk {W : Wd} {s : Sd} {t : Stp} {H : Hp} {db r : Addr} {va : V} {ps : List (Str × Int)} {vs : List V} {Q : V → Hp → Prop} (g : GW W) (gs : GSd W s) (c : Can W s t) (hvs : vs = [.ref db, va, .ref r]) (hdb : H db = some (.dK (kvI ps))) (hva : Dq H va (ctD (W.ns.map s.st))) (hr : H r = some (.tup (armV (W.arm t))))
    (p3 : ps.length ≤ 3) (hperm : W.ns.Perm (ps.map (·.1))) (hso : sortedS W.ns = true) (hbd : W.bd = bdOf ps) (go : ∀ (v : V) (H' : Hp), Ext H H' → Dq H' v (ctD (W.ns.map (W.moved s.st (W.arm t)))) → Q v H') {E : XK} : spLeft vs H Q E := by
  rcases c.op with ho | ho
  · cases hp : (W.arm t).1 with
    | none =>
      unfold openB at ho
      rw [hp] at ho
      cases ho
    | some pr =>
      left
      obtain ⟨j, hj, ej⟩ := List.getElem_of_mem (c.la pr hp)
      have ga := c.ga.1
      have hw : pr.1 ∈ words4 ∧ isNameS pr.2 = true := by
        unfold GArm at ga
        rw [hp] at ga
        exact ga
      unfold openB at ho
      rw [hp] at ho
      obtain ⟨s2, hs2⟩ := Option.isSome_iff_exists.mp ho
      have h1' : H r = some (.tup [.str pr.1, .str W.ns[j], .int ((W.arm t).2 : Int)]) := by
        rw [hr, ej]
        generalize W.arm t = a at hp
        obtain ⟨o, gg⟩ := a
        cases hp
        rfl
      have hbd' : bdOf ps W.ns[j] = W.bd pr.2 := by rw [ej, hbd]
      refine ⟨db, r, va, _, ps, W.ns, s.st, pr.1, j, hj, s2, hvs, hdb, hva, h1', p3, hperm, g.nd, hso, hw.1, ?_, ?_, fun v H' e hv => go v H' e ?_⟩
      · rw [← hbd]
        exact gs.st _ (List.getElem_mem hj)
      · rw [hbd', ej]
        exact hs2
      · rw [moved_set g.nd hj ej hp hs2] at hv
        exact hv
  · right
    have h1' : H r = some (.tup [.str "else", .int ((W.arm t).2 : Int)]) := by
      rw [hr]
      generalize W.arm t = a at ho
      obtain ⟨o, gg⟩ := a
      cases ho
      rfl
    refine ⟨db, r, va, _, hvs, h1', go va H (Ext.refl H) ?_⟩
    rw [moved_no ho]
    exact hva
section
variable {P : Program} {w : World} {K : PySem.W.Frag} {mg : Str → Option Value} {base : Heap} {C CP S : Addr}
/-! ### _law_after -/
def spLAf : Sp := fun vs H Q _ => ∃ (m : Addr) (W : Wd) (v u : V) (s : Sd) (t : Stp), vs = [.ref m, v, u] ∧ MdlW H m W ∧ Dq H v (stgD (s.std W.ns)) ∧ GSd W s ∧ Dq H u (stpD t) ∧ t ∈ W.steps s ∧
  ∀ (r : V) (H' : Hp), Ext H H' → Dq H' r (stgD ((W.after s t).std W.ns)) → Q r H'
abbrev s__law_after : Stmt := (topS 65)
theorem sc_laf : FnScope ["_law_model_here", "_law_standing", "_law_step", "_law_who", "_law_place", "_law_index", "_law_arm_here", "_law_content", "_law_counts", "_law_seats_here"] ["_law_model_here", "_law_standing", "_law_step"] (defScope s__law_after) := ⟨rfl, rfl, rfl, by decide +kernel, rfl, by decide +kernel, by decide +kernel⟩
theorem ok_laf {f : Addr} {fd : FuncData} (F : Fun K "_law_after" "_law_after" s__law_after f fd) (T : BT mg)
    (CSe : Ca P w K mg base 1 "_law_seats" ["_law_model_here"] spSeats) (CRo : Ca P w K mg base 1 "_law_rows" ["_law_model_here", "_law_who"] spRo) (CLe : Ca P w K mg base 1 "_law_left" ["_law_bounds_here", "_law_content", "_law_arm_here"] spLeft) :
    FnOk P w K mg base CX0 2 f fd ["_law_model_here", "_law_standing", "_law_step"] spLAf := by
  refine F.ok sc_laf (fun vs H Q E h => ?_) (fun cdv A outer s0 H vs Q E hr h => ?_)
  · obtain ⟨m, W, v, u, s, t, rfl, _⟩ := h
    rfl
  · obtain ⟨m, W, v, u, s, t, rfl, hW, hv, gs, hu, hstep, q⟩ := h
    have hu65 : (A.deeper (envOfC "_law_after" (defScope s__law_after) s0.heap.objs.size f cdv)).units + 65 < cLine := by have := hr.un; omega
    refine ⟨_, (pss_cons (ps_asg (pv 2) (pg_tup (by rfl) (pgs_cons (pg_name (i := 3) sc_laf.nd rfl (.inl rfl)) (pgs_cons (pg_name (i := 4) sc_laf.nd rfl (.inl rfl)) (pgs_cons (pg_name (i := 5) sc_laf.nd rfl (.inl rfl)) pgs_nil)))))
      (pss_cons (ps_set (i := 6) sc_laf.nd rfl (.inl rfl) (pe_ix ix_tup (pe_ix ix_tup (pe_ix ix_list (pe_ca CRo (hr.mono (by decide)) (by rfl) (pa_cons (pv 0) (pa_cons (pv 3) pa_nil))) (pv 4) (fun _ _ => rfl)) pe_int (fun _ _ => rfl)) (pv 5) (fun _ _ => rfl)))
      (pss_cons (ps_set (i := 7) sc_laf.nd rfl (.inl rfl) (pe_ca CLe (hr.mono (by decide)) (by rfl) (pa_cons (pe_dget (hu_of hr) (pv 0) pe_str (fun _ _ => rfl)) (pa_cons (pe_ix ix_tup (pv 1) pe_int (fun _ _ => rfl)) (pa_cons (pv 6) pa_nil)))))
      (pss_cons (ps_if (pt_cmpR op_eq (pv 3) pe_str (nomark _)) (pss_one (ps_ret (pe_tup (pa_cons (pe_ix ix_tup (pv 6) (pe_un un_neg pe_int) (fun _ _ => rfl)) (pa_cons (pv 7) (pa_cons (pe_ix ix_tup (pv 1) pe_int (fun _ _ => rfl)) pa_nil)))))) pss_nil)
      (pss_cons (ps_par (i := 8) (j := 9) rfl sc_laf.nd rfl rfl (by decide) rfl rfl (pa_cons (pe_callTy call_list_of (by rfl) T.n_list (by decide +kernel) (pa_cons (pe_ix ix_tup (pv 1) pe_int (fun _ _ => rfl)) pa_nil)) (pa_cons (pe_ca CSe (hr.mono (by decide)) (by rfl) (pa_cons (pv 0) pa_nil)) pa_nil)) (by rfl))
      (pss_cons (ps_if (pt_cmpR op_gt (pv 4) pe_int (nomark _)) (pss_one (ps_augS (pv 8) (pe_bm PySem.F.plainAttrs_list PySem.F.slot_list_index PySem.F.type_list_index (mt_indexD hu65) (pv 9) (pa_cons (pe_tup (pa_cons (pv 3) (pa_cons (pv 4) pa_nil))) pa_nil)) get_list pe_int ip_sub set_list)) pss_nil)
      (pss_cons (ps_if (pt_cmpR op_gt (pe_ix ix_tup (pv 6) (pe_un un_neg pe_int) (fun _ _ => rfl)) pe_int (nomark _)) (pss_one (ps_augS (pv 8) (pe_bm PySem.F.plainAttrs_list PySem.F.slot_list_index PySem.F.type_list_index (mt_indexD hu65) (pv 9) (pa_cons (pe_tup (pa_cons (pv 3) (pa_cons (pe_ix ix_tup (pv 6) (pe_un un_neg pe_int) (fun _ _ => rfl)) pa_nil))) pa_nil)) get_list pe_int ip_add set_list)) pss_nil)
      (pss_one (ps_ret (pe_tup (pa_cons (pe_ix ix_tup (pv 1) pe_int (fun _ _ => rfl)) (pa_cons (pv 7) (pa_cons (pe_callTy call_tuple_of (by rfl) T.n_tuple (by decide +kernel) (pa_cons (pv 8) pa_nil)) pa_nil))))))))))))), ?_⟩
    have gw := hW.gw
    have c := can_of gw gs hstep
    have clt := c.lt
    have cli := c.li
    obtain ⟨g, ps, kx, hM, hG, g3, hkp, hks, hperm, hso, hbd⟩ := id hW
    obtain ⟨db, sl, dk, at_, hm, hdb, hsl, hdk, hkl, nmk, nbk⟩ := id hM
    obtain ⟨b, rfl, hb⟩ := stp_inv hu
    obtain ⟨a, va, vc, ys0, rfl, v1, v2, v3, v4⟩ := stg_inv hv
    have l15 := seats60 gw
    refine ⟨_, rfl, b, _, rfl, SqT.of hb, rfl, _, _, rfl, _, _, rfl, _, _, rfl, rfl, ?_⟩
    refine ⟨_, rfl, _, rfl, m, W, t.who, rfl, hW, there_kind gw c.th, fun lr xr hlr hxr => ?_⟩
    obtain ⟨vr, hvr, dvr⟩ := DqAll_get hxr t.pl (placeD (W.rows t.who)[t.pl]) (by rw [List.getElem?_map, List.getElem?_eq_getElem c.lt]; rfl)
    obtain ⟨ra, t2, zs, rfl, hra, ht2, hzs⟩ := place_inv dvr
    obtain ⟨vx, hvx, dvx⟩ := DqAll_get hzs t.ix (armD (W.arm t)) (by rw [List.getElem?_map, List.getElem?_eq_getElem c.li, c.ar]; rfl)
    obtain ⟨r, rfl, hr1⟩ := arm_tup dvx
    refine ⟨_, rfl, lr, _, _, _, rfl, rfl, SqL.of hlr, atI_nat hvr, ra, _, 1, _, rfl, rfl, SqT.of hra, rfl, _, rfl, t2, zs, _, _, rfl, rfl, SqT.of ht2, atI_nat hvx, ?_⟩
    refine ⟨_, rfl, m, _, rfl, get_b hm, _, rfl, a, _, 1, _, rfl, rfl, SqT.of v1, rfl, _, rfl, ?_⟩
    refine left_mk (E := E0) gw gs c rfl hdb (.tup v2 v3) hr1 hG.p3 hperm hso hbd fun vn H1 e1 hn => ?_
    obtain ⟨rd, ws, rfl, d1, d2, _⟩ := ct_inv hn
    have hr2 := e1 _ _ hr1
    refine ⟨_, rfl, rfl, _, rfl, ?_⟩
    refine ite2 (fun e => ?_) (fun e => ?_)
    · have e' := dec_word.mp e
      refine ⟨_, rfl, _, rfl, r, _, -1, _, rfl, rfl, SqT.of hr2, armVm, _, rfl, _, rfl, a, _, 2, _, rfl, rfl, SqT.of (e1 _ _ v1), rfl, by show 3 ≤ sizeLine; decide, fun mm hmm => ?_⟩
      have e8 := Ext.new (o := .tup [.int ((W.arm t).2 : Int), .ref rd, .ref vc]) hmm
      refine q _ _ (e1.trans e8) ?_
      unfold Wd.after
      rw [if_pos e']
      exact stg_mk (a := mm) (b := rd) (c := vc) upd_same (e8 _ _ d1) (DqAll.up e8 d2) ((e1.trans e8) _ _ v4)
    · have ne : t.who ≠ "" := fun z => e (dec_word.mpr z)
      have hl : s.ct.length = (seatsOf W.ks).length := gs.ct
      refine ⟨_, rfl, a, _, 2, _, rfl, rfl, SqT.of (e1 _ _ v1), rfl, vc, _, rfl, .inr (SqT.of (e1 _ _ v4)), fun cl hcl => ?_⟩
      have ec := Ext.new (o := .lst (cV (s.std W.ns).ct)) hcl
      have c2 := upd_same (H := H1) (a := cl) (o := HO.lst (cV (s.std W.ns).ct))
      generalize upd H1 cl (.lst (cV (s.std W.ns).ct)) = H2 at ec c2 ⊢
      refine ⟨_, rfl, m, g, ps, W.sv, kx, W.ks, rfl, hM.up (e1.trans ec), hG, hkp, hks, fun ls ls1 H3 hls e3 h3s hw => ?_⟩
      have c3 := e3 _ _ c2
      have w3 : DqAll (del H3 cl) ls1 ((seatsOf W.ks).map seatD) := DqAll.offl c3 (DqAll.up del_ext hw) (NlAll.of fun d hd => by
        obtain ⟨x, _, rfl⟩ := List.mem_map.mp hd
        exact .tup (.cons (.str _) (.cons (.int _) .nil)))
      have nlc : ls ≠ cl := fun z => by rw [z, c2] at hls; cases hls
      have eB : Ext H1 (del H3 cl) := ext_to (ec.trans e3) hcl
      have s3 : (del H3 cl) ls = some (.lst ls1) := by rw [del_ne nlc]; exact h3s
      have hnd := seats_nodup gw.gs.nd
      -- a seat's place in the list
      have idx : ∀ (x : Seat) (H' : Hp) (tx : Addr), x ∈ seatsOf W.ks → Ext (del H3 cl) H' → H' tx = some (.tup [.str x.1, .int (x.2 : Int)]) →
          Dp K H' (.ref ls) (.list ((seatsOf W.ks).map seatD)) ∧ Dp K H' (.ref tx) (seatD x) ∧ SeqAt.shaped (.list ((seatsOf W.ks).map seatD)) = true ∧ SeqAt.shaped (seatD x) = true ∧ ((seatsOf W.ks).map seatD)[W.spot x]? = some (seatD x) ∧ (seatD x).eqv (seatD x) = true ∧
          (∀ (m' : Nat) (z' : PyData), m' < W.spot x → ((seatsOf W.ks).map seatD)[m']? = some z' → z'.eqv (seatD x) = false) ∧ W.spot x < (seatsOf W.ks).length := by
        intro x H' tx hx eH htx
        obtain ⟨hi, ei⟩ := spot_at hx
        refine ⟨dp_of (.lst (eH _ _ s3) (DqAll.up eH w3)) (.lst (nd_seats _)), dp_of (.tup htx (.cons (.str _) (.cons (.int _) .nil))) (nd_seat x), sh_seats fun y hy => seats_named gw hy, sh_seat (seats_named gw hx), ?_, by rw [seat_eqv]; exact decide_eq_true rfl, fun m' z' hm' hz' => ?_, hi⟩
        · show ((seatsOf W.ks).map seatD)[(seatsOf W.ks).idxOf x]? = _
          rw [List.getElem?_map, List.getElem?_eq_getElem hi]
          exact congrArg (fun z => some (seatD z)) ei
        · have hm2 : m' < W.spot x := hm'
          have hm3 : m' < (seatsOf W.ks).length := Nat.lt_trans hm2 hi
          rw [List.getElem?_map, List.getElem?_eq_getElem hm3] at hz'
          cases hz'
          rw [seat_eqv]
          refine decide_eq_false fun z => ?_
          have : (seatsOf W.ks).idxOf (seatsOf W.ks)[m'] = m' := List.Nodup.idxOf_getElem hnd m' hm3
          rw [z] at this
          exact absurd this (Nat.ne_of_gt hm2)
      refine ⟨_, _, rfl, ?_⟩
      dsimp only
      refine cutN (fun σ' H' => σ' = [some (.ref m), some (.ref a), some (.ref b), some (.str t.who), some (.int (t.pl : Int)), some (.int (t.ix : Int)), some (.ref r), some (.ref rd), some (.ref cl), some (.ref ls)] ∧ Ext (del H3 cl) H' ∧ H' cl = some (.lst (cV (W.recnt s.ct t.who t.pl (· - 1))))) (fun N hN => ?_) ?_
      · refine ⟨_, rfl, _, _, rfl, rfl, _, rfl, ?_⟩
        refine ite2 (fun g0 => ?_) (fun g0 => ?_)
        · have p0 : t.pl ≠ 0 := fun z => by rw [z] at g0; simp at g0
          obtain ⟨hs, hc⟩ := (there_seat gw c.th ne).resolve_left p0
          refine ⟨_, rfl, _, rfl, .inl ⟨rfl, _, SqL.of h3s⟩, _, rfl, _, rfl, by show 2 ≤ sizeLine; decide, fun tx htx => ?_⟩
          have et := Ext.new (o := .tup [.str t.who, .int (t.pl : Int)]) htx
          have c4 := et _ _ c3
          have ntc : tx ≠ cl := fun z => by rw [z, c3] at htx; cases htx
          have eb4 : Ext (del H3 cl) (upd H3 tx (.tup [.str t.who, .int (t.pl : Int)])) := del_ext.trans et
          have tx4 := upd_same (H := H3) (a := tx) (o := HO.tup [.str t.who, .int (t.pl : Int)])
          generalize upd H3 tx (.tup [.str t.who, .int (t.pl : Int)]) = H4 at c4 eb4 tx4 ⊢
          obtain ⟨i1, i2, i3, i4, i5, i6, i7, hi⟩ := idx (t.who, t.pl) H4 tx hs eb4 tx4
          have hi2 : W.spot (t.who, t.pl) < s.ct.length := by rw [hl]; exact hi
          refine ⟨ls, .ref tx, _, _, _, _, rfl, rfl, i1, i2, i3, i4, i5, i6, i7, ?_⟩
          refine ⟨cl, _, W.spot (t.who, t.pl), _, rfl, rfl, SqL.of c4, cV_get (ct := (s.std W.ns).ct) hi2, _, _, rfl, rfl, cl, _, _, W.spot (t.who, t.pl), rfl, rfl, c4, ixN_at (by rw [List.length_map]; exact hi2), ?_⟩
          refine hN _ _ ⟨rfl, Ext.mut eb4 del_same, ?_⟩
          rw [upd_same]
          unfold Wd.recnt
          rw [if_neg p0]
          have ecx : s.ct.getD (W.spot (t.who, t.pl)) 0 = s.ct[W.spot (t.who, t.pl)] := by rw [List.getD_eq_getElem?_getD, List.getElem?_eq_getElem hi2]; rfl
          unfold Wd.cnt at hc ⊢
          rw [ecx] at hc ⊢
          have ev : V.int (((s.ct[W.spot (t.who, t.pl)] : Nat) : Int) - 1) = V.int ((s.ct[W.spot (t.who, t.pl)] - 1 : Nat) : Int) := by
            congr 1
            omega
          refine (congrArg (fun z => some (HO.lst ((cV s.ct).set (W.spot (t.who, t.pl)) z))) ev).trans ?_
          exact congrArg (fun z => some (HO.lst z)) (List.map_set (f := fun n : Nat => V.int (n : Int))).symm
        · have p0 : t.pl = 0 := by
            have : ¬ ((0 : Int) < (t.pl : Int)) := fun z => g0 (decide_eq_true z)
            omega
          refine hN _ _ ⟨rfl, del_ext, ?_⟩
          rw [c3]
          unfold Wd.recnt
          rw [if_pos p0]
          rfl
      rintro σ' H4 ⟨rfl, e4, c4⟩
      have e14 := eB.trans e4
      have r4 := e14 _ _ hr2
      have hl1 : (W.recnt s.ct t.who t.pl (· - 1)).length = (seatsOf W.ks).length := by rw [recnt_len]; exact hl
      generalize hct1 : W.recnt s.ct t.who t.pl (· - 1) = ct1 at c4 hl1
      refine cutN (fun σ' H' => σ' = [some (.ref m), some (.ref a), some (.ref b), some (.str t.who), some (.int (t.pl : Int)), some (.int (t.ix : Int)), some (.ref r), some (.ref rd), some (.ref cl), some (.ref ls)] ∧ Ext (del H3 cl) H' ∧ H' cl = some (.lst (cV (W.recnt ct1 t.who (W.arm t).2 (· + 1))))) (fun N hN => ?_) ?_
      · refine ⟨_, rfl, _, rfl, r, _, -1, _, rfl, rfl, SqT.of r4, armVm, _, _, rfl, rfl, _, rfl, ?_⟩
        refine ite2 (fun g0 => ?_) (fun g0 => ?_)
        · have p0 : (W.arm t).2 ≠ 0 := fun z => by rw [z] at g0; simp at g0
          have hs := (goal_seat gw c.th ne c.ga.2).resolve_left p0
          refine ⟨_, rfl, _, rfl, .inl ⟨rfl, _, SqL.of (e4 _ _ s3)⟩, _, rfl, _, rfl, _, rfl, r, _, -1, _, rfl, rfl, SqT.of r4, armVm, by show 2 ≤ sizeLine; decide, fun tx htx => ?_⟩
          have et := Ext.new (o := .tup [.str t.who, .int ((W.arm t).2 : Int)]) htx
          have c5 := et _ _ c4
          have ntc : tx ≠ cl := fun z => by rw [z, c4] at htx; cases htx
          have eb5 : Ext (del H3 cl) (upd H4 tx (.tup [.str t.who, .int ((W.arm t).2 : Int)])) := e4.trans et
          have tx5 := upd_same (H := H4) (a := tx) (o := HO.tup [.str t.who, .int ((W.arm t).2 : Int)])
          generalize upd H4 tx (.tup [.str t.who, .int ((W.arm t).2 : Int)]) = H5 at c5 eb5 tx5 ⊢
          obtain ⟨i1, i2, i3, i4, i5, i6, i7, hi⟩ := idx (t.who, (W.arm t).2) H5 tx hs eb5 tx5
          have hi2 : W.spot (t.who, (W.arm t).2) < ct1.length := by rw [hl1]; exact hi
          refine ⟨ls, .ref tx, _, _, _, _, rfl, rfl, i1, i2, i3, i4, i5, i6, i7, ?_⟩
          refine ⟨cl, _, W.spot (t.who, (W.arm t).2), _, rfl, rfl, SqL.of c5, cV_get hi2, _, _, rfl, rfl, cl, _, _, W.spot (t.who, (W.arm t).2), rfl, rfl, c5, ixN_at (by rw [List.length_map]; exact hi2), ?_⟩
          refine hN _ _ ⟨rfl, Ext.mut eb5 del_same, ?_⟩
          rw [upd_same]
          unfold Wd.recnt
          rw [if_neg p0]
          have ecx : ct1.getD (W.spot (t.who, (W.arm t).2)) 0 = ct1[W.spot (t.who, (W.arm t).2)] := by rw [List.getD_eq_getElem?_getD, List.getElem?_eq_getElem hi2]; rfl
          unfold Wd.cnt
          rw [ecx]
          exact congrArg (fun z => some (HO.lst z)) (List.map_set (f := fun n : Nat => V.int (n : Int))).symm
        · have p0 : (W.arm t).2 = 0 := by
            have : ¬ ((0 : Int) < ((W.arm t).2 : Int)) := fun z => g0 (decide_eq_true z)
            omega
          refine hN _ _ ⟨rfl, e4, ?_⟩
          rw [c4]
          unfold Wd.recnt
          rw [if_pos p0]
      rintro σ' H5 ⟨rfl, e5, c5⟩
      have e15 := eB.trans e5
      have e05 := e1.trans e15
      refine ⟨_, rfl, a, _, 0, _, rfl, rfl, SqT.of (e05 _ _ v1), rfl, _, rfl, _, rfl, cl, _, rfl, .inl ⟨SqL.of c5, fun tc htc => ?_⟩⟩
      have e6 := Ext.new (o := .tup (cV (W.recnt ct1 t.who (W.arm t).2 (· + 1)))) htc
      refine ⟨by show 3 ≤ sizeLine; decide, fun mm hmm => ?_⟩
      have e7 := Ext.new (o := .tup [.int ((s.std W.ns).pl : Int), .ref rd, .ref tc]) hmm
      have e17 := e15.trans (e6.trans e7)
      refine q _ _ (e1.trans e17) ?_
      unfold Wd.after
      rw [if_neg ne, hct1]
      exact stg_mk (a := mm) (b := rd) (c := tc) upd_same (e17 _ _ d1) (DqAll.up e17 d2) (e7 _ _ upd_same)
end
end K41

set_option Elab.async false
set_option linter.all false
set_option maxRecDepth 100000
set_option maxHeartbeats 4000000
namespace K41
open PySem PySem.Spec PyProof.Rows L2 Ol RZ
open TL (tl)
section
variable {P : Program} {w : World} {K : PySem.W.Frag} {mg : Str → Option Value} {base : Heap} {C CP S : Addr}
/-! ### _law_run -/
def spLRun : Sp := fun vs H Q _ => ∃ (a m : Addr) (n : Nat) (W : Wd), vs = [.ref a, .ref m, .int (n : Int)] ∧ Bag H a ∧ Sys H ∧ MdlW H m W ∧ n ≤ 40 ∧
  ∀ (l : Addr) (ys : List V) (ts : List Stp) (H' : Hp), H l = none → Ext H H' → H' l = some (.lst ys) → DqAll (del H' l) ys (ts.map stpD) → RunOk W W.first ts → ts.length ≤ n → Q (.ref l) H'
abbrev s__law_run : Stmt := (topS 66)
abbrev nLRun : List Str := ["_law_bag_here", "_law_model_here", "_law_many", "_law_standing", "_law_found", "_law_turn", "_law_steps_here"]
theorem sc_lrun : FnScope nLRun ["_law_bag_here", "_law_model_here", "_law_many"] (defScope s__law_run) := ⟨rfl, rfl, rfl, by decide +kernel, rfl, by decide +kernel, by decide +kernel⟩
theorem ok_lrun {f : Addr} {fd : FuncData} (F : Fun K "_law_run" "_law_run" s__law_run f fd) (T : BT mg) (CT : Ca P w K mg base 1 "_law_take" ["_law_bag_here", "_law_many"] spTake)
    (CFi : Ca P w K mg base 2 "_law_first" ["_law_model_here"] spFi) (CSt : Ca P w K mg base 3 "_law_steps" ["_law_model_here", "_law_standing"] spLSt) (CAf : Ca P w K mg base 2 "_law_after" ["_law_model_here", "_law_standing", "_law_step"] spLAf) :
    FnOk P w K mg base CX0 4 f fd ["_law_bag_here", "_law_model_here", "_law_many"] spLRun := by
  refine F.ok sc_lrun (fun vs H Q E h => ?_) (fun cdv A outer s0 H vs Q E hr h => ?_)
  · obtain ⟨a, m, n, W, rfl, _⟩ := h
    rfl
  · obtain ⟨a, m, n, W, rfl, hB, hSy, hW, n40, q⟩ := h
    refine ⟨_, (pss_cons (ps_par (i := 3) (j := 4) rfl sc_lrun.nd rfl rfl (by decide) rfl rfl (pa_cons (pe_ca CFi (hr.mono (by decide)) (by rfl) (pa_cons (pv 1) pa_nil)) (pa_cons (pe_lst pa_nil) pa_nil)) (by rfl))
    (pss_cons (ps_for PassesOwn.never rfl (pi_range1 (by rfl) T.n_range (pa_cons (pv 2) pa_nil)) (pg_name (i := 5) sc_lrun.nd rfl (.inl rfl))
      (pss_cons (ps_set (i := 6) sc_lrun.nd rfl (.inl rfl) (pe_ca CSt (hr.mono (by decide)) (by rfl) (pa_cons (pv 1) (pa_cons (pv 3) pa_nil))))
      (pss_one (ps_if (pt_cmpR (op_neE hr) (pv 6) (pe_lst pa_nil) (nomark _))
        (pss_cons (ps_expr (pe_bm PySem.F.plainAttrs_list PySem.F.slot_list_append PySem.F.type_list_append mt_append (pv 4) (pa_cons (pe_ix ix_list (pv 6) (pe_ca CT (hr.mono (by decide)) (by rfl) (pa_cons (pv 0) (pa_cons (pe_callB call_len_seq (by rfl) T.n_len (by decide +kernel) (pa_cons (pv 6) pa_nil)) pa_nil))) (fun _ _ => rfl)) pa_nil)))
        (pss_one (ps_set (i := 3) sc_lrun.nd rfl (.inl rfl) (pe_ca CAf (hr.mono (by decide)) (by rfl) (pa_cons (pv 1) (pa_cons (pv 3) (pa_cons (pe_ix ix_list (pv 4) (pe_un un_neg pe_int) (fun _ _ => rfl)) pa_nil)))))))
        pss_nil))))
    (pss_one (ps_ret (pv 4))))), ?_⟩
    have gw := hW.gw
    have gf := first_good hW
    refine ⟨_, rfl, m, W, rfl, hW, fun v0 H1 e1 hv1 => ?_⟩
    refine ⟨by show 0 ≤ sizeLine; decide, fun F0 hF => ?_⟩
    have e2 := Ext.new (o := .lst []) hF
    have f2 := upd_same (H := H1) (a := F0) (o := HO.lst [])
    have eB : Ext H1 (del (upd H1 F0 (.lst [])) F0) := ext_to e2 hF
    generalize upd H1 F0 (.lst []) = H2 at e2 f2 eB ⊢
    have eH : Ext H (del H2 F0) := e1.trans eB
    have hF0 : H F0 = none := e1.free hF
    refine ⟨_, _, rfl, ?_⟩
    dsimp only
    refine ⟨_, rfl, _, rfl, by omega, by omega, ?_⟩
    rw [Int.toNat_natCast]
    refine for_it walk_range (fun i σ H' => ∃ v5 v6 vs zs ts, σ = [some (.ref a), some (.ref m), some (.int (n : Int)), some vs, some (.ref F0), v5, v6] ∧ Ext (del H2 F0) H' ∧ H' F0 = some (.lst zs) ∧ DqAll (del H' F0) zs (ts.map stpD) ∧ RunOk W W.first ts ∧ ts.length ≤ i ∧ Dq (del H' F0) vs (stgD ((last W W.first ts).std W.ns)))
      ⟨none, none, v0, [], [], rfl, del_ext, f2, .nil, trivial, Nat.le_refl _, hv1.up eB⟩ (fun _ _ _ _ _ => trivial) ?_ ?_
    · rintro i x σ H4 H3 hi ⟨v5, v6, vs, zs, ts, rfl, e3, h3F, h3z, ro, lt, h3v⟩ ⟨rfl, rfl⟩
      have e03 := eH.trans e3
      have gsl := run_good gw gf ro
      have v3 : Dq H3 vs (stgD ((last W W.first ts).std W.ns)) := h3v.up del_ext
      refine ⟨_, rfl, _, rfl, m, W, vs, last W W.first ts, rfl, sysUp hSy e03, hW.up e03, v3, gsl, fun l ys H5 hl e5 h5l hys => ?_⟩
      have h5F := e5 _ _ h3F
      have e35 := e3.trans e5
      have e05 := e03.trans e5
      have nlF : l ≠ F0 := fun z => by rw [z, h3F] at hl; cases hl
      have y5 : DqAll H5 ys ((W.steps (last W W.first ts)).map stpD) := DqAll.up del_ext hys
      have lys : ys.length = (W.steps (last W W.first ts)).length := by rw [y5.len, List.length_map]
      have s100 := steps_len gw gsl
      have d5v : Dq (del H5 F0) vs (stgD ((last W W.first ts).std W.ns)) := h3v.up (ext_del e5)
      have d5z : DqAll (del H5 F0) zs (ts.map stpD) := DqAll.up (ext_del e5) h3z
      refine ⟨_, rfl, by show 0 ≤ sizeLine; decide, fun p hp => ?_⟩
      have e6 := Ext.new (o := .lst []) hp
      refine ⟨l, p, _, rfl, rfl, SqL.of (e6 _ _ h5l), SqL.of upd_same, _, rfl, ?_⟩
      have h6F := e6 _ _ h5F
      have h6l := e6 _ _ h5l
      have y6 := DqAll.up e6 y5
      have d6v : Dq (del (upd H5 p (.lst [])) F0) vs (stgD ((last W W.first ts).std W.ns)) := d5v.up (ext_del e6)
      have d6z : DqAll (del (upd H5 p (.lst [])) F0) zs (ts.map stpD) := DqAll.up (ext_del e6) d5z
      have e26 := e35.trans e6
      have e06 := e05.trans e6
      generalize upd H5 p (.lst []) = H6 at h6F h6l y6 d6v d6z e26 e06 ⊢
      cases ys with
      | nil =>
        refine iteF ?_
        exact ⟨_, _, _, _, _, rfl, e26, h6F, d6z, ro, Nat.le_succ_of_le lt, d6v⟩
      | cons y0 ys =>
        refine iteT ?_
        refine ⟨_, rfl, .inl ⟨rfl, _, SqL.of h6F⟩, _, rfl, _, rfl, _, rfl, l, _, rfl, .inl (SqL.of h6l), a, _, rfl, hB.up e06, by rw [List.length_cons]; omega, by rw [lys]; omega, fun r r0 r1 => ?_⟩
        obtain ⟨j, rfl⟩ : ∃ j : Nat, r = (j : Int) := ⟨r.toNat, by omega⟩
        have hj : j < (W.steps (last W W.first ts)).length := by rw [← lys]; omega
        obtain ⟨yv, hyv, dyv⟩ := DqAll_get y6 j (stpD (W.steps (last W W.first ts))[j]) (by rw [List.getElem?_map, List.getElem?_eq_getElem hj]; rfl)
        have lz : zs.length = ts.length := by rw [d6z.len, List.length_map]
        refine ⟨l, _, _, _, rfl, rfl, SqL.of h6l, atI_nat hyv, F0, zs, _, rfl, rfl, h6F, by rw [lz]; exact Nat.lt_of_le_of_lt (show _ ≤ 40 by omega) (by decide), ?_⟩
        have e7 : Ext (del H2 F0) (upd H6 F0 (.lst (zs ++ [yv]))) := Ext.mut e26 del_same
        have f7 := upd_same (H := H6) (a := F0) (o := HO.lst (zs ++ [yv]))
        have x7 : del (upd H6 F0 (.lst (zs ++ [yv]))) F0 = del H6 F0 := del_upd
        have dyF : Dq (del H6 F0) yv (stpD (W.steps (last W W.first ts))[j]) := Dq.offl h6F dyv (nl_stp _)
        generalize upd H6 F0 (.lst (zs ++ [yv])) = H7 at e7 f7 x7 ⊢
        have e07 := eH.trans e7
        have mem := List.getElem_mem hj
        rw [← x7] at d6v d6z dyF
        refine ⟨_, rfl, _, rfl, _, rfl, _, rfl, F0, _, _, _, rfl, rfl, SqL.of f7, atI_last (n := zs.length) (x := yv) (by rw [List.length_append]; rfl) (by simp), ?_⟩
        refine ⟨m, W, vs, yv, last W W.first ts, (W.steps (last W W.first ts))[j], rfl, hW.up e07, d6v.up del_ext, gsl, dyF.up del_ext, mem, fun r8 H8 e8 hr8 => ?_⟩
        have h8F := e8 _ _ f7
        refine ⟨_, _, r8, _, ts ++ [(W.steps (last W W.first ts))[j]], rfl, e7.trans e8, h8F, ?_, run_snoc ro mem, by rw [List.length_append]; simp; omega, ?_⟩
        · rw [List.map_append]
          exact dq_app (DqAll.up (ext_del e8) d6z) (.cons (dyF.up (ext_del e8)) .nil)
        · rw [last_snoc]
          exact Dq.offl h8F hr8 (nl_stg _)
    · rintro σ H3 ⟨v5, v6, vs, zs, ts, rfl, e3, h3F, h3z, ro, lt, h3v⟩
      exact ⟨_, rfl, q F0 zs ts H3 hF0 (eH.trans e3) h3F h3z ro lt⟩
end
end K41

set_option Elab.async false
set_option linter.all false
set_option maxRecDepth 100000
set_option maxHeartbeats 4000000
namespace Ol
open PySem PySem.Spec PyProof.Rows L2
/-- a class catches its own errors -/
theorem exm_same {K : PySem.W.Frag} {S : Addr} (q1 : PySem.W.subIn K (.ref S) (.type "BaseException") = some true) (q2 : PySem.W.isClsIn K S = true)
    (q3 : PySem.W.typeIn K (.ref S) = some (.type "type")) (q4 : PySem.W.subIn K (.ref S) (.ref S) = some true) : PySem.W.exmOne K (.ref S) (.ref S) = some true := by
  have q5 : (PySem.W.clsIn K S).isSome = true := q2
  unfold PySem.W.exmOne
  simp [PySem.W.kitCls, q1, q3, q4, q5]
end Ol

set_option Elab.async false
set_option linter.all false
set_option maxRecDepth 100000
set_option maxHeartbeats 4000000
namespace Ol
open PySem PySem.Spec PyProof.Rows L2
/-- isinstance(e, c): e the error with fields that the suite holds, c a class of the program -/
def rIsX (K : PySem.W.Frag) (a : Addr) (cls : Value) (d : Option Addr) : List V → Hp → VK → Prop := fun xs H Q => ∃ (D c dd : Addr) (fs : List (Str × V)) (b : Bool), xs = [.ref a, .ref c] ∧ cls = .ref D ∧ ExcC K D ∧ d = some dd ∧ H dd = some (.xd fs) ∧
  PySem.W.kitOne K (.ref D) (.ref c) = some b ∧ Q (.bl b) H
theorem call_isX {X : Cx} {a : Addr} {cls : Value} {d : Option Addr} {oe : Obj} {pn : List (Addr × Obj)} (hz : Zc cls d oe) (hf : ∃ vs, oe.data = .fields vs) : CallR (X.suite a ((a, oe) :: pn)) (.builtin "isinstance") (rIsX X.K a cls d) := by
  intro pins s σ H xs us Q I r h
  obtain ⟨D, c, dd, fs, b, rfl, rfl, T, rfl, hdd, e, q⟩ := h
  cases r with
  | cons rx rr =>
    cases rr with
    | cons rt rr =>
      cases rr
      cases rx
      cases rt
      obtain ⟨hget, _⟩ := I.pin (a, oe) (List.mem_append.mpr (.inl List.mem_cons_self))
      obtain ⟨vs, hd⟩ := hf
      have hx : ObjOk X.prog X.w H s.heap dd (.xd fs) := I.hok dd _ hdd
      obtain ⟨mA, hns, hr⟩ := hx
      obtain ⟨od, ho, hl⟩ := lookIn_ns hns
      have J : PySem.W.InstAt s.heap a oe D (some od) := ⟨hget, hz.1, by unfold PySem.W.notCls; rw [hd] <;> rfl, by rw [hz.2]; exact ho⟩
      obtain ⟨cd, hcd, _⟩ := PySem.W.any_some T.hd
      exact PySem.W.kia_one (PySem.W.kitx_exc (by rw [hcd]; rfl) T.hg T.hk T.hs T.ha T.hn T.ht T.hm) I.kIn J e (fun z => nomatch z) fun tk => ⟨.bl b, H, I.kept (t' := tk) fun _ _ z => z, rfl, q⟩
end Ol

set_option Elab.async false
set_option linter.all false
set_option maxRecDepth 100000
set_option maxHeartbeats 4000000
namespace Ol
open PySem PySem.Spec PyProof.Rows L2 HotX L2H
/-! A list comprehension over a list, while an exception is handled. -/
section
variable {prog : Program} {w : World} {A : Around} {E : Value → Shared → Prop} {sz : Shared}
theorem list_end_hot {it l x1 : Addr} {i : Nat} {items : Array Value} {Qz : Option Value → Shared → Prop} (hot : HotAt A x1 sz.heap)
    (hitz : sz.heap.IsListIter it l i) (hlz : sz.heap.IsList l items) (hxz : items[i]? = none)
    (hQz : ∀ h', Heap.ExtBut it sz.heap h' → Qz none { sz with heap := h' }) : wpAny (model prog w) A (pyNext (.ref it)) Qz E sz := by
  obtain ⟨o, hoz, hc, hd⟩ := id hitz
  obtain ⟨olz, holz, _, nlz, hdlz⟩ := hlz
  obtain ⟨hhz, o1z, vs1z, h1z, d1z, c1z⟩ := hot
  have ne : x1 ≠ it := fun z => by
    rw [z, hoz] at h1z
    cases h1z
    rw [hd] at d1z
    cases d1z
    cases c1z
  unfold pyNext
  refine wpAny_bind (wpAny_attempt (wpAny_callSpecial?_slot (name := Str.ofString "__next__") hitz.typeIs slot_listiter_next
    (wpAny_call_entry slot_listiter_next hitz.typeIs entry_listiter_next ?_ (args_listiter_next _))))
  show wpAny _ _ (field (.ref it) 0 >>= _) _ _ sz
  refine wpAny_bind (wpAny_field hoz hd (x := .ref l) rfl ?_)
  show wpAny _ _ (if (Value.ref l == Value.none) = true then _ else _) _ _ sz
  rw [if_neg (show ¬ ((Value.ref l == Value.none) = true) from Bool.false_ne_true)]
  show wpAny _ _ (field (.ref it) 1 >>= _) _ _ sz
  refine wpAny_bind (wpAny_field hoz hd (x := .int i 0) rfl ?_)
  show wpAny _ _ (seqItems? (.ref l) >>= _) _ _ sz
  refine wpAny_bind (wpAny_seqItems holz hdlz ?_)
  simp only [Int.toNat_natCast, hxz]
  refine wpAny_bind (wpAny_rule (wpAny_bind (wpAny_setField hoz hd (by simp) ?_)))
  show wpAny _ _ (newExc (.type "StopIteration") [] >>= _) _ _ _
  refine wpAny_bind ?_
  simp only [newExc, newTuple]
  refine wpAny_bind (wpAny_newObj_type ?_ (by size_fits))
  refine wpAny_bind (m := firstArgMember _ _) (wpAny_of_eq (a := Value.none) (by first | rfl | (simp only [firstArgMember]; rfl)) ?_)
  refine wpAny_newObj_type ?_ (by size_fits)
  have h2 := Heap.get?_push_of_some { cls := .type "tuple", data := .seq #[] } ((Heap.get?_update_other sz.heap (Obj.mapFields fun x => x.setIfInBounds 0 Value.none) (Ne.symm ne)).trans h1z)
  refine raiseNew_hot ⟨hhz, o1z, vs1z, Heap.get?_push_of_some _ h2, d1z, c1z⟩ (Nat.ne_of_lt (Heap.lt_size h2)) (Heap.get?_push_size _ rfl) rfl (by first | (simp; done) | (simp; omega) | (simp only [Array.size_append]; simp; omega)) ?_
  refine wpAny_bind (wpAny_isInstance (T := "StopIteration") (b := true) ⟨_, Heap.get?_update_self _ (Heap.get?_push_size _ rfl) rfl, rfl⟩ isSubtype_stop ?_)
  refine wpAny_pure (hQz _ fun b uz hb e => ?_)
  have eb := (((Heap.SameBut.update sz.heap it (Obj.mapFields fun x => x.setIfInBounds 0 Value.none)).extBut.push { cls := .type "tuple", data := .seq #[] }) b uz hb e)
  rw [Heap.get?_update_other _ _ (Nat.ne_of_gt (Heap.lt_size eb))]
  exact Heap.get?_push_of_some _ eb
end
/-! ### the block, the handled exception pinned -/
section
variable {X : Cx} {pins : List (Addr × Obj)} {σ : L2.St} {Hz : Hp} {sz : Shared}
theorem block_pin {scope : Scope} {own : List (Str × Nat)} {fp : List Addr} (Iz : Inv X pins σ Hz sz) (ok : BlkOk X.N X.env.scope scope own) (hN : X.N.Nodup) (hfp : ∀ b ∈ fp, FpOk X pins Hz b ∧ b < sz.heap.objs.size) {p : Addr × Obj} (hp : p ∈ X.pn) :
    Inv (X.blk sz Hz scope (compEnvC scope (cellsFrom (sz.heap.objs.size + 1) scope.names (cloFrom X.env.cells scope.names [])) sz.heap.objs.size X.env) fp) [p] (wipe σ (own.map (·.2))) Hz { sz with heap := pushCells (sz.heap.push { cls := .type "dict", data := .dict #[] }) scope.names } := by
  have B := block_start Iz ok hN hfp
  obtain ⟨g, fH, nlz, nf, nc⟩ := Iz.pin p (List.mem_append_left _ hp)
  refine ⟨B.ok, B.os, B.bare, B.base, B.loc, B.cell, B.free, B.freeC, fun q hq => ?_, B.hok, B.len⟩
  have e : q = p := by simpa using hq
  subst e
  refine ⟨pushCells_keeps _ _ _ _ (Heap.get?_push_of_some _ g), fH, ?_, fun z => ?_, nc⟩
  · show q.1 ≠ sz.heap.objs.size
    exact Nat.ne_of_lt (Heap.lt_size g)
  · rcases List.mem_cons.mp (Iz.stkSub q.1 z) with y | y
    · exact nlz y
    · exact nf y
/-- the handled exception, by its pin -/
theorem hot_of {A : Around} {p : Addr × Obj} (h : Hot1 A p) {X : Cx} {pins : List (Addr × Obj)} {σ : L2.St} {Hz : Hp} {sz : Shared} (Iz : Inv X pins σ Hz sz) (hp : p ∈ X.pn ++ pins) : HotAt A p.1 sz.heap := by
  obtain ⟨hhz, v1, e1, c1z⟩ := h
  exact ⟨hhz, p.2, v1, (Iz.pin p hp).1, e1, c1z⟩
/-- one more item of a list -/
theorem list_item {tg : Expr} {a it : Addr} {i : Nat} {E : Value → Shared → Prop} (Iz : Inv X pins σ Hz sz) (hf : FpOk X pins Hz it) (st : sz.heap.IsListIter it a i) (hgz : (Itl X.K a).go i Hz) :
    wpAny (model X.prog X.w) X.A (pyNext (.ref it)) (fun r s1z => ∃ uz, r = some uz ∧
      wpAny (model X.prog X.w) X.A (letOwnedTupleGo tg (.ref it) uz) (fun _ s2z => ∃ x H', Inv X pins σ H' s2z ∧ RelV x uz ∧ (Itl X.K a).yld i Hz x H' ∧ s2z.heap.IsListIter it a (i + 1) ∧ H' it = none) E s1z) E sz := by
  obtain ⟨xs, x, hq, hxz⟩ := hgz
  obtain ⟨its, rvz, q, hz⟩ := Iz.list hq
  obtain ⟨uz, huz, ru⟩ := rvz.get hxz
  obtain ⟨f0, f1, f2, f3, f4, f5⟩ := hf
  refine wpAny_pyNext_list_item st q.isList (x := uz) (by simpa using huz) fun h' st' sb => ?_
  have I1z : Inv X pins σ Hz { sz with heap := h' } := Iz.turned (t' := sz.toks) (fun b o hb e => (sb.2 b hb).trans e) f0 f1 f3 f4 f5
  obtain ⟨o, e, c, d⟩ := id st'
  exact ⟨uz, rfl, go_of (s := { sz with heap := h' }) e c d (by decide) ⟨x, Hz, I1z, ru, ⟨rfl, fun ys hy => by rw [Iz.list_inj hy hq]; exact hxz⟩, st', f0⟩⟩
/-- no more items -/
theorem list_done {a it x1 : Addr} {i : Nat} {E : Value → Shared → Prop} (Iz : Inv X pins σ Hz sz) (hot : HotAt X.A x1 sz.heap) (hf : FpOk X pins Hz it) (st : sz.heap.IsListIter it a i) (hgz : (Itl X.K a).stop i Hz) :
    wpAny (model X.prog X.w) X.A (pyNext (.ref it)) (fun r s1z => r = none ∧ Inv X pins σ Hz s1z) E sz := by
  obtain ⟨xs, hq, hxz⟩ := hgz
  obtain ⟨its, rvz, q, hz⟩ := Iz.list hq
  obtain ⟨f0, f1, f2, f3, f4, f5⟩ := hf
  have hlz := rvz.length
  exact list_end_hot hot st q.isList (by simp; omega) fun h' eb => ⟨rfl, Iz.turned (t' := sz.toks) (fun b o hb e => eb b o hb e) f0 f1 f3 f4 f5⟩
theorem lc_coreH {Qz : VK} {eltz tg iter : Expr} {ifsz : List Expr} {scope : Scope} {own : List (Str × Nat)} {pos pos' : Pos} {tl : TE} {g : TG} {tt : TT} {te : TE} {use : Option (Value → Sem Unit)} {Qfz : Value → Shared → Prop}
    (hc : HotC X) (hN : X.N.Nodup) (Iz : Inv X pins σ Hz sz) (hi : PE X iter tl) (ok : BlkOk X.N X.env.scope scope own)
    (hgz : ∀ (sz : Shared) (Hz : Hp) (C : Addr) (cl : List (Str × Addr)) (fp : List Addr), PG (X.blk sz Hz scope (compEnvC scope cl C X.env) fp) tg g) (htz : ∀ (sz : Shared) (Hz : Hp) (C : Addr) (cl : List (Str × Addr)) (fp : List Addr), PTs (X.blk sz Hz scope (compEnvC scope cl C X.env) fp) ifsz tt)
    (hez : ∀ (sz : Shared) (Hz : Hp) (C : Addr) (cl : List (Str × Addr)) (fp : List Addr), PE (X.blk sz Hz scope (compEnvC scope cl C X.env) fp) eltz te) (hsz : ∀ x, foldedSetIterable iter X.env x = pure x)
    (h : tLc (iList X.K tl) g tt te (own.map (·.2)) σ Hz Qz)
    (hRRz : ∀ D C s' m H', Inv X pins σ H' s' → Qz (.ref D) H' → s'.heap.Ns C m → FpOk X pins H' C → compPost (model X.prog X.w) X.A X.xe use Qfz (.ref D) C (.ok .next) s') :
    wpAny (model X.prog X.w) X.A (comprehension (.ListComp eltz [⟨tg, iter, ifsz, 0⟩] scope pos) scope X.env pos' (newList []) false (eval iter X.env) use) Qfz X.xe sz := by
  obtain ⟨p, hp1, hp⟩ := hc
  have hfreez : ∀ y ∈ scope.names, y.2 = .free → ∃ c, X.env.cells.lookup y.1 = some c := fun y hy e => by
    rcases ok.free y hy e with k | k
    · exact Iz.ok.has _ (.inl k)
    · exact Iz.ok.has _ (.inr k)
  refine wpAny_comprehension_free (use := use) rfl hsz (closure_ok hfreez) ok.kind (fun y hy e => by rw [ok.uniq y hy, e])
    (thn (hi.run pins sz σ Hz _ Iz h) fun xv s1z hxz => ?_)
  obtain ⟨x, H2z, I1z, r1, a, ea, ⟨xs, hq⟩, q⟩ := hxz
  subst ea
  cases r1
  obtain ⟨its, rvz, pl, hz⟩ := I1z.list hq
  have hpy : wpAny (model X.prog X.w) X.A (pyIter (.ref a)) (fun itv s2z => ∃ it, itv = .ref it ∧ Inv X pins σ H2z s2z ∧ s2z.heap.IsListIter it a 0 ∧ FpOk X pins H2z it) X.xe s1z :=
    wpAny_pyIter_list pl.isList ⟨_, rfl, I1z.kept (t' := s1z.toks) fun b o e => Heap.get?_push_of_some _ e, ⟨_, Heap.get?_push_size _ rfl, rfl, rfl⟩, I1z.fpOk (Nat.le_refl _) (I1z.hok.fresh (Nat.le_refl _))⟩
  refine thn hpy fun itv s2z ⟨it, ei, I2z, st2, f2⟩ => ?_
  subst ei
  refine wpAny_newObj_type (newEnv_comp ?_) (by show 0 ≤ sizeLine; decide)
  generalize hDz : s2z.heap.objs.size = D
  have hDnz : H2z D = none := I2z.hok.fresh (Nat.le_of_eq hDz)
  obtain ⟨W, ⟨m0, w0⟩, turnz⟩ := q D hDnz
  -- the list that is made
  generalize hs3z : ({ s2z with heap := s2z.heap.push { cls := .type "list", data := .seq ([] : List Value).toArray } } : Shared) = s3z
  have I3z : Inv X pins σ (upd H2z D (.lst [])) s3z := by
    rw [← hs3z]
    refine I2z.laid (t' := s2z.toks) (fun b o e => Heap.get?_push_of_some _ e) (Nat.le_of_eq hDz) ⟨Nat.zero_le _, [], 0, .nil, ?_⟩
    rw [← hDz]
    exact Heap.get?_push_size _ rfl
  have h3 : s3z.heap = s2z.heap.push { cls := .type "list", data := .seq ([] : List Value).toArray } := by rw [← hs3z]
  have tobj : ∀ {i : Nat} {h : Heap}, h.IsListIter it a i → ∀ b ∈ [it], ∃ o, h.get? b = some o ∧ ∀ v, o.data ≠ .cell v := fun {i h} st b hb => by
    obtain rfl : b = it := by simpa using hb
    obtain ⟨o, e, c, d⟩ := st
    exact ⟨o, e, fun v z => by rw [d] at z; cases z⟩
  have ilt : it < s2z.heap.objs.size := by
    obtain ⟨o, e, _⟩ := id st2
    exact Heap.lt_size e
  have f3 : ∀ b ∈ [it], FpOk X pins (upd H2z D (.lst [])) b ∧ b < s3z.heap.objs.size := fun b hb => by
    obtain rfl : b = it := by simpa using hb
    refine ⟨⟨?_, f2.2⟩, by rw [h3, Heap.size_push]; exact Nat.lt_succ_of_lt ilt⟩
    rw [upd_ne (by rw [← hDz]; exact Nat.ne_of_lt ilt)]
    exact f2.1
  have st3 : s3z.heap.IsListIter it a 0 := st2.at fun o e => by rw [h3]; exact Heap.get?_push_of_some _ e
  have I4z := block_pin I3z ok hN f3 hp
  have pg := hgz s3z (upd H2z D (.lst [])) s3z.heap.objs.size (cellsFrom (s3z.heap.objs.size + 1) scope.names (cloFrom X.env.cells scope.names [])) [it]
  have pt := htz s3z (upd H2z D (.lst [])) s3z.heap.objs.size (cellsFrom (s3z.heap.objs.size + 1) scope.names (cloFrom X.env.cells scope.names [])) [it]
  have pe := hez s3z (upd H2z D (.lst [])) s3z.heap.objs.size (cellsFrom (s3z.heap.objs.size + 1) scope.names (cloFrom X.env.cells scope.names [])) [it]
  show codeAny _ _ (.compStart (.ListComp eltz [⟨tg, iter, ifsz, 0⟩] scope pos) 0 (.ref it) (.ref D) (compEnvC scope (cellsFrom (s3z.heap.objs.size + 1) scope.names (cloFrom X.env.cells scope.names [])) s3z.heap.objs.size X.env)) (compPost (model X.prog X.w) X.A X.xe use Qfz (.ref D) s3z.heap.objs.size) { s3z with heap := pushCells (s3z.heap.push { cls := .type "dict", data := .dict #[] }) scope.names }
  have nfp : (upd H2z D (.lst [])) it = none := (f3 it (by simp)).1.1
  generalize hcez : compEnvC scope (cellsFrom (s3z.heap.objs.size + 1) scope.names (cloFrom X.env.cells scope.names [])) s3z.heap.objs.size X.env = ce at I4z pg pt pe ⊢
  have cL : ce.locals = s3z.heap.objs.size := by subst hcez; rfl
  generalize hH3z : upd H2z D (.lst []) = H3z at I3z I4z pg pt pe w0 nfp f3
  generalize hs4z : ({ s3z with heap := pushCells (s3z.heap.push { cls := .type "dict", data := .dict #[] }) scope.names } : Shared) = s4z at I4z ⊢
  have st4 : s4z.heap.IsListIter it a 0 := st3.at fun o e => by rw [← hs4z]; exact pushCells_keeps _ _ _ _ (Heap.get?_push_of_some _ e)
  have pne : p.1 ≠ it := fun z => by
    obtain ⟨o, e, c, d⟩ := id st4
    have g := (I4z.pin p (by simp)).1
    rw [z, e] at g
    cases g
    obtain ⟨_, vs, dd, cc⟩ := hp1
    rw [d] at dd
    cases dd
    cases cc
  have stat : ∀ {σ' : L2.St} {H' : Hp} {s' : Shared}, Inv (X.blk s3z H3z scope ce [it]) [p] σ' H' s' → H' it = none → FpOk (X.blk s3z H3z scope ce [it]) [p] H' it := fun {σ' H' s'} I' hn =>
    ⟨hn, (I'.ok.exf it (by simp)).1, I'.ok.exfs it (by simp), .inl (by simp), fun x c e => (I'.ok.exf it (by simp)).2 x c e, fun r hr => by
      have e : r = p := by simpa using hr
      rw [e]
      exact pne⟩
  have loop : codeAny (model X.prog X.w) X.A (.compLoop (.ListComp eltz [⟨tg, iter, ifsz, 0⟩] scope pos) 0 (.ref it) (.ref D) ce) (compPost (model X.prog X.w) X.A X.xe use Qfz (.ref D) s3z.heap.objs.size) s4z := by
    refine compLoop_any (fun n s' => ∃ i H', Inv (X.blk s3z H3z scope ce [it]) [p] (wipe σ (own.map (·.2))) H' s' ∧ s'.heap.IsListIter it a i ∧ H' it = none ∧ W i n H') ?_ m0 ⟨0, H3z, I4z, st4, nfp, w0⟩
    rintro n s5z ⟨i, H5z, I5z, st5, n5, w5⟩
    rcases turnz i n H5z w5 with ⟨stopz, qq⟩ | ⟨goz, Nx, hNx, stepz⟩
    · have td := list_done (X := X.blk s3z H3z scope ce [it]) (E := fun _ _ => False) I5z (hot_of hp1 I5z (by simp)) (stat I5z n5) st5 stopz
      refine thnF td fun r s6z ⟨hr, I6z⟩ => ?_
      subst hr
      -- the def's context again
      have I7z : Inv X pins σ H5z s6z := I3z.call' (ch := [it]) I6z.os I6z.base I6z.hok I6z.bare fun b hb => ⟨(f3 b hb).1.2.2.2.1, (f3 b hb).1.2.1, (f3 b hb).1.2.2.2.2.1, (f3 b hb).1.2.2.2.2.2⟩
      have nC : H5z s3z.heap.objs.size = none := by
        have z : H5z ce.locals = none := I6z.free
        rw [cL] at z
        exact z
      obtain ⟨m, hn, _⟩ := I6z.loc
      have hn : s6z.heap.Ns ce.locals m := hn
      rw [cL] at hn
      exact hRRz D s3z.heap.objs.size s6z m H5z I7z qq hn (I3z.fpOk (Nat.le_refl _) nC)
    · have ti := list_item (X := X.blk s3z H3z scope ce [it]) (tg := tg) (E := fun _ _ => False) I5z (stat I5z n5) st5 goz
      refine thnF ti fun r s6z ⟨uz, hr, h6⟩ => ?_
      subst hr
      refine thnF h6 fun _ s7z ⟨x, H7z, I7z, r7, y7, st7, n7⟩ => ?_
      have sf : ∀ b ∈ [it], FpOk (X.blk s3z H3z scope ce [it]) [p] H7z b := fun b hb => by
        have e : b = it := by simpa using hb
        rw [e]
        exact stat I7z n7
      have I7' := I7z.pinned sf (tobj st7)
      refine thnF (pg.run _ s7z _ H7z x uz _ I7' r7 (stepz x H7z y7)) fun _ s8z ⟨σ8, H8z, I8z, hw8, q8⟩ => ?_
      refine thnF (pt.run _ s8z σ8 H8z _ I8z q8) fun b s9z ⟨H9z, I9z, q9z⟩ => ?_
      -- a turnz ends
      have fin : ∀ {s' : Shared} {H' : Hp}, Inv (X.blk s3z H3z scope ce [it]) ([p] ++ pinsAt [it] s7z.heap) σ8 H' s' → Nx H' → ∃ m, m < n ∧ ∃ i H', Inv (X.blk s3z H3z scope ce [it]) [p] (wipe σ (own.map (·.2))) H' s' ∧ s'.heap.IsListIter it a i ∧ H' it = none ∧ W i m H' := fun {s' H'} I' nx => by
        obtain ⟨m', hm, w'⟩ := hNx H' nx
        obtain ⟨o7, e7, _⟩ := tobj st7 it (by simp)
        have pin' := I'.pin (it, o7) (List.mem_append_right _ (List.mem_append_right _ (mem_pinsAt (by simp) e7)))
        have hlz : (wipe σ (own.map (·.2))).length = σ8.length := by rw [← hw8, wipe_length]
        refine ⟨m', hm, i + 1, H', (I'.unpinned (pins := [p])).weak hlz (fun j v e => ?_), st7.at fun o e => ?_, pin'.2.1, w'⟩
        · rw [← hw8] at e
          exact (wipe_some e).1
        · rw [e7] at e
          cases e
          exact pin'.1
      cases b with
      | false =>
        simp only [Bool.false_eq_true, if_false] at q9z ⊢
        exact fin I9z q9z
      | true =>
        simp only [if_true] at q9z ⊢
        refine thnF (pe.run _ s9z σ8 H9z _ I9z q9z) fun z s10z ⟨yv, H10z, I10z, r10, acc, hD10z, hz10z, nx⟩ => ?_
        exact app_ok (X := X.blk s3z H3z scope ce [it]) I10z hD10z hz10z r10 fun s11z I11z => fin I11z nx
  exact codeAny_compStart_list loop (wpAny_pyIter_listiter st4 loop)
/-- as a value -/
theorem pe_lcH {eltz tg iter : Expr} {ifsz : List Expr} {scope : Scope} {own : List (Str × Nat)} {pos : Pos} {tl : TE} {g : TG} {tt : TT} {te : TE} (hc : HotC X) (hN : X.N.Nodup) (hi : PE X iter tl) (ok : BlkOk X.N X.env.scope scope own)
    (hgz : ∀ (sz : Shared) (Hz : Hp) (C : Addr) (cl : List (Str × Addr)) (fp : List Addr), PG (X.blk sz Hz scope (compEnvC scope cl C X.env) fp) tg g) (htz : ∀ (sz : Shared) (Hz : Hp) (C : Addr) (cl : List (Str × Addr)) (fp : List Addr), PTs (X.blk sz Hz scope (compEnvC scope cl C X.env) fp) ifsz tt)
    (hez : ∀ (sz : Shared) (Hz : Hp) (C : Addr) (cl : List (Str × Addr)) (fp : List Addr), PE (X.blk sz Hz scope (compEnvC scope cl C X.env) fp) eltz te) (hsz : ∀ x, foldedSetIterable iter X.env x = pure x := by intro _; rfl) :
    PE X (.ListComp eltz [⟨tg, iter, ifsz, 0⟩] scope pos) (tLc (iList X.K tl) g tt te (own.map (·.2))) := by
  refine ⟨fun pins sz σ Hz Qz Iz h => ?_⟩
  rw [eval_ListComp]
  refine lc_coreH hc hN Iz hi ok hgz htz hez hsz h fun D C s' m H' I' q hn f => ⟨m, hn, fun h'' sb => ?_⟩
  obtain ⟨f0, f1, f2, f3, f4, f5⟩ := f
  exact ⟨.ref D, H', I'.turned (t' := s'.toks) (fun b o hb e => (sb.2 b hb).trans e) f0 f1 f3 f4 f5, rfl, q⟩
end
end Ol

set_option Elab.async false
set_option linter.all false
set_option maxRecDepth 100000
set_option maxHeartbeats 4000000
namespace Ol
open PySem PySem.Spec PyProof.Rows L2 HotX L2H
/-! Own errors with fields whose context is None: made, raised, let out of defs and methods. -/
section
variable {X : Cx} {e : Expr} {es : List Expr} {ta : TA} {p pos : Pos}
theorem mk_endN {pins : List (Addr × Obj)} {σ : L2.St} {H1z H2z : Hp} {Qz : XK} {hp hp2 h2 : Heap} {g1 g2 : Array GenState} {d1z d2 : Drawn} {t1 t2 : Nat} {os1 os2 : OsState} {a C d : Addr} {fs : List (Str × V)} (T : Raises X (.ref C)) (J1 : Inv X pins σ H1z ⟨hp, g1, d1z, t1, os1⟩)
    (ha : hp.objs.size ≤ a) (k : ∀ b o, hp.get? b = some o → hp2.get? b = some o) (un : Un (frs X.stack) [] (upd H1z a (exo a C none)) H2z hp2 h2) (hok : HOk X.prog X.w H2z h2) (hoz : os2 = os1) (hb : AllBare g2) (ea : H2z a = some (exo a C (some d)))
    (ed : H2z d = some (exd d fs)) (hd1 : H1z d = none) (q : Qz (.ref C) (some d) (upd (del H2z a) d (.xd fs))) : L2N.MkP X pins σ Qz (.ref a) ⟨h2, g2, d2, t2, os2⟩ := by
  obtain ⟨t0, G, J, kG, ge, hoe, na⟩ := mk_end0 (d2 := d2) (t2 := t2) J1 ha k un hok hoz hb ea ed hd1
  exact ⟨a, _, _, ⟨G, g2, d2, t2, os2⟩, _, .ref C, some d, rfl, J, kG, ge, hoe, ⟨rfl, rfl, fun vs y => by cases y; rfl⟩, rfl, rfl, na, rfl, hb, T, q⟩
theorem pmk_oexN {CX : CXT} {x : Str} {C fI : Addr} {k : Nat} {fd : FuncData} {ps : List Str} {sp : Sp} {ds : List Value} {dvs : List V} (T : OexC X.K C) (iC : PySem.W.findIn X.K (.ref C) "__init__" = some (some (.ref fI))) (tI : PySem.W.typeIn X.K (.ref fI) = some (.type "function"))
    (F1 : FnOk X.prog X.w X.K X.mg X.base CX k fI fd ps sp) (hr : Room (k + 1) X.A) (hb : Binds X.K fd ps ds) (hd : Vals dvs ds) (hxz : Passes CX X (fun _ _ _ => False)) (hgz : Gl X x) (hm : X.mg x = some (.ref C)) (ha : PA X (e :: es) ta)
    (hdbz : (x == ("__debug__" : Str)) = false := by decide) (hez : starEach (e :: es) X.env = (false, eval e X.env) :: starEach es X.env := by rfl) (hplz : (backTo pos (starEach es X.env)).any (·.1) = false := by rfl) :
    L2N.PMk X (.Call (.Name x p) (e :: es) [] pos) (tMkO C sp dvs ta) := by
  intro pins sz σ Hz Qz Iz h
  obtain ⟨nm, q, N, bs, bm, sn, sub, ab, col, dd, k0, k1, k2, k3, k5, hC, hbm⟩ := T.cls
  refine wpAny_Call_Name_kw (ld_glob Iz hgz hm ?_ hdbz)
  refine PySem.W.callWith_K (h₀ := X.base) Iz.ok.mod.kin T.kC (thn (ha.run pos pins sz σ Hz _ Iz h) fun usz s1z ⟨vs, H1z, J1, r1, hz, q1⟩ => ⟨J1.kIn, ?_⟩) hez hplz
  show wpAny _ _ (call (.ref C) usz) _ _ _
  obtain ⟨hp, g, drz, tk, osz⟩ := s1z
  have sz1 : hp.objs.size ≤ hp.objs.size + 1 := Nat.le_succ _
  have new1 : H1z (hp.objs.size + 1) = none := J1.hok.fresh sz1
  have q0 := q1 (hp.objs.size + 1) new1
  have keep2 : ∀ b o, hp.get? b = some o → ((hp.push (PySem.W.kdv_tup usz)).push (PySem.HandSPX.excO C hp.objs.size)).get? b = some o := fun b o z => Heap.get?_push_of_some _ (Heap.get?_push_of_some _ z)
  have at2 : ((hp.push (PySem.W.kdv_tup usz)).push (PySem.HandSPX.excO C hp.objs.size)).get? (hp.objs.size + 1) = some (PySem.HandSPX.excO C hp.objs.size) := by heap_get
  have J2 : Inv X pins σ (upd H1z (hp.objs.size + 1) (exo (hp.objs.size + 1) C none)) ⟨(hp.push (PySem.W.kdv_tup usz)).push (PySem.HandSPX.excO C hp.objs.size), g, drz, tk, osz⟩ :=
    J1.laid (t' := tk) (a := hp.objs.size + 1) (o := exo (hp.objs.size + 1) C none) (h' := (hp.push (PySem.W.kdv_tup usz)).push (PySem.HandSPX.excO C hp.objs.size)) keep2 sz1 (exo_ok at2)
  have r2 : Vals (V.ref (hp.objs.size + 1) :: (vs ++ dvs)) (Value.ref (hp.objs.size + 1) :: (usz ++ ds)) := .cons rfl (r1.append hd)
  have len2 : (Value.ref (hp.objs.size + 1) :: usz ++ ds).length = ps.length := by
    have y := r2.length
    rw [F1.len _ _ _ _ q0] at y
    exact y.symm
  have few : usz.length ≤ sizeLine := by rw [← Paired.length r1, sizeLine_eq]; omega
  refine wpAny_call (PySem.HandSPX.call_own F.excBase_ValueError (fun Y => PySem.HandSPX.refsVE_contains Y bm hbm) (J1.kIn _ _ hC) (PySem.W.looks_findIn J1.kIn iC) (fun self => PySem.W.bind_fn J1.kIn self tI) few
    (codeAny_mono (F1.run _ X.stack _ _ ⟨Value.ref (hp.objs.size + 1) :: usz, []⟩ (Value.ref (hp.objs.size + 1) :: (usz ++ ds)) _ _ (fun _ _ _ => False) (hr.make C usz []) (J2.env0.make C usz []) (hb _ (Value.ref (hp.objs.size + 1) :: usz) J2.kIn len2) r2 q0) fun r s' z' => ?_))
  cases r with
  | error er => exact hxz pins σ _ _ er s' J2 z'
  | ok fl =>
    cases fl with
    | ret uz =>
      obtain ⟨v, H2z, os2, bare2, un2, hok2, rvz, ev, d, fs, ea, ed, hd1, q2⟩ := z'
      subst ev
      obtain ⟨h2, g2, d2, t2, os'⟩ := s'
      exact ⟨rvz, mk_endN (raises_own T.exC T.tyC) J1 sz1 keep2 un2 hok2 os2 bare2 ea ed hd1 q2⟩
    | next => exact z'.elim
    | brk => exact z'.elim
    | cont => exact z'.elim
theorem passAtN {W : L2.WX} (tk : L2N.Takes X W) (σ : L2.St) : PassesAt (L2N.CX X.prog X.w) X σ (WE W σ) := fun _ _ _ y s' Iz c => tk y s' (L2N.XE.of_call Iz (fun _ _ _ h => h) c)
end
section
variable {P : Program} {w : World} {K : PySem.W.Frag} {mg : Str → Option Value} {base : Heap}
theorem okXN {x qual : Str} {st : Stmt} {f : Addr} {fd : FuncData} {N ps : List Str} {k : Nat} {sp : Sp} (F : Fun K x qual st f fd) (S : FnScope N ps (defScope st)) (lenz : ∀ vs Hz Qz E, sp vs Hz Qz E → vs.length = ps.length)
    (hbodyz : ∀ (cdv : Value) (A : Around) (outer : List Env) (sz : Shared) (Hz : Hp) (vs : List V) (Qz : VK) (E : XK), Room k (A.deeper (envOfC qual (defScope st) sz.heap.objs.size f cdv)) → sp vs Hz Qz E →
      ∃ t, PSs (cxOf (L2N.CX P w) P w K mg base N qual (defScope st) f cdv A outer sz Hz E) (defBody st) t ∧ t { nx := fun _ H' => Qz .non H', rt := Qz } (start N vs) Hz) : FnOk P w K mg base (L2N.CX P w) (k + 1) f fd ps sp := by
  obtain ⟨oc, od, kV, doc, pm, an, cdv, ct, osl, rfl, lkz, hcdz⟩ := F.ex
  exact fn_of lkz hcdz S lenz fun A outer sz Hz vs Qz E hr hsp => hbodyz cdv A outer sz Hz vs Qz E hr hsp
/-- a method that may let such errors out, and its promise -/
structure CmN (P : Program) (w : World) (K : PySem.W.Frag) (mg : Str → Option Value) (base : Heap) (C : Addr) (k : Nat) (m : Str) (ps : List Str) (sp : Sp) : Prop where
  has : ∃ (f : Addr) (fd : FuncData), FnOk P w K mg base (L2N.CX P w) k f fd ps sp ∧ Meth K C m f ∧ Binds K fd ps []
/-- a def that may -/
structure CaN (P : Program) (w : World) (K : PySem.W.Frag) (mg : Str → Option Value) (base : Heap) (k : Nat) (x : Str) (ps : List Str) (sp : Sp) : Prop where
  has : ∃ (f : Addr) (fd : FuncData), FnOk P w K mg base (L2N.CX P w) k f fd ps sp ∧ mg x = some (.ref f) ∧ PySem.W.keepIn K (.ref f) = true ∧ Binds K fd ps []
end
section
variable {X : Cx} {k : Nat} {C : Addr} {ps : List Str} {sp : Sp} {m : Str} {o e : Expr} {es : List Expr} {ta : TE} {t : TA} {apos pos : Pos} {E : L2.St → XK}
theorem pe_cmN {pl : Sem Bool} (M : CmN X.prog X.w X.K X.mg X.base C k m ps sp) (c : Cls X.K C) (hr : Room k X.A) (hxz : ∀ σ, PassesAt (L2N.CX X.prog X.w) X σ (E σ)) (hez : PE X o ta) (ha : PA X (e :: es) t)
    (hstz : starEach (e :: es) X.env = (false, eval e X.env) :: starEach es X.env := by rfl) (hplz : (backTo pos (starEach es X.env)).any (·.1) = false := by rfl)
    (htz : eval (.Call (.Attribute o m apos) (e :: es) [] pos) X.env = (do
      let ov ← eval o X.env
      standAt apos.atName
      let (f, first) ← holding [ov] (getMethod ov m pl)
      callWith pos f first (backTo pos (starEach (e :: es) X.env)) (backToKw pos (keywordEach [] X.env))) := by rfl) :
    PE X (.Call (.Attribute o m apos) (e :: es) [] pos) (tMethX C m sp E ta t) := by
  obtain ⟨f, fd, F, hm, b⟩ := M.has
  refine ⟨fun pins sz σ Hz Qz Iz h => ?_⟩
  refine PySem.W.methodCall_KW (pl := pl) (thn (hez.run pins sz σ Hz _ Iz h) fun uz s1z ⟨x, H1z, I1z, rx, a, dx, fs, ex, ea, l, q⟩ => ?_) htz
  subst ex
  obtain rfl : uz = Value.ref a := rx
  refine getmeth_ok I1z ea c hm l ?_
  refine PySem.W.callWith_K (first := [.ref a]) (h₀ := X.base) Iz.ok.mod.kin hm.kp (thn (ha.run pos pins s1z σ H1z _ I1z q) fun usz s2z ⟨vs, H2z, I2z, r, q2⟩ => ⟨I2z.kIn, ?_⟩) hstz hplz
  exact run_fnS (us := .ref a :: usz) (vs := .ref a :: vs) F hr b (hxz σ) I2z (.cons rfl r) q2
/-- the suite bears the handled exception -/
theorem hot_suite {X : Cx} {a : Addr} {oe : Obj} {cls : Value} {d : Option Addr} {pn : List (Addr × Obj)} (hz : L2N.Zn cls d oe) (hf : ∃ vs, oe.data = .fields vs) : HotC (X.suite a ((a, oe) :: pn)) := by
  obtain ⟨vs, hd⟩ := hf
  exact ⟨(a, oe), ⟨rfl, vs, hd, hz.2.2 vs hd⟩, List.mem_cons_self⟩
end
end Ol

set_option Elab.async false
set_option linter.all false
set_option maxRecDepth 100000
set_option maxHeartbeats 4000000
namespace K41
open PySem PySem.Spec PyProof.Rows L2 Ol RZ
open TL (tl)
section
variable {P : Program} {w : World} {K : PySem.W.Frag} {mg : Str → Option Value} {base : Heap} {C CP S R SP : Addr}
/-! ### errors with one field -/
structure XT (K : PySem.W.Frag) (mg : Str → Option Value) (nm fld : Str) (R : Addr) : Prop where
  g : mg nm = some (.ref R)
  ox : OexC K R
  xf : XfC K R
  nF : PySem.W.findIn K (.ref R) fld = some none
def x1 (fld : Str) (x : V) : List (Str × V) := [(fld, x)]
theorem x1_at (fld : Str) (x : V) : (x1 fld x).lookup fld = some x := by
  unfold x1
  rw [List.lookup_cons_self]
def spXI (fld : Str) (R : Addr) : Sp := fun vs H Q _ => ∃ (a : Addr) (x : V), vs = [.ref a, x] ∧ H a = some (exo a R none) ∧
  ∀ (dx : Addr) (H' : Hp), H dx = none → dx ≠ a → (∀ b, b ≠ a → b ≠ dx → H' b = H b) → H' a = some (exo a R (some dx)) → H' dx = some (exd dx (x1 fld x)) → Q .non H'
structure XI (P : Program) (w : World) (K : PySem.W.Frag) (mg : Str → Option Value) (base : Heap) (fld : Str) (R : Addr) : Prop where
  has : ∃ (f : Addr) (fd : FuncData), FnOk P w K mg base CX0 1 f fd ["self", fld] (spXI fld R) ∧ PySem.W.findIn K (.ref R) "__init__" = some (some (.ref f)) ∧
    PySem.W.typeIn K (.ref f) = some (.type "function") ∧ Binds K fd ["self", fld] []
abbrev s_xstop : Stmt := inClass (topS 11) 0
theorem sc_xstop : FnScope ["self", "index"] ["self", "index"] (defScope s_xstop) := ⟨rfl, rfl, rfl, by decide +kernel, rfl, by decide +kernel, by decide +kernel⟩
theorem ok_xstop {f : Addr} {fd : FuncData} (F : Fun K "__init__" "Stopped.__init__" s_xstop f fd) (T : XT K mg "Stopped" "index" R) :
    FnOk P w K mg base CX0 1 f fd ["self", "index"] (spXI "index" R) := by
  refine F.ok sc_xstop (fun vs H Q E h => ?_) (fun cdv A outer s H vs Q E hr h => ?_)
  · obtain ⟨a, x, rfl, _⟩ := h
    rfl
  · obtain ⟨a, x, rfl, ha, q⟩ := h
    refine ⟨_, (pss_one (ps_ost (pv 0) (pv 1))), ?_⟩
    refine ⟨_, rfl, _, rfl, a, R, rfl, T.ox, T.nF, .inl ⟨ha, fun dx hdx nda => ?_⟩⟩
    refine q dx _ hdx nda (fun b h1 h2 => ?_) upd_same ?_
    · rw [upd_ne h1, upd_ne h2]
    · rw [upd_ne nda]
      exact upd_same
abbrev RzP (P : XK) (H : Hp) (R : Addr) (fld : Str) (x : V) : Prop := ∀ (d : Addr) (H' : Hp), Ext H H' → H' d = some (.xd (x1 fld x)) → P (.ref R) (some d) H'
/-! ### System.run, or Stopped -/
def spRunX (S C CP SP : Addr) : Sp := fun vs H Q E => ∃ (p l : Addr) (W : Wd) (v : V) (s : Sd) (ys : List V) (ts : List Stp), vs = [.ref p, v, .ref l] ∧ SysW S C CP H p W ∧ Dq H v (stgD (s.std W.ns)) ∧ GSd W s ∧ H l = some (.lst ys) ∧ DqAll H ys (ts.map stpD) ∧ ts.length ≤ 100 ∧
  (RunOk W s ts → ∀ (r : Addr) (zs : List V) (H' : Hp), H r = none → Ext H H' → H' r = some (.lst zs) → DqAll (del H' r) zs (endD W s ts) → Q (.ref r) H') ∧
  (∀ (k : Nat) (hk : k < ts.length), RunOk W s (ts.take k) → ts[k] ∉ W.steps (last W s (ts.take k)) → RzP E H SP "index" (.int (k : Int)))
theorem ok_runX {f : Addr} {fd : FuncData} (F : Fun K "run" "System.run" (cS 17) f fd) (T : BT mg) (SL : ST K mg S) (LL : LT K mg C) (MBh : Cm P w K mg base S 8 "_behind" ["self", "standing", "step"] (spBh S C CP))
    (TP : XT K mg "Stopped" "index" SP) (IP : XI P w K mg base "index" SP) :
    FnOk P w K mg base (L2N.CX P w) 9 f fd ["self", "standing", "steps"] (spRunX S C CP SP) := by
  obtain ⟨fI, fdI, FI, iC, tI, bI⟩ := IP.has
  refine okXN F sc_run (fun vs H Q E h => ?_) (fun cdv A outer s0 H vs Q E hr h => ?_)
  · obtain ⟨p, l, W, v, s, ys, ts, rfl, _⟩ := h
    rfl
  · obtain ⟨p, l, W, v, s, ys, ts, rfl, hS, hv, gs, hl, hy, t100, q1, q2⟩ := h
    refine ⟨_, (pss_cons (ps_set (i := 3) sc_run.nd rfl (.inl rfl) (pe_lst (pa_cons (pv 1) pa_nil)))
      (pss_cons (ps_for (passes_of rfl) rfl (pi_enum (by rfl) LL.n_enum (pa_cons (pv 2) pa_nil)) (pg_tup (by rfl) (pgs_cons (pg_name (i := 4) sc_run.nd rfl (.inl rfl)) (pgs_cons (pg_name (i := 5) sc_run.nd rfl (.inl rfl)) pgs_nil)))
        (pss_cons (ps_set (i := 6) sc_run.nd rfl (.inl rfl) (pe_cm MBh SL.cl (hr.mono (by decide)) (pv 0) (pa_cons (pe_ix ix_list (pv 3) (pe_un un_neg pe_int) (fun _ _ => rfl)) (pa_cons (pv 5) pa_nil))))
        (pss_cons (ps_if (pt_cmpR op_isN (pv 6) pe_non (nomark _)) (pss_one (L2N.ps_raise rfl (L2N.takes_of rfl rfl rfl rfl) (pmk_oexN TP.ox iC tI FI (hr.mono (by decide)) bI .nil pass0 (by rfl) TP.g (pa_cons (pv 4) pa_nil)))) pss_nil)
        (pss_one (ps_expr (pe_bm PySem.F.plainAttrs_list PySem.F.slot_list_append PySem.F.type_list_append mt_append (pv 3) (pa_cons (pv 6) pa_nil)))))))
      (pss_one (ps_ret (pv 3))))), ?_⟩
    obtain ⟨⟨dx, lx, sx, kd, st, sp, xs, at_, h1, _⟩, gw⟩ := id hS
    have ly : ys.length = ts.length := by rw [hy.len, List.length_map]
    refine ⟨_, rfl, by show 1 ≤ sizeLine; decide, fun F0 hF => ?_⟩
    have e1 := Ext.new (o := .lst [v]) hF
    have eB : Ext H (del (upd H F0 (.lst [v])) F0) := ext_to e1 hF
    have hF1 : upd H F0 (.lst [v]) F0 = some (.lst [v]) := upd_same
    generalize upd H F0 (.lst [v]) = H1 at e1 eB hF1 ⊢
    have nlF : l ≠ F0 := fun z => by rw [z, hF] at hl; cases hl
    refine ⟨_, rfl, l, _, rfl, SqL.of (e1 _ _ hl), ?_⟩
    refine for_it (walk_enum (xs := ys)) (fun i σ H' => ∃ v4 v5 v6 zs, σ = [some (.ref p), some v, some (.ref l), some (.ref F0), v4, v5, v6] ∧ Ext (del H1 F0) H' ∧ H' F0 = some (.lst zs) ∧ DqAll (del H' F0) zs (endD W s (ts.take i)) ∧ RunOk W s (ts.take i))
      ⟨none, none, none, _, rfl, del_ext, hF1, .cons (hv.up eB) .nil, trivial⟩ (fun i σ H' _ ⟨_, _, _, _, _, e, _⟩ => SqL.of (e _ _ ((del_ne nlF).trans (e1 _ _ hl)))) ?_ ?_
    · rintro i x σ H2 H3 hi ⟨v4, v5, v6, zs, rfl, e2, h2F, h2z, roi⟩ ⟨T', y1, y2, rfl, hT, rfl, g1, g2⟩
      have hi2 : i < ts.length := by omega
      obtain ⟨x', hx', dx'⟩ := DqAll_get hy i (stpD ts[i]) (by rw [List.getElem?_map, List.getElem?_eq_getElem hi2]; rfl)
      cases g1
      dsimp only at g2
      rw [hx'] at g2
      cases g2
      have eT := Ext.new (o := .tup [.int (i : Int), y2]) hT
      have e02 := eB.trans e2
      have e23 : Ext H (upd H2 T' (.tup [.int (i : Int), y2])) := e02.trans eT
      have h3F := eT _ _ h2F
      have lz : zs.length = i + 1 := by
        rw [h2z.len]
        unfold endD
        rw [List.length_map, ends_len, List.length_take]
        omega
      have lt : (ts.take i).length = i := by rw [List.length_take]; omega
      obtain ⟨xl, hxl, dxl⟩ := DqAll_get h2z i (stgD ((last W s (ts.take i)).std W.ns)) (by
        unfold endD
        have z := ends_last (W := W) s (ts.take i)
        rw [lt] at z
        rw [List.getElem?_map, z]
        rfl)
      have gsi := run_good gw gs roi
      refine ⟨T', _, rfl, SqT.of upd_same, rfl, _, _, rfl, _, _, rfl, rfl, ?_⟩
      generalize upd H2 T' (.tup [.int (i : Int), y2]) = H3 at eT e23 h3F ⊢
      refine ⟨_, rfl, p, dx, _, rfl, e23 _ _ h1, sf_no _ _ _ _ _ (by decide +kernel), _, rfl, _, rfl, F0, _, _, _, rfl, rfl, SqL.of h3F, atI_last lz hxl, _, rfl, ?_⟩
      refine ⟨p, W, xl, y2, last W s (ts.take i), ts[i], rfl, hS.up e23, (dxl.up del_ext).up eT, gsi, dx'.up e23, fun sti r H4 e4 hr4 => ?_, fun nst H4 e4 => ?_⟩
      · obtain ⟨b, _, _, _, rfl, _⟩ := stg_inv hr4
        refine ⟨_, rfl, rfl, _, rfl, ?_⟩
        refine iteF ?_
        have h4F := e4 _ _ h3F
        refine ⟨_, rfl, .inl ⟨rfl, _, SqL.of h4F⟩, _, rfl, F0, zs, _, rfl, rfl, h4F, by rw [lz]; exact Nat.lt_of_le_of_lt (show _ ≤ 101 by omega) (by decide), ?_⟩
        refine ⟨_, _, _, _, rfl, Ext.mut (e2.trans (eT.trans e4)) del_same, upd_same, ?_, ?_⟩
        · rw [del_upd, List.take_add_one, List.getElem?_eq_getElem hi2, Option.toList_some, endD_snoc, last_snoc]
          exact dq_app (DqAll.up (ext_del (eT.trans e4)) h2z) (.cons (Dq.offl h4F hr4 (nl_stg _)) .nil)
        · rw [List.take_add_one, List.getElem?_eq_getElem hi2, Option.toList_some]
          exact run_snoc roi sti
      · refine ⟨_, rfl, rfl, _, rfl, ?_⟩
        refine iteT ?_
        refine ⟨_, rfl, by show 1 ≤ 1000; decide, fun ax hax => ?_⟩
        refine ⟨ax, .int (i : Int), rfl, upd_same, fun dx' H5 hdx nda hk hA hD => ?_⟩
        rw [upd_ne nda] at hdx
        have e04 := e23.trans e4
        refine ⟨rfl, dx', _, hA, hD, hdx, q2 i hi2 roi nst dx' _ (fun b o z => ?_) upd_same⟩
        have z2 := e04 b o z
        have nb1 : b ≠ ax := fun y => by rw [y, hax] at z2; cases z2
        have nb2 : b ≠ dx' := fun y => by rw [y, hdx] at z2; cases z2
        rw [upd_ne nb2, del_ne nb1, hk b nb1 nb2, upd_ne nb1]
        exact z2
    · rintro σ H2 ⟨v4, v5, v6, zs, rfl, e2, h2F, h2z, ro⟩
      rw [ly, List.take_length] at h2z ro
      exact ⟨_, rfl, q1 ro F0 zs H2 hF (eB.trans e2) h2F h2z⟩
end
end K41

set_option Elab.async false
set_option linter.all false
set_option maxRecDepth 100000
set_option maxHeartbeats 4000000
namespace K41
open PySem PySem.Spec PyProof.Rows L2 Ol RZ
open TL (tl)
theorem repZ_mk {K : PySem.W.Frag} {H : Hp} {t : Addr} {n : Nat} {Q : VK} (ht : H t = some (.tup [.int 0])) (hn : n ≤ 1000) (go : ∀ (c : Addr) (H' : Hp), Ext H H' → H' c = some (.tup (cV (List.replicate n 0))) → Q (.ref c) H') : rRepZ K (.ref t) (.int (n : Int)) H Q := by
  by_cases h0 : n = 0
  · subst h0
    exact .inr ⟨t, _, rfl, rfl, SqT.of ht, by simp, fun p hp => go p _ (Ext.new hp) upd_same⟩
  · refine .inl ⟨t, (n : Int), _, rfl, rfl, SqT.of ht, by simp, by omega, by omega, by simp, fun h1 => ?_, fun h2 p hp => ?_⟩
    · have e : n = 1 := by omega
      subst e
      exact go t H (Ext.refl H) ht
    · refine go p _ (Ext.new hp) ?_
      rw [upd_same, Int.toNat_natCast]
      congr 2
      simp
section
variable {P : Program} {w : World} {K : PySem.W.Frag} {mg : Str → Option Value} {base : Heap} {C CP S R SP : Addr}
/-! ### Lanes.first -/
def firstL (ns : List Str) : List (Nat × Bool) := ns.map fun _ => (0, false)
def spFirst (C : Addr) : Sp := fun vs H Q _ => ∃ (p : Addr) (ns : List Str) (bs : List Int), vs = [.ref p] ∧ LanesAt C H p ns bs ∧ ns ≠ [] ∧
  ∀ (r : V) (H' : Hp), Ext H H' → Dq H' r (ctD (firstL ns)) → Q r H'
theorem sc_first : FnScope ["self"] ["self"] (defScope (cL 6)) := ⟨rfl, rfl, rfl, by decide +kernel, rfl, by decide +kernel, by decide +kernel⟩
theorem first_all {H : Hp} {t : Addr} (ht : H t = some (.tup [.int 0, .bl false])) : ∀ ns : List Str, DqAll H (List.replicate ns.length (V.ref t)) (ctL (firstL ns))
  | [] => .nil
  | _ :: ns => .cons (.tup ht (.cons (.int 0) (.cons (.bl false) .nil))) (first_all ht ns)
theorem ok_first {f : Addr} {fd : FuncData} (F : Fun K "first" "Lanes.first" (cL 6) f fd) (T : BT mg) (L : LT K mg C) :
    FnOk P w K mg base CX0 1 f fd ["self"] (spFirst C) := by
  refine F.ok sc_first (fun vs H Q E h => ?_) (fun cdv A outer s H vs Q E hr h => ?_)
  · obtain ⟨p, ns, bs, rfl, _⟩ := h
    rfl
  · obtain ⟨p, ns, bs, rfl, hL, hne, q⟩ := h
    refine ⟨_, (pss_one (ps_ret (pe_op op_repA (pe_tup (pa_cons (pe_tup (pa_cons pe_int (pa_cons pe_bl pa_nil))) pa_nil)) (pe_callB call_len_seq (by rfl) T.n_len (by decide +kernel) (pa_cons (pe_fld (pv 0) rfl) pa_nil))))), ?_⟩
    refine ⟨by show 2 ≤ sizeLine; decide, fun t ht => ⟨by show 1 ≤ sizeLine; decide, fun t2 ht2 => ?_⟩⟩
    have e1 := Ext.new (o := .tup [.int 0, .bl false]) ht
    have e2 := Ext.new (o := .tup [.ref t]) ht2
    obtain ⟨dx, n, b, sp, h1, h2, h3, h4, hl, hnd, hl2, hns, hbs⟩ := hL.up (e1.trans e2)
    have lp : 0 < ns.length := List.length_pos_iff.mpr hne
    refine ⟨_, rfl, p, C, dx, _, _, rfl, h1, L.cl, L.nN, lf_n _ _ _, n, _, rfl, .inr (SqT.of h2), t2, _, _, rfl, rfl, SqT.of upd_same, by simp, ?_, ?_, by simp, fun hk => ?_, fun hk p2 hp2 => ?_⟩
    · rw [List.length_map]; omega
    · rw [List.length_map]; omega
    · refine q _ _ (e1.trans e2) (.tup upd_same ?_)
      have z : ns.length = 1 := by rw [List.length_map] at hk; omega
      have r := first_all (H := upd (upd H t (.tup [.int 0, .bl false])) t2 (.tup [.ref t])) (t := t) (e2 _ _ upd_same) ns
      rw [z] at r
      exact r
    · have e3 := Ext.new (o := .tup (List.replicate ((ns.map V.str).length : Int).toNat [V.ref t]).flatten) hp2
      refine q _ _ ((e1.trans e2).trans e3) (.tup upd_same ?_)
      have r := first_all (H := upd (upd (upd H t (.tup [.int 0, .bl false])) t2 (.tup [.ref t])) p2 (.tup (List.replicate ((ns.map V.str).length : Int).toNat [V.ref t]).flatten)) (t := t) (e3 _ _ (e2 _ _ upd_same)) ns
      have z : (List.replicate ((ns.map V.str).length : Int).toNat [V.ref t]).flatten = List.replicate ns.length (V.ref t) := by
        rw [List.length_map, Int.toNat_natCast]
        simp
      rw [z] at r ⊢
      exact r
/-! ### System.first -/
def spSF (S C CP : Addr) : Sp := fun vs H Q _ => ∃ (p : Addr) (W : Wd), vs = [.ref p] ∧ SysW S C CP H p W ∧ ∀ (v : V) (H' : Hp), Ext H H' → Dq H' v (stgD (W.first.std W.ns)) → Q v H'
theorem sc_sf : FnScope ["self"] ["self"] (defScope (cS 4)) := ⟨rfl, rfl, rfl, by decide +kernel, rfl, by decide +kernel, by decide +kernel⟩
theorem ok_sf {f : Addr} {fd : FuncData} (F : Fun K "first" "System.first" (cS 4) f fd) (T : BT mg) (SL : ST K mg S) (LL : LT K mg C) (PF : Pr P w K mg base C 1 "first" (spFirst C)) :
    FnOk P w K mg base CX0 3 f fd ["self"] (spSF S C CP) := by
  obtain ⟨xF, fF, fdF, FF, prF, bF⟩ := PF.has
  refine F.ok sc_sf (fun vs H Q E h => ?_) (fun cdv A outer s H vs Q E hr h => ?_)
  · obtain ⟨p, W, rfl, _⟩ := h
    rfl
  · obtain ⟨p, W, rfl, hS, q⟩ := h
    refine ⟨_, (pss_one (ps_ret (pe_tup (pa_cons pe_int (pa_cons (pe_prop (pe_fld (pv 0) rfl) LL.cl prF FF (hr.mono (by decide)) bF .nil pass0 rfl) (pa_cons (pe_op op_repZ (pe_tup (pa_cons pe_int pa_nil)) (pe_callB call_len_seq (by rfl) T.n_len (by decide +kernel) (pa_cons (pe_fld (pv 0) rfl) pa_nil))) pa_nil)))))), ?_⟩
    obtain ⟨⟨dx, lx, sx, kd, st, sp, xs, at_, h1, h2, h3, h4, h5, h6, h7, h8, gg⟩, gw⟩ := id hS
    obtain ⟨dl, n, b, sq, l1, _⟩ := id h2
    have l15 := seats60 gw
    have lx' : xs.length = (seatsOf W.ks).length := by rw [h7.len, List.length_map]
    refine ⟨_, rfl, p, S, dx, _, _, rfl, h1, SL.cl, SL.nL, sf_l _ _ _ _ _, lx, dl, _, rfl, l1, lx, W.ns, _, rfl, h2, gw.n1, fun r H1 e1 hr1 => ?_⟩
    obtain ⟨rd, ws, rfl, d1, d2, _⟩ := ct_inv hr1
    refine ⟨by show 1 ≤ sizeLine; decide, fun t ht => ?_⟩
    have et := Ext.new (o := .tup [.int 0]) ht
    refine ⟨_, rfl, p, S, dx, _, _, rfl, (e1.trans et) _ _ h1, SL.cl, SL.nT, sf_t _ _ _ _ _, st, _, rfl, .inr (SqT.of ((e1.trans et) _ _ h6)), ?_⟩
    rw [lx']
    refine repZ_mk (n := (seatsOf W.ks).length) upd_same (by omega) fun c H2 e2 hc => ?_
    refine ⟨by show 3 ≤ sizeLine; decide, fun t3 ht3 => ?_⟩
    have e3 := Ext.new (o := .tup [.int 0, .ref rd, .ref c]) ht3
    have e13 := et.trans (e2.trans e3)
    exact q _ _ (e1.trans e13) (stg_mk (a := t3) (b := rd) (c := c) (s := W.first.std W.ns) upd_same (e13 _ _ d1) (DqAll.up e13 d2) (e3 _ _ hc))
end
end K41

set_option Elab.async false
set_option linter.all false
set_option maxRecDepth 100000
set_option maxHeartbeats 4000000
namespace K41
open PySem PySem.Spec PyProof.Rows L2 Ol RZ
open TL (tl)
section
variable {P : Program} {w : World} {K : PySem.W.Frag} {mg : Str → Option Value} {base : Heap} {C CP S R SP : Addr}
/-! ### System.kinds -/
def spKn (S C CP : Addr) : Sp := fun vs H Q _ => ∃ (p : Addr) (W : Wd), vs = [.ref p] ∧ SysO S C CP H p W ∧
  ∀ (d : Addr) (at_ : Str → Addr) (H' : Hp), H d = none → Ext H H' → H' d = some (.dK (kdA W.ks at_)) → Q (.ref d) H'
theorem sc_kn : FnScope ["self", "kind"] ["self"] (defScope (cS 6)) := ⟨rfl, rfl, rfl, by decide +kernel, rfl, by decide +kernel, by decide +kernel⟩
theorem ok_kn {f : Addr} {fd : FuncData} (F : Fun K "kinds" "System.kinds" (cS 6) f fd) (SL : ST K mg S) :
    FnOk P w K mg base CX0 1 f fd ["self"] (spKn S C CP) := by
  refine F.ok sc_kn (fun vs H Q E h => ?_) (fun cdv A outer s H vs Q E hr h => ?_)
  · obtain ⟨p, W, rfl, _⟩ := h
    rfl
  · obtain ⟨p, W, rfl, hS, q⟩ := h
    refine ⟨_, (pss_one (ps_ret (pe_lock (pe_dc (own := [("kind", 1)]) (g := gName 1) (tt := tYes) (tk := tVar 1) (tv := tDGet (tFld K (tVar 0) "_kinds") (tVar 1)) rfl sc_kn.nd (pi_keys (pe_fld (pv 0) rfl)) (blkOk_by (N := ["self", "kind"]) (sc := defScope (cS 6)) (by decide +kernel)) (fun _ _ _ _ _ => pg_name (i := 1) sc_kn.nd rfl (.inl rfl)) (fun _ _ _ _ _ => pts_nil) (fun _ _ _ _ _ => pv 1) (fun _ _ _ _ _ => pe_dget (hu_of hr) (pe_fld (pv 0) rfl) (pv 1) (fun _ _ => rfl)))))), ?_⟩
    obtain ⟨⟨dx, lx, sx, kd, st, sp, xs, at_, h1, h2, h3, h4, h5, h6, h7, h8, gg⟩, gw⟩ := id hS
    have npk : p ≠ kd := fun z => by rw [z, h4] at h1; cases h1
    refine ⟨kd, _, h4, trivial, fun od => ?_⟩
    have hLp : (upd H kd (.frz od (.dK (kdA W.ks at_)))) p = some (.ins S dx (sf lx sx kd st sp)) := by rw [upd_ne npk]; exact h1
    have hLk : (upd H kd (.frz od (.dK (kdA W.ks at_)))) kd = some (.frz od (.dK (kdA W.ks at_))) := upd_same
    have hLo : ∀ b o, b ≠ kd → H b = some o → (upd H kd (.frz od (.dK (kdA W.ks at_)))) b = some o := fun b o n z => by rw [upd_ne n]; exact z
    have hLf : ∀ b, (upd H kd (.frz od (.dK (kdA W.ks at_)))) b = none → H b = none ∧ b ≠ kd := fun b z => by
      have n : b ≠ kd := fun c => by rw [c, upd_same] at z; cases z
      rw [upd_ne n] at z
      exact ⟨z, n⟩
    generalize upd H kd (.frz od (.dK (kdA W.ks at_))) = HL at hLp hLk hLo hLf ⊢
    refine ⟨_, rfl, p, S, dx, _, _, rfl, hLp, SL.cl, SL.nK, sf_k _ _ _ _ _, kd, od, rfl, .inl ⟨_, hLk, fun D hD => ?_⟩⟩
    obtain ⟨hD0, nDk⟩ := hLf D hD
    have nd := gw.gs.nd
    have k3 := gw.gs.few
    refine dc_it (w := walk_keys (kvs := kdA W.ks at_)) (fun i Hi => Ext HL Hi ∧ Hi D = some (.dK (kdA (W.ks.take i) at_))) ⟨Ext.new hD, by rw [List.take_zero]; exact upd_same⟩ (fun i Hi _ h => h.1 _ _ hLk) ?_ ?_
    · rintro i v Hi H' hi ⟨ei, hdi⟩ ⟨rfl, ky, vv, hkv, rfl⟩
      rw [kdA_len] at hi
      rw [kdA_at hi] at hkv
      cases hkv
      refine ⟨rfl, ?_⟩
      refine tyes ?_
      have mem : W.ks[i] ∈ W.ks := List.getElem_mem hi
      have hni : W.ks[i].1 ∉ (W.ks.take i).map (·.1) := fun z => by
        obtain ⟨k, hk, e⟩ := List.mem_map.mp z
        obtain ⟨j, hj, ej⟩ := List.getElem_of_mem hk
        rw [List.length_take] at hj
        rw [List.getElem_take] at ej
        have q := List.pairwise_iff_getElem.mp nd j i (by rw [List.length_map]; omega) (by rw [List.length_map]; exact hi) (by omega)
        rw [List.getElem_map, List.getElem_map, ej] at q
        exact q e
      refine ⟨_, rfl, _, rfl, p, S, dx, _, _, rfl, ei _ _ hLp, SL.cl, SL.nK, sf_k _ _ _ _ _, _, rfl, kd, _, rfl, get_at (.inr ⟨od, ei _ _ hLk⟩) (List.mem_map_of_mem mem), kdA (W.ks.take i) at_, .inr W.ks[i].1, rfl, hdi, ?_, Ext.mut ei hD, ?_⟩
      · rw [kdA_len, List.length_take]
        exact Nat.lt_of_le_of_lt (show _ ≤ 60 by omega) (by decide)
      · rw [upd_same, putK_new (by rw [kdA_val, if_neg hni]), List.take_add_one, List.getElem?_eq_getElem hi]
        show _ = some (HO.dK (kdA (W.ks.take i ++ [W.ks[i]]) at_))
        unfold kdA
        rw [List.map_append]
        rfl
    rintro H7 ⟨e67, h7k⟩
    rw [kdA_len, List.take_length] at h7k
    refine ⟨e67 _ _ hLk, q D at_ _ hD0 (fun b o z => ?_) ?_⟩
    · by_cases c : b = kd
      · subst c
        rw [h4] at z
        rw [upd_same]
        exact z
      · rw [upd_ne c]
        exact e67 _ _ (hLo b o c z)
    · rw [upd_ne nDk]
      exact h7k
/-! ### System.seats -/
def spST (S C CP : Addr) : Sp := fun vs H Q _ => ∃ (p : Addr) (W : Wd), vs = [.ref p] ∧ SysW S C CP H p W ∧ ∀ (st : Addr) (xs : List V), H st = some (.tup xs) → DqAll H xs ((seatsOf W.ks).map seatD) → Q (.ref st) H
theorem sc_st : FnScope ["self"] ["self"] (defScope (cS 5)) := ⟨rfl, rfl, rfl, by decide +kernel, rfl, by decide +kernel, by decide +kernel⟩
theorem ok_st {f : Addr} {fd : FuncData} (F : Fun K "seats" "System.seats" (cS 5) f fd) (SL : ST K mg S) :
    FnOk P w K mg base CX0 1 f fd ["self"] (spST S C CP) := by
  refine F.ok sc_st (fun vs H Q E h => ?_) (fun cdv A outer s H vs Q E hr h => ?_)
  · obtain ⟨p, W, rfl, _⟩ := h
    rfl
  · obtain ⟨p, W, rfl, hS, q⟩ := h
    refine ⟨_, (pss_one (ps_ret (pe_fld (pv 0) rfl))), ?_⟩
    obtain ⟨⟨dx, lx, sx, kd, st, sp, xs, at_, h1, h2, h3, h4, h5, h6, h7, h8, gg⟩, gw⟩ := id hS
    exact ⟨_, rfl, p, S, dx, _, _, rfl, h1, SL.cl, SL.nT, sf_t _ _ _ _ _, q st xs h6 h7⟩
/-! ### kinds_of -/
def spKo (S C CP : Addr) : Sp := fun vs H Q _ => ∃ (p : Addr) (W : Wd), vs = [.ref p] ∧ SysO S C CP H p W ∧
  ∀ (l : Addr) (H' : Hp), H l = none → Ext H H' → H' l = some (.lst ((W.ks.map (·.1)).map V.str)) → Q (.ref l) H'
abbrev s_kinds_of : Stmt := (topS 39)
theorem sc_kinds_of : FnScope ["system"] ["system"] (defScope s_kinds_of) := ⟨rfl, rfl, rfl, by decide +kernel, rfl, by decide +kernel, by decide +kernel⟩
theorem ok_ko {f : Addr} {fd : FuncData} (F : Fun K "kinds_of" "kinds_of" s_kinds_of f fd) (T : BT mg) (SL : ST K mg S) (MKi : Cm P w K mg base S 1 "kinds" ["self"] (spKn S C CP)) :
    FnOk P w K mg base CX0 2 f fd ["system"] (spKo S C CP) := by
  obtain ⟨fK, fdK, FK, mK, bK⟩ := MKi.has
  refine F.ok sc_kinds_of (fun vs H Q E h => ?_) (fun cdv A outer s H vs Q E hr h => ?_)
  · obtain ⟨p, W, rfl, _⟩ := h
    rfl
  · obtain ⟨p, W, rfl, hS, q⟩ := h
    refine ⟨_, (pss_one (ps_ret (pe_callB (call_sortedD rfl) (by rfl) T.n_sorted (by decide +kernel) (pa_cons (pe_meth0 (pv 0) SL.cl mK FK (hr.mono (by decide)) bK .nil pass0) pa_nil)))), ?_⟩
    obtain ⟨⟨dx, lx, sx, kd, st, sp, xs, at_, h1, _⟩, gw⟩ := id hS
    refine ⟨_, rfl, p, dx, _, rfl, h1, sf_no _ _ _ _ _ (by decide +kernel), p, W, rfl, hS, fun d at2 H1 nd e1 h1d => ?_⟩
    have k3 := gw.gs.few
    refine ⟨d, _, W.ks.map (·.1), rfl, Rd.of h1d, kdA_keys W.ks at2, by rw [List.length_map]; omega, fun us l hperm hso hl => ?_⟩
    obtain rfl : us = W.ks.map (·.1) := sorted_one hso gw.gs.so hperm
    exact q l _ (e1.free hl) (e1.trans (Ext.new hl)) upd_same
end
end K41

set_option Elab.async false
set_option linter.all false
set_option maxRecDepth 100000
set_option maxHeartbeats 4000000
namespace K41
open PySem PySem.Spec PyProof.Rows L2 Ol RZ
open TL (tl)
/-! ### how many of a kind are out -/
def outs : List Seat → List Nat → Str → List Nat
  | x :: ss, c :: cs, k => if x.1 = k then c :: outs ss cs k else outs ss cs k
  | _, _, _ => []
theorem outs_snoc (x : Seat) (c : Nat) (k : Str) : ∀ (a : List Seat) (b : List Nat), a.length = b.length → outs (a ++ [x]) (b ++ [c]) k = outs a b k ++ (if x.1 = k then [c] else [])
  | [], [], _ => by
    show outs [x] [c] k = _
    unfold outs
    unfold outs
    rfl
  | y :: a, d :: b, h => by
    have ih := outs_snoc x c k a b (by simpa using h)
    rw [List.cons_append, List.cons_append]
    unfold outs
    rw [ih]
    split <;> rfl
  | [], _ :: _, h => by simp at h
  | _ :: _, [], h => by simp at h
theorem outs_take {ss : List Seat} {cs : List Nat} (k : Str) (hl : ss.length = cs.length) {i : Nat} (h1 : i < ss.length) (h2 : i < cs.length) :
    outs (ss.take (i + 1)) (cs.take (i + 1)) k = outs (ss.take i) (cs.take i) k ++ (if ss[i].1 = k then [cs[i]] else []) := by
  rw [List.take_add_one, List.take_add_one, List.getElem?_eq_getElem h1, List.getElem?_eq_getElem h2]
  exact outs_snoc _ _ _ _ _ (by rw [List.length_take, List.length_take, hl])
theorem outs_len (k : Str) : ∀ (ss : List Seat) (cs : List Nat), (outs ss cs k).length ≤ ss.length
  | [], _ => Nat.zero_le _
  | _ :: _, [] => Nat.zero_le _
  | x :: ss, c :: cs => by
    have ih := outs_len k ss cs
    unfold outs
    split
    · exact Nat.succ_le_succ ih
    · exact Nat.le_succ_of_le ih
theorem outs_set_ne {k : Str} : ∀ (ss : List Seat) (cs : List Nat) (j y : Nat), (∀ x, ss[j]? = some x → x.1 ≠ k) → outs ss (cs.set j y) k = outs ss cs k
  | [], cs, _, _, _ => by
    cases cs <;> rfl
  | _ :: _, [], _, _, _ => by rw [List.set_nil]
  | x :: ss, c :: cs, 0, y, h => by
    rw [List.set_cons_zero]
    unfold outs
    rw [if_neg (h x rfl), if_neg (h x rfl)]
  | x :: ss, c :: cs, j + 1, y, h => by
    rw [List.set_cons_succ]
    unfold outs
    rw [outs_set_ne ss cs j y fun z hz => h z (by rw [List.getElem?_cons_succ]; exact hz)]
theorem outs_up (k : Str) : ∀ (ss : List Seat) (cs : List Nat) (j : Nat), (outs ss (cs.set j (cs.getD j 0 + 1)) k).sum ≤ (outs ss cs k).sum + 1
  | [], cs, _ => by
    cases cs <;> exact Nat.zero_le _
  | _ :: _, [], _ => by rw [List.set_nil]; exact Nat.le_succ _
  | x :: ss, c :: cs, 0 => by
    rw [List.set_cons_zero]
    unfold outs
    rw [List.getD_cons_zero]
    split
    · rw [List.sum_cons, List.sum_cons]; omega
    · omega
  | x :: ss, c :: cs, j + 1 => by
    have ih := outs_up k ss cs j
    rw [List.set_cons_succ, List.getD_cons_succ]
    unfold outs
    split
    · rw [List.sum_cons, List.sum_cons]; omega
    · exact ih
theorem outs_down {k : Str} : ∀ (ss : List Seat) (cs : List Nat) (j : Nat) (x : Seat), ss[j]? = some x → x.1 = k → 0 < cs.getD j 0 → (outs ss (cs.set j (cs.getD j 0 - 1)) k).sum + 1 = (outs ss cs k).sum
  | [], _, _, _, h, _, _ => by simp at h
  | _ :: _, [], _, _, _, _, h => by simp at h
  | y :: ss, c :: cs, 0, x, h, e, g => by
    rw [List.getElem?_cons_zero] at h
    cases h
    rw [List.getD_cons_zero] at g ⊢
    rw [List.set_cons_zero]
    unfold outs
    rw [if_pos e, if_pos e, List.sum_cons, List.sum_cons]
    omega
  | y :: ss, c :: cs, j + 1, x, h, e, g => by
    rw [List.getElem?_cons_succ] at h
    rw [List.getD_cons_succ] at g ⊢
    have ih := outs_down ss cs j x h e g
    rw [List.set_cons_succ]
    unfold outs
    split
    · rw [List.sum_cons, List.sum_cons]; omega
    · exact ih
theorem outs_zero (k : Str) : ∀ (ss : List Seat) (n : Nat), (outs ss (List.replicate n 0) k).sum = 0
  | [], n => by
    cases n <;> rfl
  | _ :: _, 0 => rfl
  | x :: ss, n + 1 => by
    rw [List.replicate_succ]
    unfold outs
    split
    · rw [List.sum_cons, outs_zero k ss n]
    · exact outs_zero k ss n
theorem cast_sum : ∀ l : List Nat, (l.map fun n : Nat => (n : Int)).sum = (l.sum : Int)
  | [] => rfl
  | n :: l => by
    rw [List.map_cons, List.sum_cons, List.sum_cons, cast_sum l]
    omega
namespace Wd
variable (W : Wd)
def out (s : Sd) (k : Str) : Nat := (outs (seatsOf W.ks) s.ct k).sum
end Wd
/-- one more, where a step has one of the kind enter -/
def ent (t : Stp) (k : Str) : Nat := if t.who = k ∧ t.pl = 0 then 1 else 0
section
variable {W : Wd}
theorem out_first (k : Str) : W.out W.first k = 0 := outs_zero k _ _
theorem seat_first {x : Seat} {y : Seat} (h : (seatsOf W.ks)[W.spot x]? = some y) : y = x := by
  unfold Wd.spot at h
  obtain ⟨hi, e⟩ := List.getElem?_eq_some_iff.mp h
  rw [← e]
  exact List.getElem_idxOf _
/-- who is out behind a step is no more than who is out ahead of it, the one that enters counted -/
theorem out_after (g : GW W) {s : Sd} (gs : GSd W s) {t : Stp} (h : t ∈ W.steps s) (k : Str) : W.out (W.after s t) k ≤ W.out s k + ent t k := by
  obtain ⟨h1, h2⟩ := mem_steps.mp h
  unfold Wd.out Wd.after
  by_cases c : t.who = ""
  · rw [if_pos c]
    exact Nat.le_add_right ..
  rw [if_neg c]
  show (outs (seatsOf W.ks) (W.recnt (W.recnt s.ct t.who t.pl (· - 1)) t.who (W.arm t).2 (· + 1)) k).sum ≤ _
  have up : ∀ ct : List Nat, (outs (seatsOf W.ks) (W.recnt ct t.who (W.arm t).2 (· + 1)) k).sum ≤ (outs (seatsOf W.ks) ct k).sum + 1 := fun ct => by
    unfold Wd.recnt
    split
    · exact Nat.le_succ _
    · exact outs_up k _ _ _
  have off : ∀ (ct : List Nat) (q : Nat) (f : Nat → Nat), t.who ≠ k → outs (seatsOf W.ks) (W.recnt ct t.who q f) k = outs (seatsOf W.ks) ct k := fun ct q f n => by
    unfold Wd.recnt
    split
    · rfl
    · exact outs_set_ne _ _ _ _ fun x hx => by rw [seat_first hx]; exact n
  by_cases ck : t.who = k
  · by_cases cp : t.pl = 0
    · have e : W.recnt s.ct t.who t.pl (· - 1) = s.ct := if_pos cp
      have e2 : ent t k = 1 := if_pos ⟨ck, cp⟩
      rw [e, e2]
      exact up s.ct
    · rcases (mem_theres g).mp h1 with ⟨z, _⟩ | ⟨kn, hk, hu, hp, hb⟩
      · exact absurd z c
      have hc : 0 < W.cnt s.ct (t.who, t.pl) := (of_decide_eq_true hb).resolve_left cp
      have e : W.recnt s.ct t.who t.pl (· - 1) = s.ct.set (W.spot (t.who, t.pl)) (W.cnt s.ct (t.who, t.pl) - 1) := if_neg cp
      have hs : (t.who, t.pl) ∈ seatsOf W.ks := mem_seats.mpr ⟨kn, hk, hu, by omega, hp⟩
      obtain ⟨hi, hx⟩ := spot_at hs
      have d := outs_down (k := k) (seatsOf W.ks) s.ct (W.spot (t.who, t.pl)) (t.who, t.pl) (List.getElem?_eq_some_iff.mpr ⟨hi, hx⟩) ck hc
      have u := up (W.recnt s.ct t.who t.pl (· - 1))
      rw [e] at u ⊢
      have d2 : (outs (seatsOf W.ks) (s.ct.set (W.spot (t.who, t.pl)) (W.cnt s.ct (t.who, t.pl) - 1)) k).sum + 1 = (outs (seatsOf W.ks) s.ct k).sum := d
      omega
  · rw [off _ _ _ ck, off _ _ _ ck]
    exact Nat.le_add_right ..
/-! ### how many of a kind a run needs -/
def need (W : Wd) (k : Str) : Sd → List Stp → Nat
  | _, [] => 0
  | s, t :: ts => max (W.out s k + ent t k) (need W k (W.after s t) ts)
theorem need_snoc (k : Str) (t : Stp) : ∀ (ts : List Stp) (s : Sd), need W k s (ts ++ [t]) = max (need W k s ts) (W.out (last W s ts) k + ent t k)
  | [], s => by
    show max _ 0 = max 0 _
    rw [Nat.max_comm]
    rfl
  | u :: ts, s => by
    show max _ (need W k _ (ts ++ [t])) = max (max _ _) _
    rw [need_snoc k t ts, Nat.max_assoc]
    rfl
theorem need_take (k : Str) {ts : List Stp} (s : Sd) {i : Nat} (h : i < ts.length) : need W k s (ts.take (i + 1)) = max (need W k s (ts.take i)) (W.out (last W s (ts.take i)) k + ent ts[i] k) := by
  rw [List.take_add_one, List.getElem?_eq_getElem h]
  exact need_snoc _ _ _ _
/-- the rows of the law: at each step, and behind the last one -/
def rowsN (W : Wd) (k : Str) : Sd → List Stp → List Nat
  | s, [] => [W.out s k]
  | s, t :: ts => (W.out s k + ent t k) :: rowsN W k (W.after s t) ts
def IsMax (l : List Nat) (m : Nat) : Prop := m ∈ l ∧ ∀ y ∈ l, y ≤ m
theorem rows_max (g : GW W) (k : Str) : ∀ (ts : List Stp) (s : Sd), GSd W s → RunOk W s ts → IsMax (rowsN W k s ts) (max (need W k s ts) (W.out s k))
  | [], s, _, _ => by
    have e : max (need W k s []) (W.out s k) = W.out s k := by
      show max 0 _ = _
      omega
    rw [e]
    exact ⟨List.mem_singleton.mpr rfl, fun y hy => by rw [List.mem_singleton.mp hy]; exact Nat.le_refl _⟩
  | t :: ts, s, gs, ⟨h1, h2⟩ => by
    have gs2 := run_good g gs (show RunOk W s [t] from ⟨h1, trivial⟩)
    obtain ⟨m1, m2⟩ := rows_max g k ts (W.after s t) gs2 h2
    have o := out_after g gs h1 k
    have e : max (need W k s (t :: ts)) (W.out s k) = max (W.out s k + ent t k) (max (need W k (W.after s t) ts) (W.out (W.after s t) k)) := by
      show max (max (W.out s k + ent t k) (need W k (W.after s t) ts)) (W.out s k) = _
      omega
    rw [e]
    refine ⟨?_, fun y hy => ?_⟩
    · rcases Nat.le_total (W.out s k + ent t k) (max (need W k (W.after s t) ts) (W.out (W.after s t) k)) with z | z
      · rw [Nat.max_eq_right z]
        exact List.mem_cons_of_mem _ m1
      · rw [Nat.max_eq_left z]
        exact List.mem_cons_self
    · rcases List.mem_cons.mp hy with rfl | hy
      · exact Nat.le_max_left ..
      · exact Nat.le_trans (m2 y hy) (Nat.le_max_right ..)
theorem rows_first (g : GW W) (gs : GSd W W.first) (k : Str) {ts : List Stp} (h : RunOk W W.first ts) : IsMax (rowsN W k W.first ts) (need W k W.first ts) := by
  have r := rows_max g k ts W.first gs h
  rw [out_first, Nat.max_eq_left (Nat.zero_le _)] at r
  exact r
theorem max_one {l : List Nat} {a b : Nat} (h1 : IsMax l a) (h2 : IsMax l b) : a = b := Nat.le_antisymm (h2.2 _ h1.1) (h1.2 _ h2.1)
theorem rows_len (k : Str) : ∀ (ts : List Stp) (s : Sd), (rowsN W k s ts).length = ts.length + 1
  | [], _ => rfl
  | t :: ts, s => by
    show (rowsN W k _ ts).length + 1 = _
    rw [rows_len k ts]
    rfl
theorem rows_get (k : Str) : ∀ (ts : List Stp) (s : Sd) (i : Nat) (h : i < ts.length), (rowsN W k s ts)[i]? = some (W.out (last W s (ts.take i)) k + ent ts[i] k)
  | [], _, _, h => absurd h (Nat.not_lt_zero _)
  | t :: ts, s, 0, _ => rfl
  | t :: ts, s, i + 1, h => by
    show (rowsN W k (W.after s t) ts)[i]? = _
    rw [rows_get k ts _ i (by simpa using h)]
    rfl
theorem rows_end (k : Str) : ∀ (ts : List Stp) (s : Sd), (rowsN W k s ts)[ts.length]? = some (W.out (last W s ts) k)
  | [], _ => rfl
  | t :: ts, s => by
    show (rowsN W k (W.after s t) ts)[ts.length]? = _
    rw [rows_end k ts]
    rfl
end
end K41

set_option Elab.async false
set_option linter.all false
set_option maxRecDepth 100000
set_option maxHeartbeats 4000000
namespace K41
open PySem PySem.Spec PyProof.Rows L2 Ol RZ
open TL (tl)
/-! ### a dict of numbers by kinds -/
def gdA (ks : List Knd) (f : Str → Nat) : List (Key × V) := ks.map fun k => (.inr k.1, .int (f k.1 : Int))
theorem gdA_len (ks : List Knd) (f : Str → Nat) : (gdA ks f).length = ks.length := List.length_map ..
theorem gdA_congr {ks : List Knd} {f g : Str → Nat} (h : ∀ k ∈ ks, f k.1 = g k.1) : gdA ks f = gdA ks g := List.map_congr_left fun k hk => by rw [h k hk]
theorem gdA_val {ks : List Knd} {f : Str → Nat} {x : Str} (h : x ∈ ks.map (·.1)) : valV (gdA ks f) (.inr x) = some (.int (f x : Int)) := by
  induction ks with
  | nil => cases h
  | cons k ks ih =>
    unfold gdA
    rw [List.map_cons]
    by_cases c : k.1 = x
    · rw [valV_pos (by rw [c]), c]
    · rw [valV_neg (fun z => c (by injection z))]
      rcases List.mem_cons.mp h with z | z
      · exact absurd z.symm c
      · exact ih z
theorem gdA_none {ks : List Knd} {f : Str → Nat} {x : Str} (h : x ∉ ks.map (·.1)) : valV (gdA ks f) (.inr x) = none := by
  refine valV_none fun p hp e => h ?_
  obtain ⟨k, hk, rfl⟩ := List.mem_map.mp hp
  injection e with e
  exact List.mem_map.mpr ⟨k, hk, e⟩
theorem gdA_put {ks : List Knd} {f : Str → Nat} {x : Str} (m : Nat) (h : x ∈ ks.map (·.1)) : putK (gdA ks f) (.inr x) (.int (m : Int)) = gdA ks fun y => if y = x then m else f y := by
  unfold putK
  rw [valV_any, gdA_val h]
  show (gdA ks f).map _ = _
  unfold gdA
  rw [List.map_map]
  refine List.map_congr_left fun k _ => ?_
  show (if (Sum.inr k.1 : Key) = .inr x then ((Sum.inr k.1 : Key), V.int (m : Int)) else (Sum.inr k.1, V.int (f k.1 : Int))) = _
  by_cases c : k.1 = x
  · rw [if_pos (by rw [c])]
    show _ = ((Sum.inr k.1 : Key), V.int ((if k.1 = x then m else f k.1 : Nat) : Int))
    rw [if_pos c]
  · rw [if_neg (fun z => c (by injection z))]
    show _ = ((Sum.inr k.1 : Key), V.int ((if k.1 = x then m else f k.1 : Nat) : Int))
    rw [if_neg c]
theorem gd_get {H : Hp} {d : Addr} {ks : List Knd} {f : Str → Nat} {x : Str} (h : H d = some (.dK (gdA ks f))) (m : x ∈ ks.map (·.1)) : DGet H d (.str x) (some (.int (f x : Int))) := by
  have z := DGet.k (k := .inr x) h
  rw [gdA_val m] at z
  exact z
section
variable {P : Program} {w : World} {K : PySem.W.Frag} {mg : Str → Option Value} {base : Heap} {C CP S R SP : Addr}
/-! ### needed -/
def needL (W : Wd) (ts : List Stp) : List Int := W.ks.map fun k => (need W k.1 W.first ts : Int)
def spNd (S C CP SP : Addr) : Sp := fun vs H Q E => ∃ (p l : Addr) (W : Wd) (ys : List V) (ts : List Stp), vs = [.ref p, .ref l] ∧ SysO S C CP H p W ∧ GSd W W.first ∧ H l = some (.lst ys) ∧ DqAll H ys (ts.map stpD) ∧ ts.length ≤ 100 ∧
  (RunOk W W.first ts → ∀ (r : Addr) (H' : Hp), H r = none → Ext H H' → H' r = some (.tup ((needL W ts).map V.int)) → Q (.ref r) H') ∧
  (∀ (k : Nat) (hk : k < ts.length), RunOk W W.first (ts.take k) → ts[k] ∉ W.steps (last W W.first (ts.take k)) → RzP E H SP "index" (.int (k : Int)))
abbrev s_needed : Stmt := (topS 40)
abbrev nNd : List Str := ["system", "steps", "kinds", "greatest", "kind", "standing", "who", "place", "_", "out", "seat", "count"]
theorem sc_needed : FnScope nNd ["system", "steps"] (defScope s_needed) := ⟨rfl, rfl, rfl, by decide +kernel, rfl, by decide +kernel, by decide +kernel⟩
theorem ok_nd {f : Addr} {fd : FuncData} (F : Fun K "needed" "needed" s_needed f fd) (T : BT mg) (SL : ST K mg S) (LL : LT K mg C) (nSum : mg "sum" = none) (nMax : mg "max" = none)
    (CKo : Ca P w K mg base 2 "kinds_of" ["system"] (spKo S C CP)) (MRu : CmN P w K mg base S 9 "run" ["self", "standing", "steps"] (spRunX S C CP SP)) (PF : Pr P w K mg base S 3 "first" (spSF S C CP)) (PT : Pr P w K mg base S 1 "seats" (spST S C CP)) :
    FnOk P w K mg base (L2N.CX P w) 10 f fd ["system", "steps"] (spNd S C CP SP) := by
  obtain ⟨xF, fF, fdF, FF, prF, bF⟩ := PF.has
  obtain ⟨xT, fT, fdT, FT, prT, bT⟩ := PT.has
  refine okXN F sc_needed (fun vs H Q E h => ?_) (fun cdv A outer s0 H vs Q E hr h => ?_)
  · obtain ⟨p, l, W, ys, ts, rfl, _⟩ := h
    rfl
  · obtain ⟨p, l, W, ys, ts, rfl, hS, gf, hl, hy, t100, q1, q2⟩ := h
    refine ⟨_, (pss_cons (ps_set (i := 2) sc_needed.nd rfl (.inl rfl) (pe_ca CKo (hr.mono (by decide)) (by rfl) (pa_cons (pv 0) pa_nil)))
      (pss_cons (ps_set (i := 3) sc_needed.nd rfl (.inr rfl) (pe_dc (own := [("kind", 4)]) (g := gName 4) (tt := tYes) (tk := tVar 4) (tv := tC (.int 0)) rfl sc_needed.nd (pi_list (pv 2)) (blkOk_by (N := nNd) (sc := defScope s_needed) (by decide +kernel)) (fun _ _ _ _ _ => pg_name (i := 4) sc_needed.nd rfl (.inl rfl)) (fun _ _ _ _ _ => pts_nil) (fun _ _ _ _ _ => pv 4) (fun _ _ _ _ _ => pe_int)))
      (pss_cons (ps_for (passes_of rfl) rfl (pi_zip (by rfl) LL.n_zip (pa_cons (pe_cmN MRu SL.cl (hr.mono (by decide)) (fun σ => passAtN (L2N.takes_of rfl rfl rfl rfl) σ) (pv 0) (pa_cons (pe_prop (pv 0) SL.cl prF FF (hr.mono (by decide)) bF .nil pass0 rfl) (pa_cons (pv 1) pa_nil))) (pa_cons (pv 1) pa_nil)))
          (pg_tup (by rfl) (pgs_cons (pg_name (i := 5) sc_needed.nd rfl (.inl rfl)) (pgs_cons (pg_tup (by rfl) (pgs_cons (pg_name (i := 6) sc_needed.nd rfl (.inl rfl)) (pgs_cons (pg_name (i := 7) sc_needed.nd rfl (.inl rfl)) (pgs_cons (pg_name (i := 8) sc_needed.nd rfl (.inl rfl)) pgs_nil)))) pgs_nil)))
        (pss_one (ps_for (passes_of rfl) rfl (pi_list (pv 2)) (pg_name (i := 4) sc_needed.nd rfl (.inr rfl))
          (pss_cons (ps_set (i := 9) sc_needed.nd rfl (.inl rfl) (pe_callB (cr_sum rfl) (by rfl) nSum (by decide +kernel) (pa_cons (pe_lc (own := [("seat", 10), ("count", 11)]) (g := gTup K 2 (gCons (gName 10) (gCons (gName 11) gNil))) (tt := tTest (tOp rEq (tOp (rIxT K) (tVar 10) (tC (.int 0))) (tVar 4))) (te := tVar 11) rfl sc_needed.nd
              (pi_zipA (by rfl) LL.n_zip (pa_cons (pe_prop (pv 0) SL.cl prT FT (hr.mono (by decide)) bT .nil pass0 rfl) (pa_cons (pe_ix ix_tup (pv 5) pe_int (fun _ _ => rfl)) pa_nil))) (blkOk_by (N := nNd) (sc := defScope s_needed) (by decide +kernel))
              (fun _ _ _ _ _ => pg_tup (by rfl) (pgs_cons (pg_name (i := 10) sc_needed.nd rfl (.inl rfl)) (pgs_cons (pg_name (i := 11) sc_needed.nd rfl (.inl rfl)) pgs_nil)))
              (fun _ _ _ _ _ => pts_one (pt_cmpR op_eq (pe_ix ix_tup (pv 10) pe_int (fun _ _ => rfl)) (pv 4) (nomark _))) (fun _ _ _ _ _ => pv 11)) pa_nil)))
          (pss_cons (ps_if (PW.pt (pw_and (pt_cmpR op_eq (pv 6) (pv 4) (nomark _)) (pw_and1 (pt_cmpR op_eq (pv 7) pe_int (nomark _))))) (pss_one (ps_set (i := 9) sc_needed.nd rfl (.inl rfl) (pe_op op_add (pv 9) pe_int))) pss_nil)
          (pss_one (ps_dput (hu_of hr) (pv 3) (pv 4) (pe_callB (call_max2 rfl) (by rfl) nMax (by decide +kernel) (pa_cons (pe_dget (hu_of hr) (pv 3) (pv 4) (fun _ _ => rfl)) (pa_cons (pv 9) pa_nil))) rfl)))))))
      (pss_one (ps_ret (pe_callTy call_tuple_of (by rfl) T.n_tuple (by decide +kernel) (pa_cons (pe_lc (own := [("kind", 4)]) (g := gName 4) (tt := tYes) (te := tDGet (tVar 3) (tVar 4)) rfl sc_needed.nd (pi_list (pv 2)) (blkOk_by (N := nNd) (sc := defScope s_needed) (by decide +kernel)) (fun _ _ _ _ _ => pg_name (i := 4) sc_needed.nd rfl (.inl rfl)) (fun _ _ _ _ _ => pts_nil) (fun _ _ _ _ _ => pe_dget (hu_of hr) (pv 3) (pv 4) (fun _ _ => rfl))) pa_nil))))))), ?_⟩
    obtain ⟨⟨dx, lx, sx, kd, st, sp, xs, at_, h1, _⟩, gw⟩ := id hS
    have k3 := gw.gs.few
    have nd := gw.gs.nd
    have ly : ys.length = ts.length := by rw [hy.len, List.length_map]
    have ml : ((W.ks.map (·.1)).map V.str).length = W.ks.length := by rw [List.length_map, List.length_map]
    have ltn : ∀ i (hi : i < W.ks.length), W.ks[i].1 ∉ (W.ks.take i).map (·.1) := fun i hi z => by
      obtain ⟨k, hk, e⟩ := List.mem_map.mp z
      obtain ⟨j, hj, ej⟩ := List.getElem_of_mem hk
      rw [List.length_take] at hj
      rw [List.getElem_take] at ej
      have q := List.pairwise_iff_getElem.mp nd j i (by rw [List.length_map]; omega) (by rw [List.length_map]; exact hi) (by omega)
      rw [List.getElem_map, List.getElem_map, ej] at q
      exact q e
    refine ⟨_, rfl, p, W, rfl, hS, fun lk H1 nlk e1 h1k => ?_⟩
    have h1p := e1 _ _ h1
    refine ⟨_, rfl, lk, rfl, ⟨_, SqL.of h1k⟩, fun D hD => ?_⟩
    refine dc_it (w := walk_list (xs := (W.ks.map (·.1)).map V.str)) (fun i Hi => Ext H1 Hi ∧ Hi D = some (.dK (gdA (W.ks.take i) fun _ => 0))) ⟨Ext.new hD, by rw [List.take_zero]; exact upd_same⟩ (fun i Hi _ h => SqL.of (h.1 _ _ h1k)) ?_ ?_
    · rintro i v Hi H' hi ⟨ei, hdi⟩ ⟨rfl, hvi⟩
      rw [ml] at hi
      rw [List.getElem?_map, List.getElem?_map, List.getElem?_eq_getElem hi] at hvi
      cases hvi
      refine ⟨rfl, ?_⟩
      refine tyes ?_
      refine ⟨_, rfl, gdA (W.ks.take i) _, .inr W.ks[i].1, rfl, hdi, ?_, Ext.mut ei hD, ?_⟩
      · rw [gdA_len, List.length_take]
        exact Nat.lt_of_le_of_lt (show _ ≤ 60 by omega) (by decide)
      · rw [upd_same, putK_new (gdA_none (ltn i hi)), List.take_add_one, List.getElem?_eq_getElem hi]
        show _ = some (HO.dK (gdA (W.ks.take i ++ [W.ks[i]]) _))
        unfold gdA
        rw [List.map_append]
        rfl
    rintro H2 ⟨e12, h2D⟩
    rw [ml, List.take_length] at h2D
    have e02 := e1.trans e12
    have h2p := e12 _ _ h1p
    have h2k := e12 _ _ h1k
    have hSW2 := hS.w.up e02
    have nDl : l ≠ D := fun z => by rw [z, e1.free hD] at hl; cases hl
    have nDk : lk ≠ D := fun z => by rw [z, hD] at h1k; cases h1k
    have nDp : p ≠ D := fun z => by rw [z, hD] at h1p; cases h1p
    -- the run
    refine ⟨_, rfl, p, dx, _, rfl, h2p, sf_no _ _ _ _ _ (by decide +kernel), _, rfl, p, dx, _, rfl, h2p, p, W, rfl, hSW2, fun v H3 e23 hv => ⟨_, rfl, ?_⟩⟩
    have e03 := e02.trans e23
    refine ⟨p, l, W, v, W.first, ys, ts, rfl, hSW2.up e23, hv, gf, e03 _ _ hl, hy.up e03, t100, fun ro r zs H4 nr e34 h4r hz => ?_, fun k hk ro nst d H' e hd => q2 k hk ro nst d H' (e03.trans e) hd⟩
    have e04 := e03.trans e34
    have e24 := e23.trans e34
    have h4l := e04 _ _ hl
    have h4D := e24 _ _ h2D
    have h4k := e24 _ _ h2k
    have nrD : r ≠ D := fun z => by rw [z, e23 _ _ h2D] at nr; cases nr
    refine ⟨_, rfl, r, l, zs, ys, rfl, SqL.of h4r, SqL.of h4l, ?_⟩
    have lz : zs.length = ts.length + 1 := by
      rw [hz.len]
      unfold endD
      rw [List.length_map, ends_len]
    have eBD : Ext H (del H4 D) := ext_to e04 (e1.free hD)
    have hz' : DqAll (del H4 D) zs (endD W W.first ts) := DqAll.off h4D (DqAll.up del_ext hz) (NdAll.of fun d hd => by
      obtain ⟨x, _, rfl⟩ := List.mem_map.mp hd
      exact nd_stg _)
    refine for_it (walk_zip (n := ts.length) (xs := zs) (ys := ys) (by omega)) (fun i σ H' => ∃ v4 v5 v6 v7 v8 v9, σ = [some (.ref p), some (.ref l), some (.ref lk), some (.ref D), v4, v5, v6, v7, v8, v9, none, none] ∧ Ext (del H4 D) H' ∧ H' D = some (.dK (gdA W.ks fun k => need W k W.first (ts.take i))))
      ⟨none, none, none, none, none, none, rfl, del_ext, h4D⟩ (fun i σ H' _ ⟨_, _, _, _, _, _, _, e, _⟩ => ⟨SqL.of (e _ _ ((del_ne nrD).trans h4r)), SqL.of (e _ _ ((del_ne nDl).trans h4l))⟩) ?_ ?_
    · rintro i x σ H5 H6 hi ⟨v4, v5, v6, v7, v8, v9, rfl, e5, h5D⟩ ⟨T', y1, y2, rfl, hT, rfl, g1, g2⟩
      obtain ⟨x', hx', dx'⟩ := DqAll_get hy i (stpD ts[i]) (by rw [List.getElem?_map, List.getElem?_eq_getElem hi]; rfl)
      dsimp only at g1 g2
      rw [hx'] at g2
      cases g2
      obtain ⟨xl, hxl, dxl⟩ := DqAll_get hz' i (stgD ((last W W.first (ts.take i)).std W.ns)) (by
        unfold endD
        rw [List.getElem?_map, ends_get _ _ (Nat.le_of_lt hi)]
        rfl)
      rw [hxl] at g1
      cases g1
      obtain ⟨ta, rfl, ht1⟩ := stp_inv dx'
      have eT := Ext.new (o := .tup [y1, .ref ta]) hT
      have e46 := e5.trans eT
      have e06 := eBD.trans e46
      have h6D := eT _ _ h5D
      obtain ⟨a5, b5, c5, xs5, rfl, s1, s2, s3, s4⟩ := stg_inv dxl
      refine ⟨T', _, rfl, SqT.of upd_same, rfl, _, _, rfl, _, _, rfl, ta, _, rfl, SqT.of (e06 _ _ ht1), rfl, _, _, rfl, _, _, rfl, _, _, rfl, rfl, rfl, ?_⟩
      generalize upd H5 T' (.tup [.ref a5, .ref ta]) = H6 at eT e46 e06 h6D ⊢
      have hS6 := hS.w.up e06
      have h6p := e06 _ _ h1
      have h6k := e46 _ _ ((del_ne nDk).trans h4k)
      have gsi : GSd W (last W W.first (ts.take i)) := run_good gw gf (run_take ro i)
      refine ⟨_, rfl, lk, rfl, ⟨_, SqL.of h6k⟩, ?_⟩
      refine for_list (xs := (W.ks.map (·.1)).map V.str) (fun j σ H' => ∃ v4 v9, σ = [some (.ref p), some (.ref l), some (.ref lk), some (.ref D), v4, some (.ref a5), some (.str ts[i].who), some (.int (ts[i].pl : Int)), some (.int (ts[i].ix : Int)), v9, none, none] ∧ Ext (del H6 D) H' ∧
          H' D = some (.dK (gdA W.ks fun k => if k ∈ (W.ks.take j).map (·.1) then need W k W.first (ts.take (i + 1)) else need W k W.first (ts.take i))))
        ⟨v4, v9, rfl, del_ext, by rw [h6D]; rfl⟩ (fun j σ H' _ ⟨_, _, _, e, _⟩ => SqL.of (e _ _ ((del_ne nDk).trans h6k))) ?_ ?_
      · rintro j x σ H7 hxj ⟨v4', v9', rfl, e7, h7D⟩
        have hj : j < W.ks.length := by have := (List.getElem?_eq_some_iff.mp hxj).1; rw [ml] at this; exact this
        rw [List.getElem?_map, List.getElem?_map, List.getElem?_eq_getElem hj] at hxj
        cases hxj
        have mem : W.ks[j] ∈ W.ks := List.getElem_mem hj
        have e07 : Ext H H7 := (ext_to e06 (e1.free hD)).trans e7
        have h7p := e07 _ _ h1
        have e67 : ∀ b o, b ≠ D → H6 b = some o → H7 b = some o := fun b o n z => e7 _ _ ((del_ne n).trans z)
        have nDa : ∀ {b o}, (del H4 D) b = some o → b ≠ D := fun {b o} z c => by rw [c, del_same] at z; cases z
        have g1 := e67 _ _ (nDa s1) (e46 _ _ s1)
        have g4 := e67 _ _ (nDa s4) (e46 _ _ s4)
        refine ⟨_, rfl, p, dx, _, rfl, h7p, p, W, rfl, hS.w.up e07, fun st2 xs2 hst hxs => ?_⟩
        refine ⟨_, rfl, a5, _, 2, _, rfl, rfl, SqT.of g1, rfl, st2, c5, xs2, _, rfl, .inr ⟨SqT.of hst, SqT.of g4, fun D2 hD2 => ?_⟩⟩
        have lse : xs2.length = (seatsOf W.ks).length := by rw [hxs.len, List.length_map]
        have lct : (last W W.first (ts.take i)).ct.length = (seatsOf W.ks).length := gsi.ct
        have s15 := seats60 gw
        refine lc1_acc (walk_zipT (xs := xs2) (ys := (last W W.first (ts.take i)).ct.map fun n : Nat => V.int (n : Int)) (n := (seatsOf W.ks).length) (by rw [List.length_map, lse, lct, Nat.min_self]))
          (fun m zs2 _ => zs2 = (outs ((seatsOf W.ks).take m) ((last W W.first (ts.take i)).ct.take m) W.ks[j].1).map fun n : Nat => V.int (n : Int)) (fun _ _ _ _ _ h => h) rfl hD2
          (fun m zs2 _ h => by
            rw [h, List.length_map]
            exact Nat.lt_of_le_of_lt (Nat.le_trans (outs_len _ _ _) (Nat.le_trans (by rw [List.length_take]; exact Nat.min_le_right ..) s15)) (by decide)) (fun H' e => ⟨SqT.of (e _ _ hst), SqT.of (e _ _ g4)⟩) ?_ ?_
        · rintro m y Ha Hb zs2 hm eA hya ⟨T2, z1, z2, rfl, hT2, rfl, u1, u2⟩ hzs QY QN kY kN
          dsimp only at u1 u2
          obtain ⟨x2, hx2, dx2⟩ := DqAll_get hxs m (seatD (seatsOf W.ks)[m]) (by rw [List.getElem?_map, List.getElem?_eq_getElem hm]; rfl)
          rw [hx2] at u1
          cases u1
          rw [List.getElem?_map, List.getElem?_eq_getElem (by rw [lct]; exact hm)] at u2
          cases u2
          obtain ⟨sa, rfl, hsa⟩ := seat_inv dx2
          have eT2 := Ext.new (o := .tup [.ref sa, .int ((last W W.first (ts.take i)).ct[m] : Int)]) hT2
          have tk := outs_take W.ks[j].1 lct.symm hm (by rw [lct]; exact hm)
          refine ⟨T2, _, rfl, SqT.of upd_same, rfl, _, _, rfl, _, _, rfl, rfl, rfl, ?_⟩
          refine ⟨_, rfl, sa, _, 0, _, rfl, rfl, SqT.of (eT2 _ _ (eA _ _ hsa)), rfl, _, rfl, rfl, _, rfl, ?_⟩
          refine ite2 (fun g => ?_) (fun g => ?_)
          · refine ⟨_, rfl, kY _ _ eT2 ?_⟩
            rw [hzs, tk, if_pos (by simpa using g), List.map_append]
            rfl
          · refine kN _ eT2 ?_
            rw [hzs, tk, if_neg (by simpa using g), List.append_nil]
        · rintro H8 zs2 e8 h8D hzs
          rw [List.take_of_length_le (Nat.le_refl _), List.take_of_length_le (Nat.le_of_eq lct)] at hzs
          have e08 := e07.trans e8
          have h8d := e8 _ _ h7D
          have h8k := e8 _ _ (e67 _ _ nDk h6k)
          refine ⟨D2, (outs (seatsOf W.ks) (last W W.first (ts.take i)).ct W.ks[j].1).map fun n : Nat => (n : Int), rfl, SqL.of ?_, ?_⟩
          · rw [h8D, hzs, List.map_map]
            rfl
          rw [cast_sum]
          have eo : (outs (seatsOf W.ks) (last W W.first (ts.take i)).ct W.ks[j].1).sum = W.out (last W W.first (ts.take i)) W.ks[j].1 := rfl
          rw [eo]
          dsimp only [gName]
          refine cutN (fun σ' H' => H' = H8 ∧ σ' = [some (.ref p), some (.ref l), some (.ref lk), some (.ref D), some (.str W.ks[j].1), some (.ref a5), some (.str ts[i].who), some (.int (ts[i].pl : Int)), some (.int (ts[i].ix : Int)), some (.int ((W.out (last W W.first (ts.take i)) W.ks[j].1 + ent ts[i] W.ks[j].1 : Nat) : Int)), none, none]) (fun W' hW => ?_) ?_
          · refine ⟨_, rfl, _, rfl, rfl, _, rfl, ?_⟩
            refine ite2 (fun g => ?_) (fun g => ?_)
            · have w1 : ts[i].who = W.ks[j].1 := by simpa using g
              refine ⟨_, rfl, rfl, _, rfl, ?_⟩
              refine ite2 (fun g2 => ?_) (fun g2 => ?_)
              · have p0 : ts[i].pl = 0 := by
                  have z : (ts[i].pl : Int) = 0 := by simpa using g2
                  omega
                refine ⟨_, rfl, _, _, rfl, rfl, ?_⟩
                refine hW _ _ ⟨rfl, ?_⟩
                rw [show ent ts[i] W.ks[j].1 = 1 from if_pos ⟨w1, p0⟩]
                rfl
              · refine hW _ _ ⟨rfl, ?_⟩
                rw [show ent ts[i] W.ks[j].1 = 0 from if_neg fun z => g2 (by rw [z.2]; rfl)]
                rfl
            · refine iteF ?_
              refine hW _ _ ⟨rfl, ?_⟩
              rw [show ent ts[i] W.ks[j].1 = 0 from if_neg fun z => g (by rw [z.1]; simp)]
              rfl
          · rintro σ' H' ⟨rfl, rfl⟩
            have mk : W.ks[j].1 ∈ W.ks.map (·.1) := List.mem_map_of_mem mem
            have nt := need_take (W := W) W.ks[j].1 W.first hi
            refine ⟨_, rfl, _, rfl, D, _, rfl, gd_get h8d mk, _, rfl, _, _, rfl, ?_⟩
            rw [if_neg (ltn j hj)]
            have em : (if ((W.out (last W W.first (ts.take i)) W.ks[j].1 + ent ts[i] W.ks[j].1 : Nat) : Int) > (need W W.ks[j].1 W.first (ts.take i) : Int) then ((W.out (last W W.first (ts.take i)) W.ks[j].1 + ent ts[i] W.ks[j].1 : Nat) : Int) else (need W W.ks[j].1 W.first (ts.take i) : Int)) = (need W W.ks[j].1 W.first (ts.take (i + 1)) : Int) := by
              rw [nt]
              split <;> omega
            rw [em]
            refine ⟨_, rfl, _, rfl, D, _, rfl, DPut.k (k := .inr W.ks[j].1) h8d (by rw [gdA_len]; exact Nat.lt_of_le_of_lt (show _ ≤ 60 by omega) (by decide)), ?_⟩
            refine ⟨_, _, rfl, Ext.mut (e7.trans e8) del_same, ?_⟩
            rw [upd_same, gdA_put _ mk, gdA_congr]
            intro k hk
            have tj : (W.ks.take (j + 1)).map (·.1) = (W.ks.take j).map (·.1) ++ [W.ks[j].1] := by
              rw [List.take_add_one, List.getElem?_eq_getElem hj, Option.toList_some, List.map_append]
              rfl
            rw [tj]
            by_cases c : k.1 = W.ks[j].1
            · rw [if_pos c, if_pos (by rw [c]; simp), c]
            · rw [if_neg c]
              by_cases c2 : k.1 ∈ (W.ks.take j).map (·.1)
              · rw [if_pos c2, if_pos (List.mem_append_left _ c2)]
              · rw [if_neg c2, if_neg]
                intro z
                rcases List.mem_append.mp z with z | z
                · exact c2 z
                · exact c (List.mem_singleton.mp z)
      · rintro σ H7 ⟨v4', v9', rfl, e7, h7D⟩
        rw [ml, List.take_length, gdA_congr (g := fun k => need W k W.first (ts.take (i + 1))) (fun k hk => if_pos (List.mem_map_of_mem hk))] at h7D
        exact ⟨_, _, _, _, _, _, rfl, fun b o z => e7 _ _ (by rw [del_ne (fun c => by rw [c, del_same] at z; cases z)]; exact e46 _ _ z), h7D⟩
    · rintro σ H5 ⟨v4, v5, v6, v7, v8, v9, rfl, e5, h5D⟩
      rw [List.take_length] at h5D
      have e05 := eBD.trans e5
      have h5k := e5 _ _ ((del_ne nDk).trans h4k)
      refine ⟨_, rfl, lk, rfl, ⟨_, SqL.of h5k⟩, fun D3 hD3 => ?_⟩
      refine lc1_acc (walk_list (xs := (W.ks.map (·.1)).map V.str)) (fun m zs2 _ => zs2 = ((W.ks.take m).map fun k => (need W k.1 W.first ts : Int)).map V.int) (fun _ _ _ _ _ h => h) rfl hD3
        (fun m zs2 _ h => by
          rw [h, List.length_map, List.length_map]
          exact Nat.lt_of_le_of_lt (Nat.le_trans (by rw [List.length_take]; exact Nat.min_le_right ..) k3) (by decide)) (fun H' e => SqL.of (e _ _ h5k)) ?_ ?_
      · rintro m y Ha Hb zs2 hm eA hya ⟨rfl, hyv⟩ hzs QY QN kY kN
        rw [ml] at hm
        rw [List.getElem?_map, List.getElem?_map, List.getElem?_eq_getElem hm] at hyv
        cases hyv
        refine ⟨rfl, ?_⟩
        refine tyes ?_
        refine ⟨_, rfl, _, rfl, D, _, rfl, gd_get (eA _ _ h5D) (List.mem_map_of_mem (List.getElem_mem hm)), kY _ _ (Ext.refl _) ?_⟩
        rw [hzs, List.take_add_one, List.getElem?_eq_getElem hm, Option.toList_some, List.map_append, List.map_append]
        rfl
      · rintro H8 zs2 e8 h8D hzs
        rw [ml, List.take_length] at hzs
        refine ⟨D3, _, rfl, .inl ⟨SqL.of h8D, fun r2 hr2 => ?_⟩⟩
        have er := Ext.new (o := .tup zs2) hr2
        refine q1 ro r2 _ (e05.free (e8.free hr2)) (e05.trans (e8.trans er)) ?_
        rw [upd_same, hzs]
        rfl
end
end K41

set_option Elab.async false
set_option linter.all false
set_option maxRecDepth 100000
set_option maxHeartbeats 4000000
namespace K41
open PySem PySem.Spec PyProof.Rows L2 Ol RZ
open TL (tl)
theorem int_pick (zs : List Int) {r : Int} (h0 : 0 ≤ r) (h1 : r < zs.length) : ∃ v ∈ zs, atI (zs.map V.int) r = some (.int v) := by
  obtain ⟨n, rfl⟩ := Int.eq_ofNat_of_zero_le h0
  have hn : n < zs.length := by omega
  exact ⟨zs[n], List.getElem_mem hn, atI_nat (by rw [List.getElem?_map, List.getElem?_eq_getElem hn]; rfl)⟩
section
variable {P : Program} {w : World} {K : PySem.W.Frag} {mg : Str → Option Value} {base : Heap} {C CP S R SP : Addr}
/-! ### _law_world -/
def spWo : Sp := fun vs H Q _ => ∃ (a : Addr), vs = [.ref a] ∧ Sys H ∧ Bag H a ∧
  ∀ (r : Addr) (H' : Hp) (g : Int) (ps : List (Str × Int)) (sv : List Place) (kx : List Knd), H r = none → Ext H H' → g ≤ 3 → MdlAt H' r ps sv kx → GMdl g ps sv kx → Q (.ref r) H'
abbrev s__law_world : Stmt := (topS 67)
theorem sc__law_world : FnScope ["_law_bag_here", "_law_many", "_law_kinds"] ["_law_bag_here"] (defScope s__law_world) := ⟨rfl, rfl, rfl, by decide +kernel, rfl, by decide +kernel, by decide +kernel⟩
theorem ok_wo {f : Addr} {fd : FuncData} (F : Fun K "_law_world" "_law_world" s__law_world f fd)
    (CT : Ca P w K mg base 1 "_law_take" ["_law_bag_here", "_law_many"] spTake) (CMo : Ca P w K mg base 4 "_law_model" ["_law_bag_here", "_law_many", "_law_greatest", "_law_kinds", "_law_places"] spModel) :
    FnOk P w K mg base CX0 5 f fd ["_law_bag_here"] spWo := by
  refine F.ok sc__law_world (fun vs H Q E h => ?_) (fun cdv A outer s H vs Q E hr h => ?_)
  · obtain ⟨a, rfl, _⟩ := h
    rfl
  · obtain ⟨a, rfl, hS, hb, q⟩ := h
    refine ⟨_, (pss_cons (ps_par (i := 1) (j := 2) rfl sc__law_world.nd rfl rfl (by decide) rfl rfl (pa_cons (pe_ix ix_list (pe_lst (pa_cons pe_int (pa_cons pe_int (pa_cons pe_int (pa_cons pe_int (pa_cons pe_int (pa_cons pe_int (pa_cons pe_int (pa_cons pe_int pa_nil))))))))) (pe_ca CT (hr.mono (by decide)) (by rfl) (pa_cons (pv 0) (pa_cons pe_int pa_nil))) (fun _ _ => rfl)) (pa_cons (pe_ix ix_list (pe_lst (pa_cons pe_int (pa_cons pe_int (pa_cons pe_int (pa_cons pe_int (pa_cons pe_int (pa_cons pe_int pa_nil))))))) (pe_ca CT (hr.mono (by decide)) (by rfl) (pa_cons (pv 0) (pa_cons pe_int pa_nil))) (fun _ _ => rfl)) pa_nil)) (by rfl))
    (pss_one (ps_ret (pe_ca CMo (hr.mono (by decide)) (by rfl) (pa_cons (pv 0) (pa_cons (pv 1) (pa_cons (pe_ix ix_list (pe_lst (pa_cons pe_int (pa_cons pe_int (pa_cons pe_int pa_nil)))) (pe_op op_sub (pv 1) pe_int) (fun _ _ => rfl)) (pa_cons (pv 2) (pa_cons (pe_ix ix_list (pe_lst (pa_cons pe_int (pa_cons pe_int (pa_cons pe_int pa_nil)))) (pe_ca CT (hr.mono (by decide)) (by rfl) (pa_cons (pv 0) (pa_cons pe_int pa_nil))) (fun _ _ => rfl)) pa_nil))))))))), ?_⟩
    refine ⟨by show 8 ≤ sizeLine; decide, fun l1 hl1 => ⟨_, rfl, a, 8, rfl, hb.up (Ext.new hl1), by decide, by decide, fun r r0 r1 => ?_⟩⟩
    have e1 := Ext.new (o := .lst (([1, 1, 2, 2, 1, 2, 1, 3] : List Int).map V.int)) hl1
    obtain ⟨v1, m1, p1⟩ := int_pick [1, 1, 2, 2, 1, 2, 1, 3] r0 r1
    refine ⟨l1, _, r, .int v1, rfl, rfl, SqL.of upd_same, p1, ?_⟩
    have b1 : 1 ≤ v1 ∧ v1 ≤ 3 := by
      simp only [List.mem_cons, List.not_mem_nil, or_false] at m1
      omega
    have e1' : Ext H (upd H l1 (.lst (([1, 1, 2, 2, 1, 2, 1, 3] : List Int).map V.int))) := e1
    refine ⟨by show 6 ≤ sizeLine; decide, fun l2 hl2 => ?_⟩
    have e2 : Ext H (upd (upd H l1 (.lst (([1, 1, 2, 2, 1, 2, 1, 3] : List Int).map V.int))) l2 (.lst (([1, 1, 2, 1, 0, 2] : List Int).map V.int))) := e1'.trans (Ext.new hl2)
    refine ⟨_, rfl, a, 6, rfl, hb.up e2, by decide, by decide, fun r2 r20 r21 => ?_⟩
    obtain ⟨v2, m2, p2⟩ := int_pick [1, 1, 2, 1, 0, 2] r20 r21
    have b2 : 0 ≤ v2 ∧ v2 ≤ 2 := by
      simp only [List.mem_cons, List.not_mem_nil, or_false] at m2
      omega
    refine ⟨l2, _, r2, .int v2, rfl, rfl, SqL.of upd_same, p2, _, _, rfl, ?_⟩
    refine ⟨_, rfl, _, rfl, by show 3 ≤ sizeLine; decide, fun l3 hl3 => ?_⟩
    have e3 := e2.trans (Ext.new (o := .lst [V.int 3, V.int 2, V.int 1]) hl3)
    obtain ⟨v3, m3, p3⟩ := int_pick [3, 2, 1] (show (0 : Int) ≤ v1 - 1 by omega) (show v1 - 1 < 3 by omega)
    have b3 : 1 ≤ v3 ∧ v3 ≤ 3 := by
      simp only [List.mem_cons, List.not_mem_nil, or_false] at m3
      omega
    refine ⟨_, rfl, _, _, rfl, rfl, l3, _, v1 - 1, .int v3, rfl, rfl, SqL.of upd_same, p3, _, rfl, by show 3 ≤ sizeLine; decide, fun l4 hl4 => ?_⟩
    have e4 := e3.trans (Ext.new (o := .lst [V.int 2, V.int 3, V.int 4]) hl4)
    refine ⟨_, rfl, a, 3, rfl, hb.up e4, by decide, by decide, fun r4 r40 r41 => ?_⟩
    obtain ⟨v4, m4, p4⟩ := int_pick [2, 3, 4] r40 r41
    have b4 : 1 ≤ v4 ∧ v4 ≤ 4 := by
      simp only [List.mem_cons, List.not_mem_nil, or_false] at m4
      omega
    refine ⟨l4, _, r4, .int v4, rfl, rfl, SqL.of upd_same, p4, ?_⟩
    exact ⟨a, v1, v3, v2, v4, rfl, sysUp hS e4, hb.up e4, b1.1, b1.2, b3.1, b3.2, b2.1, b2.2, b4.1, b4.2, fun r H' ps sv kx nr e hM hG => q r H' v3 ps sv kx (e4.free nr) (e4.trans e) b3.2 hM hG⟩
/-! ### _law_ends -/
def spEn : Sp := fun vs H Q _ => ∃ (m l : Addr) (W : Wd) (ys : List V) (ts : List Stp), vs = [.ref m, .ref l] ∧ MdlW H m W ∧ H l = some (.lst ys) ∧ DqAll H ys (ts.map stpD) ∧ RunOk W W.first ts ∧ ts.length ≤ 100 ∧
  ∀ (r : Addr) (zs : List V) (H' : Hp), H r = none → Ext H H' → H' r = some (.lst zs) → DqAll (del H' r) zs (endD W W.first ts) → Q (.ref r) H'
abbrev s__law_ends : Stmt := (topS 68)
theorem sc__law_ends : FnScope ["_law_model_here", "_law_steps_here", "_law_found", "_law_step"] ["_law_model_here", "_law_steps_here"] (defScope s__law_ends) := ⟨rfl, rfl, rfl, by decide +kernel, rfl, by decide +kernel, by decide +kernel⟩
theorem ok_en {f : Addr} {fd : FuncData} (F : Fun K "_law_ends" "_law_ends" s__law_ends f fd)
    (CFi : Ca P w K mg base 2 "_law_first" ["_law_model_here"] spFi) (CAf : Ca P w K mg base 2 "_law_after" ["_law_model_here", "_law_standing", "_law_step"] spLAf) :
    FnOk P w K mg base CX0 3 f fd ["_law_model_here", "_law_steps_here"] spEn := by
  refine F.ok sc__law_ends (fun vs H Q E h => ?_) (fun cdv A outer s H vs Q E hr h => ?_)
  · obtain ⟨m, l, W, ys, ts, rfl, _⟩ := h
    rfl
  · obtain ⟨m, l, W, ys, ts, rfl, hW, hl, hy, ro, t100, q⟩ := h
    refine ⟨_, (pss_cons (ps_set (i := 2) sc__law_ends.nd rfl (.inl rfl) (pe_lst (pa_cons (pe_ca CFi (hr.mono (by decide)) (by rfl) (pa_cons (pv 0) pa_nil)) pa_nil)))
    (pss_cons (ps_for PassesOwn.never rfl (pi_list (pv 1)) (pg_name (i := 3) sc__law_ends.nd rfl (.inl rfl))
      (pss_one (ps_expr (pe_bm PySem.F.plainAttrs_list PySem.F.slot_list_append PySem.F.type_list_append mt_append (pv 2) (pa_cons (pe_ca CAf (hr.mono (by decide)) (by rfl) (pa_cons (pv 0) (pa_cons (pe_ix ix_list (pv 2) (pe_un un_neg pe_int) (fun _ _ => rfl)) (pa_cons (pv 3) pa_nil)))) pa_nil)))))
    (pss_one (ps_ret (pv 2))))), ?_⟩
    have gw := hW.gw
    have gf := first_good hW
    have ly : ys.length = ts.length := by rw [hy.len, List.length_map]
    refine ⟨_, rfl, m, W, rfl, hW, fun v H1 e1 hv => ?_⟩
    refine ⟨by show 1 ≤ sizeLine; decide, fun F0 hF => ?_⟩
    have hF0 : H F0 = none := e1.free hF
    have eF := Ext.new (o := .lst [v]) hF
    have eB : Ext H (del (upd H1 F0 (.lst [v])) F0) := ext_to (e1.trans eF) hF0
    have hF1 : upd H1 F0 (.lst [v]) F0 = some (.lst [v]) := upd_same
    have hv2 : Dq (del (upd H1 F0 (.lst [v])) F0) v (stgD (W.first.std W.ns)) := hv.up (ext_to eF hF)
    generalize upd H1 F0 (.lst [v]) = H2 at eF eB hF1 hv2 ⊢
    have nlF : l ≠ F0 := fun z => by rw [z, hF0] at hl; cases hl
    refine ⟨_, rfl, l, rfl, ⟨_, SqL.of (del_ext _ _ (eB _ _ hl))⟩, ?_⟩
    refine for_list (xs := ys) (fun i σ H' => ∃ v3 zs, σ = [some (.ref m), some (.ref l), some (.ref F0), v3] ∧ Ext (del H2 F0) H' ∧ H' F0 = some (.lst zs) ∧ DqAll (del H' F0) zs (endD W W.first (ts.take i)))
      ⟨none, _, rfl, del_ext, hF1, .cons hv2 .nil⟩ (fun i σ H' _ ⟨_, _, _, e, _⟩ => SqL.of (e _ _ (eB _ _ hl))) ?_ ?_
    · rintro i x σ H3 hx ⟨v3, zs, rfl, e3, h3F, h3z⟩
      have hi : i < ts.length := by have := (List.getElem?_eq_some_iff.mp hx).1; omega
      obtain ⟨x', hx', dx'⟩ := DqAll_get hy i (stpD ts[i]) (by rw [List.getElem?_map, List.getElem?_eq_getElem hi]; rfl)
      rw [hx'] at hx
      cases hx
      have e03 := eB.trans e3
      have lz : zs.length = i + 1 := by
        rw [h3z.len]
        unfold endD
        rw [List.length_map, ends_len, List.length_take]
        omega
      have lt : (ts.take i).length = i := by rw [List.length_take]; omega
      obtain ⟨xl, hxl, dxl⟩ := DqAll_get h3z i (stgD ((last W W.first (ts.take i)).std W.ns)) (by
        unfold endD
        have z := ends_last (W := W) W.first (ts.take i)
        rw [lt] at z
        rw [List.getElem?_map, z]
        rfl)
      have gsi := run_good gw gf (run_take ro i)
      refine ⟨_, rfl, .inl ⟨rfl, _, SqL.of h3F⟩, _, rfl, _, rfl, _, rfl, F0, _, _, _, rfl, rfl, SqL.of h3F, atI_last lz hxl, _, rfl, ?_⟩
      refine ⟨m, W, xl, x, last W W.first (ts.take i), ts[i], rfl, hW.up e03, dxl.up del_ext, gsi, dx'.up e03, run_at ro hi, fun r H4 e4 hr4 => ?_⟩
      have h4F := e4 _ _ h3F
      refine ⟨F0, zs, _, rfl, rfl, h4F, by rw [lz]; exact Nat.lt_of_le_of_lt (show _ ≤ 101 by omega) (by decide), ?_⟩
      refine ⟨_, _, rfl, Ext.mut (e3.trans e4) del_same, upd_same, ?_⟩
      rw [del_upd, List.take_add_one, List.getElem?_eq_getElem hi, Option.toList_some, endD_snoc, last_snoc]
      exact dq_app (DqAll.up (ext_del e4) h3z) (.cons (Dq.offl h4F hr4 (nl_stg _)) .nil)
    · rintro σ H3 ⟨v3, zs, rfl, e3, h3F, h3z⟩
      rw [ly, List.take_length] at h3z
      exact ⟨_, rfl, q F0 zs H3 hF0 (eB.trans e3) h3F h3z⟩
end
end K41

set_option Elab.async false
set_option linter.all false
set_option maxRecDepth 100000
set_option maxHeartbeats 4000000
namespace K41
open PySem PySem.Spec PyProof.Rows L2 Ol RZ
open TL (tl)
/-- one more, where the step that comes has one of the kind enter -/
def entO (o : Option Stp) (k : Str) : Nat := match o with
  | none => 0
  | some t => ent t k
def ouV (W : Wd) (s : Sd) (o : Option Stp) : List V := W.ks.map fun k => V.int ((W.out s k.1 + entO o k.1 : Nat) : Int)
def StO (H : Hp) (x : V) : Option Stp → Prop
  | none => x = .non
  | some t => Dq H x (stpD t)
section
variable {P : Program} {w : World} {K : PySem.W.Frag} {mg : Str → Option Value} {base : Heap} {C CP S R SP : Addr}
/-! ### _law_out -/
def spOu : Sp := fun vs H Q _ => ∃ (m : Addr) (W : Wd) (v x : V) (s : Sd) (o : Option Stp), vs = [.ref m, v, x] ∧ MdlW H m W ∧ Dq H v (stgD (s.std W.ns)) ∧ GSd W s ∧ StO H x o ∧
  ∀ (l : Addr) (H' : Hp), H l = none → Ext H H' → H' l = some (.lst (ouV W s o)) → Q (.ref l) H'
abbrev s__law_out : Stmt := (topS 69)
theorem sc__law_out : FnScope ["_law_model_here", "_law_standing", "_law_step", "_law_seats_here", "_law_found", "_law_kind", "_law_many", "_law_k"] ["_law_model_here", "_law_standing", "_law_step"] (defScope s__law_out) := ⟨rfl, rfl, rfl, by decide +kernel, rfl, by decide +kernel, by decide +kernel⟩
theorem ok_ou {f : Addr} {fd : FuncData} (F : Fun K "_law_out" "_law_out" s__law_out f fd) (T : BT mg) (nSum : mg "sum" = none) (CSe : Ca P w K mg base 1 "_law_seats" ["_law_model_here"] spSeats) :
    FnOk P w K mg base CX0 2 f fd ["_law_model_here", "_law_standing", "_law_step"] spOu := by
  refine F.ok sc__law_out (fun vs H Q E h => ?_) (fun cdv A outer s0 H vs Q E hr h => ?_)
  · obtain ⟨m, W, v, x, s, o, rfl, _⟩ := h
    rfl
  · obtain ⟨m, W, v, x, s, o, rfl, hW, hv, gs, hx, q⟩ := h
    refine ⟨_, (pss_cons (ps_asg (pe_tup (pa_cons (pe_ca CSe (hr.mono (by decide)) (by rfl) (pa_cons (pv 0) pa_nil)) (pa_cons (pe_lst pa_nil) pa_nil))) (pg_tup (by rfl) (pgs_cons (pg_name (i := 3) sc__law_out.nd rfl (.inr rfl)) (pgs_cons (pg_name (i := 4) sc__law_out.nd rfl (.inl rfl)) pgs_nil))))
    (pss_cons (ps_for PassesOwn.never rfl (pi_list (pe_callB (call_sortedD rfl) (by rfl) T.n_sorted (by decide +kernel) (pa_cons (pe_dget (hu_of hr) (pv 0) pe_str (fun _ _ => rfl)) pa_nil))) (pg_name (i := 5) sc__law_out.nd rfl (.inr rfl))
      (pss_cons (ps_set (i := 6) sc__law_out.nd rfl (.inl rfl) (pe_callB (cr_sum rfl) (by rfl) nSum (by decide +kernel) (pa_cons (pe_lc (own := [("_law_k", 7)]) (g := gName 7) (tt := tTest (tOp rEq (tOp (rIxT K) (tOp (rIxL K) (tVar 3) (tVar 7)) (tC (.int 0))) (tVar 5))) (te := tOp (rIxT K) (tOp (rIxT K) (tVar 1) (tC (.int 2))) (tVar 7)) rfl sc__law_out.nd (pi_range1 (by rfl) T.n_range (pa_cons (pe_callB call_len_seq (by rfl) T.n_len (by decide +kernel) (pa_cons (pv 3) pa_nil)) pa_nil)) (blkOk_by (N := ["_law_model_here", "_law_standing", "_law_step", "_law_seats_here", "_law_found", "_law_kind", "_law_many", "_law_k"]) (sc := defScope s__law_out) (by decide +kernel)) (fun _ _ _ _ _ => (pg_name (i := 7) sc__law_out.nd rfl (.inl rfl))) (fun _ _ _ _ _ => (pts_one (pt_cmpR op_eq (pe_ix ix_tup (pe_ix (r := rIxL K) ix_list (pv 3) (pv 7) (fun _ _ => rfl)) pe_int (fun _ _ => rfl)) (pv 5) (nomark _)))) (fun _ _ _ _ _ => (pe_ix ix_tup (pe_ix ix_tup (pv 1) pe_int (fun _ _ => rfl)) (pv 7) (fun _ _ => rfl)))) pa_nil)))
      (pss_one (ps_expr (pe_bm PySem.F.plainAttrs_list PySem.F.slot_list_append PySem.F.type_list_append mt_append (pv 4) (pa_cons (pe_op op_add (pv 6) (pe_callTy call_int1 (by rfl) T.n_int (by decide +kernel) (pa_cons (pe_and (pe_cmpR op_notN (pv 2) pe_non (nomark _)) (pe_and (pe_cmpR op_eq (pe_ix ix_tup (pv 2) pe_int (fun _ _ => rfl)) (pv 5) (nomark _)) (pe_one (pe_cmpR op_eq (pe_ix ix_tup (pv 2) pe_int (fun _ _ => rfl)) pe_int (nomark _))))) pa_nil))) pa_nil))))))
    (pss_one (ps_ret (pv 4))))), ?_⟩
    have gw := hW.gw
    obtain ⟨g, ps, kx, hM, hG, g3, hkp, hks, hperm0, hso0, hbd⟩ := id hW
    obtain ⟨db, sl, dk, at_, hm, hdb, hsl, hdk, hkl, nmk, nbk⟩ := id hM
    have k3 := gw.gs.few
    have kk := hG.k2
    have s15 := seats60 gw
    have lct := gs.ct
    have ctg : ∀ (j : Nat) (h : j < s.ct.length), ((s.std W.ns).ct.map fun n : Nat => V.int (n : Int))[j]? = some (.int (s.ct[j] : Int)) := fun j h => by
      show (s.ct.map _)[j]? = _
      rw [List.getElem?_map, List.getElem?_eq_getElem h]
      rfl
    refine ⟨_, rfl, m, g, ps, W.sv, kx, W.ks, rfl, hM, hG, hkp, hks, fun se ys H1 nse e1 h1 hys => ?_⟩
    refine ⟨by show 0 ≤ sizeLine; decide, fun F0 hF => ?_⟩
    have eF := Ext.new (o := .lst []) hF
    have nsF : se ≠ F0 := fun z => by rw [z, hF] at h1; cases h1
    refine ⟨by show 2 ≤ sizeLine; decide, fun t0 ht0 => ?_⟩
    have et0 := Ext.new (o := .tup [.ref se, .ref F0]) ht0
    have nFt : F0 ≠ t0 := fun z => by rw [← z, upd_same] at ht0; cases ht0
    refine ⟨t0, _, rfl, SqT.of upd_same, rfl, _, _, rfl, _, _, rfl, rfl, ?_⟩
    have h2F : upd (upd H1 F0 (.lst [])) t0 (.tup [.ref se, .ref F0]) F0 = some (.lst []) := et0 _ _ upd_same
    have e12 := eF.trans et0
    have eB : Ext H (del (upd (upd H1 F0 (.lst [])) t0 (.tup [.ref se, .ref F0])) F0) := ext_to (e1.trans e12) (e1.free hF)
    have h2se : del (upd (upd H1 F0 (.lst [])) t0 (.tup [.ref se, .ref F0])) F0 se = some (.lst ys) := by rw [del_ne nsF]; exact e12 _ _ h1
    have hys2 : DqAll (del (upd (upd H1 F0 (.lst [])) t0 (.tup [.ref se, .ref F0])) F0) ys ((seatsOf W.ks).map seatD) := DqAll.up (ext_to e12 hF) (DqAll.up del_ext hys)
    generalize upd (upd H1 F0 (.lst [])) t0 (.tup [.ref se, .ref F0]) = H2 at h2F eB h2se hys2 ⊢
    have hF0 : H F0 = none := e1.free hF
    -- the kinds, sorted
    refine ⟨_, rfl, m, _, rfl, get_k (del_ext _ _ (eB _ _ hm)), dk, _, kx.map (·.1), rfl, Rd.of (del_ext _ _ (eB _ _ hdk)), kdA_keys kx at_, by rw [List.length_map]; omega, fun us l3 hperm hso hl3 => ?_⟩
    obtain rfl : us = W.ks.map (·.1) := sorted_one hso hks (hperm.trans (hkp.map _).symm)
    have ml : ((W.ks.map (·.1)).map V.str).length = W.ks.length := by rw [List.length_map, List.length_map]
    have e3 := Ext.new (o := .lst ((W.ks.map (·.1)).map V.str)) hl3
    have h3l : upd H2 l3 (.lst ((W.ks.map (·.1)).map V.str)) l3 = some (.lst ((W.ks.map (·.1)).map V.str)) := upd_same
    have h3F := e3 _ _ h2F
    have n3F : l3 ≠ F0 := fun z => by rw [z, h2F] at hl3; cases hl3
    have eD : Ext (del H2 F0) (del (upd H2 l3 (.lst ((W.ks.map (·.1)).map V.str))) F0) := ext_del e3
    generalize upd H2 l3 (.lst ((W.ks.map (·.1)).map V.str)) = H3 at h3l h3F eD ⊢
    have eB3 := eB.trans eD
    have h3se := eD _ _ h2se
    have hys3 := DqAll.up eD hys2
    refine ⟨l3, rfl, ⟨_, SqL.of h3l⟩, ?_⟩
    refine for_list (xs := (W.ks.map (·.1)).map V.str) (fun i σ H' => ∃ v5 v6, σ = [some (.ref m), some v, some x, some (.ref se), some (.ref F0), v5, v6, none] ∧ Ext (del H3 F0) H' ∧ H' F0 = some (.lst ((ouV W s o).take i)))
      ⟨none, none, rfl, del_ext, h3F⟩ (fun i σ H' _ ⟨_, _, _, e, _⟩ => SqL.of (e _ _ ((del_ne n3F).trans h3l))) ?_ ?_
    · rintro i y σ H4 hy ⟨v5, v6, rfl, e4, h4F⟩
      have hi : i < W.ks.length := by have := (List.getElem?_eq_some_iff.mp hy).1; rw [ml] at this; exact this
      rw [List.getElem?_map, List.getElem?_map, List.getElem?_eq_getElem hi] at hy
      cases hy
      have h4se := e4 _ _ h3se
      have e04 := eB3.trans e4
      have hys4 := DqAll.up e4 hys3
      obtain ⟨a, b, c, xs0, rfl, s1, s2, s3, s4⟩ := stg_inv (hv.up e04)
      have ly : ys.length = (seatsOf W.ks).length := by rw [hys.len, List.length_map]
      refine ⟨_, rfl, se, _, rfl, .inl (SqL.of h4se), _, rfl, by rw [ly]; omega, by rw [ly]; omega, fun D hD => ?_⟩
      rw [Int.toNat_natCast, ly]
      refine lc1_acc (n := (seatsOf W.ks).length) walk_range (fun j zs _ => zs = (outs ((seatsOf W.ks).take j) (s.ct.take j) W.ks[i].1).map fun n : Nat => V.int (n : Int)) (fun _ _ _ _ _ h => h) rfl hD
        (fun j zs _ h => by
          rw [h, List.length_map]
          exact Nat.lt_of_le_of_lt (Nat.le_trans (outs_len _ _ _) (Nat.le_trans (by rw [List.length_take]; exact Nat.min_le_right ..) s15)) (by decide)) (fun _ _ => trivial) ?_ ?_
      · rintro j z Ha Hb zs hj eA hz ⟨rfl, rfl⟩ hzs QY QN kY kN
        obtain ⟨x2, hx2, dx2⟩ := DqAll_get hys4 j (seatD (seatsOf W.ks)[j]) (by rw [List.getElem?_map, List.getElem?_eq_getElem hj]; rfl)
        obtain ⟨sa, rfl, hsa⟩ := seat_inv dx2
        have tk := outs_take W.ks[i].1 lct.symm hj (by rw [lct]; exact hj)
        refine ⟨rfl, ?_⟩
        dsimp only
        rw [Int.zero_add]
        refine ⟨_, rfl, _, rfl, se, _, _, _, rfl, rfl, SqL.of (eA _ _ h4se), atI_nat hx2, sa, _, 0, _, rfl, rfl, SqT.of (eA _ _ hsa), rfl, _, rfl, rfl, _, rfl, ?_⟩
        refine ite2 (fun g => ?_) (fun g => ?_)
        · refine ⟨_, rfl, a, _, 2, _, rfl, rfl, SqT.of (eA _ _ s1), rfl, _, rfl, c, _, _, _, rfl, rfl, SqT.of (eA _ _ s4), atI_nat (ctg j (by rw [lct]; exact hj)), kY _ _ (Ext.refl _) ?_⟩
          rw [hzs, tk, if_pos (by simpa using g), List.map_append]
          rfl
        · refine kN _ (Ext.refl _) ?_
          rw [hzs, tk, if_neg (by simpa using g), List.append_nil]
      rintro H5 zs e5 h5 hzs
      rw [List.take_of_length_le (Nat.le_refl _), List.take_of_length_le (Nat.le_of_eq lct)] at hzs
      refine ⟨D, (outs (seatsOf W.ks) s.ct W.ks[i].1).map fun n : Nat => (n : Int), rfl, SqL.of ?_, ?_⟩
      · rw [h5, hzs, List.map_map]
        rfl
      rw [cast_sum]
      have h5F := e5 _ _ h4F
      refine ⟨_, rfl, .inl ⟨rfl, _, SqL.of h5F⟩, _, rfl, ?_⟩
      have so : (ouV W s o).take (i + 1) = (ouV W s o).take i ++ [V.int ((W.out s W.ks[i].1 + entO o W.ks[i].1 : Nat) : Int)] := by
        have ge : (ouV W s o)[i]? = some (V.int ((W.out s W.ks[i].1 + entO o W.ks[i].1 : Nat) : Int)) := by
          unfold ouV
          rw [List.getElem?_map, List.getElem?_eq_getElem hi]
          rfl
        rw [List.take_add_one, ge, Option.toList_some]
      have lk : ((ouV W s o).take i).length < sizeLine := by
        rw [List.length_take]
        exact Nat.lt_of_le_of_lt (Nat.le_trans (Nat.min_le_left ..) (show i ≤ 60 by omega)) (by decide)
      have e45 := e4.trans e5
      cases o with
      | none =>
        have hx' : x = .non := hx
        subst hx'
        refine ⟨_, rfl, rfl, false, rfl, ?_⟩
        refine iteF ?_
        refine .inr ⟨false, rfl, _, _, rfl, rfl, F0, _, _, rfl, rfl, h5F, lk, _, _, rfl, Ext.mut e45 del_same, ?_⟩
        rw [upd_same, so]
        rfl
      | some t =>
        obtain ⟨ta, rfl, hta⟩ := stp_inv (show Dq H x (stpD t) from hx)
        have h5t := (e04.trans e5) _ _ hta
        refine ⟨_, rfl, rfl, true, rfl, ?_⟩
        refine iteT ?_
        refine ⟨_, rfl, ta, _, 0, _, rfl, rfl, SqT.of h5t, rfl, _, rfl, rfl, _, rfl, ?_⟩
        refine ite2 (fun g => ?_) (fun g => ?_)
        · have w1 : t.who = W.ks[i].1 := by simpa using g
          refine ⟨_, rfl, ta, _, 1, _, rfl, rfl, SqT.of h5t, rfl, rfl, .inr ⟨_, rfl, _, _, rfl, rfl, F0, _, _, rfl, rfl, h5F, lk, _, _, rfl, Ext.mut e45 del_same, ?_⟩⟩
          rw [upd_same, so]
          by_cases p0 : t.pl = 0
          · rw [show entO (some t) W.ks[i].1 = 1 from if_pos ⟨w1, p0⟩, if_pos (by rw [p0]; rfl)]
            rfl
          · have p1 : ¬ (decide (V.int (t.pl : Int) = V.int 0) = true) := fun z => p0 (by
              have z2 : (t.pl : Int) = 0 := by simpa using z
              omega)
            rw [show entO (some t) W.ks[i].1 = 0 from if_neg fun z => p0 z.2, if_neg p1]
            rfl
        · refine .inr ⟨false, rfl, _, _, rfl, rfl, F0, _, _, rfl, rfl, h5F, lk, _, _, rfl, Ext.mut e45 del_same, ?_⟩
          rw [upd_same, so, show entO (some t) W.ks[i].1 = 0 from if_neg fun z => g (by rw [z.1]; simp)]
          rfl
    · rintro σ H4 ⟨v5, v6, rfl, e4, h4F⟩
      have lo : (ouV W s o).length = W.ks.length := List.length_map ..
      rw [ml, List.take_of_length_le (Nat.le_of_eq lo)] at h4F
      exact ⟨_, rfl, q F0 H4 hF0 (eB3.trans e4) h4F⟩
end
end K41

set_option Elab.async false
set_option linter.all false
set_option maxRecDepth 100000
set_option maxHeartbeats 4000000
namespace K41
open PySem PySem.Spec PyProof.Rows L2 Ol RZ
open TL (tl)
/-- the numbers at the moment i of a run -/
def rowV (W : Wd) (ts : List Stp) (i : Nat) : List V := ouV W (last W W.first (ts.take i)) ts[i]?
def RowsAt (W : Wd) (ts : List Stp) (H : Hp) (zs : List V) : Prop := ∀ i, i < zs.length → ∃ l, zs[i]? = some (.ref l) ∧ H l = some (.lst (rowV W ts i))
theorem rowV_at {W : Wd} {ts : List Stp} {i : Nat} (hi : i ≤ ts.length) {k : Nat} (hk : k < W.ks.length) : ∃ n : Nat, (rowV W ts i)[k]? = some (.int (n : Int)) ∧ (rowsN W W.ks[k].1 W.first ts)[i]? = some n := by
  refine ⟨W.out (last W W.first (ts.take i)) W.ks[k].1 + entO ts[i]? W.ks[k].1, ?_, ?_⟩
  · unfold rowV ouV
    rw [List.getElem?_map, List.getElem?_eq_getElem hk]
    rfl
  · by_cases c : i < ts.length
    · rw [rows_get _ _ _ _ c, List.getElem?_eq_getElem c]
      rfl
    · have e : i = ts.length := by omega
      subst e
      rw [rows_end, List.take_length, List.getElem?_eq_none (Nat.le_refl _)]
      rfl
section
variable {P : Program} {w : World} {K : PySem.W.Frag} {mg : Str → Option Value} {base : Heap} {C CP S R SP : Addr}
/-! ### _law_needed -/
def spNe : Sp := fun vs H Q _ => ∃ (m l : Addr) (W : Wd) (ys : List V) (ts : List Stp), vs = [.ref m, .ref l] ∧ MdlW H m W ∧ H l = some (.lst ys) ∧ DqAll H ys (ts.map stpD) ∧ RunOk W W.first ts ∧ ts.length ≤ 100 ∧
  ∀ (r : Addr) (H' : Hp), Ext H H' → H' r = some (.tup ((needL W ts).map V.int)) → Q (.ref r) H'
abbrev s__law_needed : Stmt := (topS 70)
theorem sc__law_needed : FnScope ["_law_model_here", "_law_steps_here", "_law_ends_here", "_law_rows_here", "_law_one", "_law_step", "_law_row", "_law_k"] ["_law_model_here", "_law_steps_here"] (defScope s__law_needed) := ⟨rfl, rfl, rfl, by decide +kernel, rfl, by decide +kernel, by decide +kernel⟩
abbrev scNk : Scope := { kind := .function, names := [(".0", .local), ("_law_k", .cell), ("max", .globalImplicit), ("_law_rows_here", .cell)], isGenerator := false, isCoroutine := false }
theorem ok_ne {f : Addr} {fd : FuncData} (F : Fun K "_law_needed" "_law_needed" s__law_needed f fd) (T : BT mg) (nZip : mg "zip" = none) (nMax : mg "max" = none)
    (CEn : Ca P w K mg base 3 "_law_ends" ["_law_model_here", "_law_steps_here"] spEn) (COu : Ca P w K mg base 2 "_law_out" ["_law_model_here", "_law_standing", "_law_step"] spOu) :
    FnOk P w K mg base CX0 4 f fd ["_law_model_here", "_law_steps_here"] spNe := by
  refine F.ok sc__law_needed (fun vs H Q E h => ?_) (fun cdv A outer s H vs Q E hr h => ?_)
  · obtain ⟨m, l, W, ys, ts, rfl, _⟩ := h
    rfl
  · obtain ⟨m, l, W, ys, ts, rfl, hW, hl, hy, ro, t100, q⟩ := h
    refine ⟨_, (pss_cons (ps_set (i := 2) sc__law_needed.nd rfl (.inl rfl) (pe_ca CEn (hr.mono (by decide)) (by rfl) (pa_cons (pv 0) (pa_cons (pv 1) pa_nil))))
    (pss_cons (ps_set (i := 3) sc__law_needed.nd rfl (.inr rfl) (pe_lc (own := [("_law_one", 4), ("_law_step", 5)]) (g := gTup K 2 (gCons (gName 4) (gCons (gName 5) gNil))) (tt := tYes) rfl sc__law_needed.nd (pi_zip (by rfl) nZip (pa_cons (pv 2) (pa_cons (pe_op op_cat (pe_callTy call_list_of (by rfl) T.n_list (by decide +kernel) (pa_cons (pv 1) pa_nil)) (pe_lst (pa_cons pe_non pa_nil))) pa_nil))) (blkOk_by (N := ["_law_model_here", "_law_steps_here", "_law_ends_here", "_law_rows_here", "_law_one", "_law_step", "_law_row", "_law_k"]) (sc := defScope s__law_needed) (by decide +kernel)) (fun _ _ _ _ _ => (pg_tup (by rfl) (pgs_cons (pg_name (i := 4) sc__law_needed.nd rfl (.inl rfl)) (pgs_cons (pg_name (i := 5) sc__law_needed.nd rfl (.inl rfl)) pgs_nil)))) (fun _ _ _ _ _ => pts_nil) (fun _ _ _ _ _ => (pe_ca COu (hr.mono (by decide)) (by rfl) (pa_cons (pv 0) (pa_cons (pv 4) (pa_cons (pv 5) pa_nil)))))))
    (pss_one (ps_ret (pe_callTy call_tuple_of (by rfl) T.n_tuple (by decide +kernel) (pa_cons (pe_lc (own := [("_law_k", 7)]) (g := gName 7) (tt := tYes) (te := tCB (rMax K) (tCons (tLc (iList K (tVar 3)) (gName 6) tYes (tOp (rIxL K) (tVar 6) (tVar 7)) [6]) tNil)) rfl sc__law_needed.nd (pi_range1 (by rfl) T.n_range (pa_cons (pe_callB call_lenD (by rfl) T.n_len (by decide +kernel) (pa_cons (pe_dget (hu_of hr) (pv 0) pe_str (fun _ _ => rfl)) pa_nil)) pa_nil)) (blkOk_by (N := ["_law_model_here", "_law_steps_here", "_law_ends_here", "_law_rows_here", "_law_one", "_law_step", "_law_row", "_law_k"]) (sc := defScope s__law_needed) (by decide +kernel)) (fun _ _ _ _ _ => (pg_name (i := 7) sc__law_needed.nd rfl (.inr rfl))) (fun _ _ _ _ _ => pts_nil) (fun _ _ _ _ _ => by exact (pe_callB (cr_max rfl) (by rfl) nMax (by decide +kernel) (pa_cons (by exact pe_lc (own := [("_law_row", 6)]) (g := gName 6) (tt := tYes) (te := tOp (rIxL K) (tVar 6) (tVar 7)) rfl sc__law_needed.nd (pi_list (pv 3)) (blkOk_by (N := ["_law_model_here", "_law_steps_here", "_law_ends_here", "_law_rows_here", "_law_one", "_law_step", "_law_row", "_law_k"]) (sc := scNk) (by decide +kernel)) (fun _ _ _ _ _ => (pg_name (i := 6) sc__law_needed.nd rfl (.inl rfl))) (fun _ _ _ _ _ => pts_nil) (fun _ _ _ _ _ => (pe_ix (r := rIxL K) ix_list (pv 6) (pv 7) (fun _ _ => rfl)))) pa_nil)))) pa_nil)))))), ?_⟩
    have gw := hW.gw
    have gf := first_good hW
    have k3 := gw.gs.few
    have ly : ys.length = ts.length := by rw [hy.len, List.length_map]
    refine ⟨_, rfl, _, rfl, m, l, W, ys, ts, rfl, hW, hl, hy, ro, t100, fun r zs H1 nr e1 h1 hz => ?_⟩
    have lz : zs.length = ts.length + 1 := by
      rw [hz.len]
      unfold endD
      rw [List.length_map, ends_len]
    refine ⟨_, rfl, _, rfl, l, ys, rfl, .inl (SqL.of (e1 _ _ hl)), fun l2 hl2 => ?_⟩
    have e2 := Ext.new (o := .lst ys) hl2
    have h2 : upd H1 l2 (.lst ys) l2 = some (.lst ys) := upd_same
    generalize upd H1 l2 (.lst ys) = H2 at e2 h2 ⊢
    refine ⟨by show 1 ≤ sizeLine; decide, fun l3 hl3 => ?_⟩
    have e3 := Ext.new (o := .lst [V.non]) hl3
    refine ⟨l2, l3, ys, [.non], rfl, rfl, e3 _ _ h2, upd_same, by rw [ly, List.length_singleton]; exact Nat.le_trans (show _ ≤ 101 by omega) (by decide), fun l4 hl4 => ?_⟩
    have e4 := Ext.new (o := .lst (ys ++ [V.non])) hl4
    have h4 : upd (upd H2 l3 (.lst [.non])) l4 (.lst (ys ++ [V.non])) l4 = some (.lst (ys ++ [V.non])) := upd_same
    have e14 := e2.trans (e3.trans e4)
    generalize upd (upd H2 l3 (.lst [.non])) l4 (.lst (ys ++ [V.non])) = H4 at e14 h4 ⊢
    have e04 := e1.trans e14
    have hz4 : DqAll H4 zs (endD W W.first ts) := DqAll.up e14 (DqAll.up del_ext hz)
    have hW4 := hW.up e04
    have hy4 := DqAll.up e04 hy
    have l4y : (ys ++ [V.non]).length = ts.length + 1 := by rw [List.length_append, ly, List.length_singleton]
    refine ⟨r, l4, zs, ys ++ [.non], rfl, SqL.of (e14 _ _ h1), SqL.of h4, fun D hD => ?_⟩
    refine lc1_acc (walk_zip (n := ts.length + 1) (xs := zs) (ys := ys ++ [V.non]) (by rw [lz, l4y, Nat.min_self])) (fun i ws Hd => ws.length = i ∧ i ≤ ts.length + 1 ∧ RowsAt W ts Hd ws)
      (fun i ws _ _ e h => ⟨h.1, h.2.1, fun j hj => by obtain ⟨l, a, b⟩ := h.2.2 j hj; exact ⟨l, a, e _ _ b⟩⟩) ⟨rfl, Nat.zero_le _, fun j hj => absurd hj (Nat.not_lt_zero _)⟩ hD
      (fun i ws _ h => by rw [h.1]; exact Nat.lt_of_le_of_lt (show i ≤ 101 by omega) (by decide)) (fun H' e => ⟨SqL.of (e _ _ (e14 _ _ h1)), SqL.of (e _ _ h4)⟩) ?_ ?_
    · rintro i y Ha Hb ws hi eA hya ⟨T2, z1, z2, rfl, hT2, rfl, g1, g2⟩ ⟨hw, _, hR⟩ QY QN kY kN
      dsimp only at g1 g2
      have hi2 : i ≤ ts.length := by omega
      obtain ⟨x1, hx1, dx1⟩ := DqAll_get hz4 i (stgD ((last W W.first (ts.take i)).std W.ns)) (by
        unfold endD
        rw [List.getElem?_map, ends_get _ _ hi2]
        rfl)
      rw [hx1] at g1
      cases g1
      have so : StO H4 z2 ts[i]? := by
        by_cases c : i < ts.length
        · rw [List.getElem?_append_left (by omega)] at g2
          obtain ⟨x2, hx2, dx2⟩ := DqAll_get hy4 i (stpD ts[i]) (by rw [List.getElem?_map, List.getElem?_eq_getElem c]; rfl)
          rw [hx2] at g2
          cases g2
          rw [List.getElem?_eq_getElem c]
          exact dx2
        · have e : i = ts.length := by omega
          subst e
          rw [← ly, List.getElem?_concat_length] at g2
          cases g2
          rw [List.getElem?_eq_none (Nat.le_refl _)]
          rfl
      have eT := Ext.new (o := .tup [z1, z2]) hT2
      have eAT := eA.trans eT
      refine ⟨T2, _, rfl, SqT.of upd_same, rfl, _, _, rfl, _, _, rfl, rfl, rfl, ?_⟩
      refine tyes ?_
      have so2 : StO (upd Ha T2 (.tup [z1, z2])) z2 ts[i]? := by
        cases c : ts[i]? with
        | none => rw [c] at so; exact so
        | some t => rw [c] at so; exact Dq.up eAT so
      refine ⟨_, rfl, _, rfl, _, rfl, m, W, z1, z2, last W W.first (ts.take i), ts[i]?, rfl, hW4.up eAT, dx1.up eAT, run_good gw gf (run_take ro i), so2, fun lo H5 nlo e5 h5 => ?_⟩
      have hTD : lo ≠ D := fun z => by
        have := eT _ _ hya
        rw [← z, nlo] at this
        cases this
      refine kY _ _ (eT.trans e5) ⟨by rw [List.length_append, hw, List.length_singleton], by omega, fun j hj => ?_⟩
      rw [List.length_append, List.length_singleton] at hj
      by_cases c : j < ws.length
      · obtain ⟨l, a, b⟩ := hR j c
        exact ⟨l, by rw [List.getElem?_append_left c]; exact a, ext_del (eT.trans e5) _ _ b⟩
      · have e : j = ws.length := by omega
        subst e
        refine ⟨lo, List.getElem?_concat_length, ?_⟩
        rw [del_ne hTD, h5, hw]
        rfl
    rintro H6 ws e6 h6 ⟨lw, _, hR⟩
    have e06 := e04.trans e6
    obtain ⟨g, ps, kx, hM, hG, g3, hkp, hks, hperm0, hso0, hbd⟩ := id hW
    obtain ⟨db, sl, dk, at_, hm, hdb, hsl, hdk, hkl, nmk, nbk⟩ := id hM
    have lkx : (kdA kx at_).length = W.ks.length := by rw [kdA_len, hkp.length_eq]
    refine ⟨_, rfl, m, _, rfl, get_k (e06 _ _ hm), dk, _, rfl, e06 _ _ hdk, _, rfl, by rw [lkx]; omega, by rw [lkx]; omega, fun D2 hD2 => ?_⟩
    rw [Int.toNat_natCast, lkx]
    refine lc1_acc (n := W.ks.length) walk_range (fun k zs2 _ => zs2 = ((W.ks.take k).map fun k => (need W k.1 W.first ts : Int)).map V.int ∧ k ≤ 3) (fun _ _ _ _ _ h => h) ⟨rfl, by decide⟩ hD2
      (fun k zs2 _ h => by
        rw [h.1, List.length_map, List.length_map, List.length_take]
        exact Nat.lt_of_le_of_lt (Nat.le_trans (Nat.min_le_left ..) h.2) (by decide)) (fun _ _ => trivial) ?_ ?_
    · rintro k y Ha Hb zs2 hk eA hya ⟨rfl, rfl⟩ ⟨hzs, _⟩ QY QN kY kN
      refine ⟨rfl, ?_⟩
      refine tyes ?_
      refine ⟨_, rfl, D, rfl, ⟨_, SqL.of (eA _ _ h6)⟩, fun D3 hD3 => ?_⟩
      refine lc1_acc (walk_list (xs := ws)) (fun i zs3 _ => zs3 = ((rowsN W W.ks[k].1 W.first ts).take i).map (fun n : Nat => V.int (n : Int)) ∧ i ≤ 101) (fun _ _ _ _ _ h => h) ⟨rfl, by decide⟩ hD3
        (fun i zs3 _ h => by
          rw [h.1, List.length_map, List.length_take]
          exact Nat.lt_of_le_of_lt (Nat.le_trans (Nat.min_le_left ..) h.2) (by decide)) (fun H' e => SqL.of (e _ _ (eA _ _ h6))) ?_ ?_
      · rintro i y Hc Hd zs3 hi eC hyc ⟨rfl, hyi⟩ ⟨hz3, _⟩ QY2 QN2 kY2 kN2
        obtain ⟨l5, a5, b5⟩ := hR i hi
        rw [a5] at hyi
        cases hyi
        obtain ⟨n, r1, r2⟩ := rowV_at (W := W) (ts := ts) (i := i) (by omega) hk
        refine ⟨rfl, ?_⟩
        refine tyes ?_
        refine ⟨_, rfl, _, rfl, l5, _, _, _, rfl, rfl, SqL.of ((eA.trans eC) _ _ b5), (by rw [Int.zero_add]; exact atI_nat r1), kY2 _ _ (Ext.refl _) ⟨?_, by omega⟩⟩
        rw [hz3, List.take_add_one, r2, Option.toList_some, List.map_append]
        rfl
      rintro H7 zs3 e7 h7 ⟨hz3, _⟩
      have lr := rows_len (W := W) W.ks[k].1 ts W.first
      rw [lw, List.take_of_length_le (Nat.le_of_eq lr)] at hz3
      refine ⟨D3, (rowsN W W.ks[k].1 W.first ts).map fun n : Nat => (n : Int), rfl, SqL.of (by rw [h7, hz3, List.map_map]; rfl), by rw [List.length_map, lr]; omega, fun M hM hle => ?_⟩
      obtain ⟨n, hn, rfl⟩ := List.mem_map.mp hM
      have mx : n = need W W.ks[k].1 W.first ts := max_one ⟨hn, fun y hy => by
        have := hle (y : Int) (List.mem_map_of_mem hy)
        omega⟩ (rows_first gw gf _ ro)
      subst mx
      refine kY _ _ e7 ⟨?_, by omega⟩
      rw [hzs, List.take_add_one, List.getElem?_eq_getElem hk, Option.toList_some, List.map_append, List.map_append]
      rfl
    rintro H7 zs2 e7 h7 ⟨hzs, _⟩
    rw [List.take_length] at hzs
    refine ⟨D2, _, rfl, .inl ⟨SqL.of h7, fun r2 hr2 => ?_⟩⟩
    refine q r2 _ (e06.trans (e7.trans (Ext.new hr2))) ?_
    rw [upd_same, hzs]
    rfl
end
end K41

set_option Elab.async false
set_option linter.all false
set_option maxRecDepth 100000
set_option maxHeartbeats 4000000
namespace K41
open PySem PySem.Spec PyProof.Rows L2 Ol RZ
open TL (tl)
theorem dq_take {H : Hp} : ∀ (n : Nat) {xs : List V} {ds : List PyData}, DqAll H xs ds → DqAll H (xs.take n) (ds.take n)
  | 0, _, _, _ => .nil
  | _ + 1, _, _, .nil => .nil
  | n + 1, _, _, .cons h t => .cons h (dq_take n t)
theorem dq_drop {H : Hp} : ∀ (n : Nat) {xs : List V} {ds : List PyData}, DqAll H xs ds → DqAll H (xs.drop n) (ds.drop n)
  | 0, _, _, h => h
  | _ + 1, _, _, .nil => .nil
  | n + 1, _, _, .cons _ t => dq_drop n t
theorem str_pick (zs : List Str) {r : Int} (h0 : 0 ≤ r) (h1 : r < zs.length) : ∃ v ∈ zs, atI (zs.map V.str) r = some (.str v) := by
  obtain ⟨n, rfl⟩ := Int.eq_ofNat_of_zero_le h0
  have hn : n < zs.length := by omega
  exact ⟨zs[n], List.getElem_mem hn, atI_nat (by rw [List.getElem?_map, List.getElem?_eq_getElem hn]; rfl)⟩
theorem nls_all (ts : List Stp) : NlAll (ts.map stpD) := by
  induction ts with
  | nil => exact .nil
  | cons t ts ih => exact .cons (.tup (.cons (.str _) (.cons (.int _) (.cons (.int _) .nil)))) ih
def StpOk (t : Stp) : Prop := (t.who = "" ∨ isNameS t.who = true) ∧ t.pl ≤ 6 ∧ t.ix ≤ 6
def WhoOk (ts : List Stp) : Prop := ∀ t ∈ ts, StpOk t
section
variable {P : Program} {w : World} {K : PySem.W.Frag} {mg : Str → Option Value} {base : Heap} {C CP S R SP : Addr}
/-! ### _law_spoilt -/
def spSpo : Sp := fun vs H Q _ => ∃ (a m l : Addr) (W : Wd) (ys : List V) (ts : List Stp), vs = [.ref a, .ref m, .ref l] ∧ Bag H a ∧ MdlW H m W ∧ H l = some (.lst ys) ∧ DqAll H ys (ts.map stpD) ∧ ts.length ≤ 40 ∧
  ∀ (r : Addr) (zs : List V) (us : List Stp) (H' : Hp), H r = none → Ext H H' → H' r = some (.lst zs) → DqAll (del H' r) zs (us.map stpD) → us.length ≤ ts.length + 1 → (WhoOk ts → WhoOk us) → Q (.ref r) H'
abbrev s__law_spoilt : Stmt := (topS 71)
theorem sc__law_spoilt : FnScope ["_law_bag_here", "_law_model_here", "_law_steps_here", "_law_at", "_law_kind", "_law_folk", "_law_odd"] ["_law_bag_here", "_law_model_here", "_law_steps_here"] (defScope s__law_spoilt) := ⟨rfl, rfl, rfl, by decide +kernel, rfl, by decide +kernel, by decide +kernel⟩
theorem ok_spo {f : Addr} {fd : FuncData} (F : Fun K "_law_spoilt" "_law_spoilt" s__law_spoilt f fd) (T : BT mg) (CT : Ca P w K mg base 1 "_law_take" ["_law_bag_here", "_law_many"] spTake) :
    FnOk P w K mg base CX0 2 f fd ["_law_bag_here", "_law_model_here", "_law_steps_here"] spSpo := by
  refine F.ok sc__law_spoilt (fun vs H Q E h => ?_) (fun cdv A outer s H vs Q E hr h => ?_)
  · obtain ⟨a, m, l, W, ys, ts, rfl, _⟩ := h
    rfl
  · obtain ⟨a, m, l, W, ys, ts, rfl, hb, hW, hl, hy, t40, q⟩ := h
    refine ⟨_, (pss_cons (ps_par (i := 3) (j := 4) rfl sc__law_spoilt.nd rfl rfl (by decide) rfl rfl (pa_cons (pe_ca CT (hr.mono (by decide)) (by rfl) (pa_cons (pv 0) (pa_cons (pe_op op_add (pe_callB call_len_seq (by rfl) T.n_len (by decide +kernel) (pa_cons (pv 2) pa_nil)) pe_int) pa_nil))) (pa_cons (pe_ca CT (hr.mono (by decide)) (by rfl) (pa_cons (pv 0) (pa_cons pe_int pa_nil))) pa_nil)) (by rfl))
    (pss_cons (ps_set (i := 5) sc__law_spoilt.nd rfl (.inl rfl) (pe_op op_cat (pe_lst (pa_cons pe_str pa_nil)) (pe_callB (call_sortedD rfl) (by rfl) T.n_sorted (by decide +kernel) (pa_cons (pe_dget (hu_of hr) (pv 1) pe_str (fun _ _ => rfl)) pa_nil))))
    (pss_cons (ps_set (i := 6) sc__law_spoilt.nd rfl (.inl rfl) (pe_tup (pa_cons (pe_ix ix_list (pv 5) (pe_ca CT (hr.mono (by decide)) (by rfl) (pa_cons (pv 0) (pa_cons (pe_callB call_len_seq (by rfl) T.n_len (by decide +kernel) (pa_cons (pv 5) pa_nil)) pa_nil))) (fun _ _ => rfl)) (pa_cons (pe_ca CT (hr.mono (by decide)) (by rfl) (pa_cons (pv 0) (pa_cons pe_int pa_nil))) (pa_cons (pe_ca CT (hr.mono (by decide)) (by rfl) (pa_cons (pv 0) (pa_cons pe_int pa_nil))) pa_nil)))))
    (pss_cons (ps_if (pt_cmpR op_eq (pv 4) pe_int (nomark _))
      (pss_one (ps_ret (pe_op op_cat (pe_slice sl_list (pv 2) po_none (po_some (pv 3))) (pe_slice sl_list (pv 2) (po_some (pe_op op_add (pv 3) pe_int)) po_none))))
      pss_nil)
    (pss_one (ps_ret (pe_op op_cat (pe_op op_cat (pe_slice sl_list (pv 2) po_none (po_some (pv 3))) (pe_lst (pa_cons (pv 6) pa_nil))) (pe_slice sl_list (pv 2) (po_some (pe_op op_add (pv 3) (pe_callTy call_int1 (by rfl) T.n_int (by decide +kernel) (pa_cons (pe_cmpR op_eq (pv 4) pe_int (nomark _)) pa_nil)))) po_none)))))))), ?_⟩
    have gw := hW.gw
    obtain ⟨g, ps, kx, hM, hG, g3, hkp, hks, hperm0, hso0, hbd⟩ := id hW
    obtain ⟨db, sl, dk, at_, hm, hdb, hsl, hdk, hkl, nmk, nbk⟩ := id hM
    have k3 := gw.gs.few
    have kk := hG.k2
    have ly : ys.length = ts.length := by rw [hy.len, List.length_map]
    refine ⟨_, rfl, _, rfl, l, _, rfl, .inl (SqL.of hl), _, _, rfl, rfl, a, _, rfl, hb, by omega, by omega, fun r r0 r1 => ?_⟩
    refine ⟨_, rfl, a, 4, rfl, hb, by decide, by decide, fun kd kd0 kd1 => ⟨_, _, rfl, ?_⟩⟩
    obtain ⟨n, rfl⟩ := Int.eq_ofNat_of_zero_le r0
    refine ⟨by show 1 ≤ sizeLine; decide, fun l1 hl1 => ?_⟩
    have e1 := Ext.new (o := .lst [V.str ""]) hl1
    refine ⟨_, rfl, m, _, rfl, get_k (e1 _ _ hm), dk, _, kx.map (·.1), rfl, Rd.of (e1 _ _ hdk), kdA_keys kx at_, by rw [List.length_map]; omega, fun us l3 hperm hso hl3 => ?_⟩
    obtain rfl : us = W.ks.map (·.1) := sorted_one hso hks (hperm.trans (hkp.map _).symm)
    have e3 := Ext.new (o := .lst ((W.ks.map (·.1)).map V.str)) hl3
    refine ⟨l1, l3, _, _, rfl, rfl, e3 _ _ upd_same, upd_same, by rw [List.length_singleton, List.length_map, List.length_map]; exact Nat.le_trans (show _ ≤ 4 by omega) (by decide), fun l4 hl4 => ?_⟩
    have e4 := Ext.new (o := .lst ([V.str ""] ++ (W.ks.map (·.1)).map V.str)) hl4
    have e04 := e1.trans (e3.trans e4)
    have h4 : upd (upd (upd H l1 (.lst [V.str ""])) l3 (.lst ((W.ks.map (·.1)).map V.str))) l4 (.lst ([V.str ""] ++ (W.ks.map (·.1)).map V.str)) l4 = some (.lst ((("" : Str) :: W.ks.map (·.1)).map V.str)) := upd_same
    have e04' : Ext H (upd (upd (upd H l1 (.lst [V.str ""])) l3 (.lst ((W.ks.map (·.1)).map V.str))) l4 (.lst ([V.str ""] ++ (W.ks.map (·.1)).map V.str))) := e04
    generalize upd (upd (upd H l1 (.lst [V.str ""])) l3 (.lst ((W.ks.map (·.1)).map V.str))) l4 (.lst ([V.str ""] ++ (W.ks.map (·.1)).map V.str)) = H4 at e04' h4 ⊢
    have hb4 := hb.up e04'
    refine ⟨_, rfl, _, rfl, _, rfl, l4, _, rfl, .inl (SqL.of h4), a, _, rfl, hb4, by rw [List.length_map, List.length_cons]; omega, by rw [List.length_map, List.length_cons, List.length_map]; omega, fun r5 r50 r51 => ?_⟩
    obtain ⟨u, mu, pu⟩ := str_pick (("" : Str) :: W.ks.map (·.1)) r50 (by rw [List.length_map] at r51; exact r51)
    have uok : u = "" ∨ isNameS u = true := by
      rcases List.mem_cons.mp mu with z | z
      · exact .inl z
      · obtain ⟨k, hk, e2⟩ := List.mem_map.mp z
        rw [← e2]
        exact .inr (gw.gs.nm k hk)
    refine ⟨l4, _, r5, .str u, rfl, rfl, SqL.of h4, pu, _, rfl, a, 4, rfl, hb4, by decide, by decide, fun r6 r60 r61 => ⟨_, rfl, a, 3, rfl, hb4, by decide, by decide, fun r7 r70 r71 => ?_⟩⟩
    obtain ⟨p6, rfl⟩ := Int.eq_ofNat_of_zero_le r60
    obtain ⟨i7, rfl⟩ := Int.eq_ofNat_of_zero_le r70
    refine ⟨by show 3 ≤ sizeLine; decide, fun t ht => ?_⟩
    have et := Ext.new (o := .tup [.str u, .int (p6 : Int), .int (i7 : Int)]) ht
    have h5t : upd H4 t (.tup [.str u, .int (p6 : Int), .int (i7 : Int)]) t = some (.tup [.str u, .int (p6 : Int), .int (i7 : Int)]) := upd_same
    have e05 := e04'.trans et
    generalize upd H4 t (.tup [.str u, .int (p6 : Int), .int (i7 : Int)]) = H5 at e05 h5t ⊢
    have h5l := e05 _ _ hl
    have hy5 := DqAll.up e05 hy
    refine ⟨_, rfl, rfl, _, rfl, ?_⟩
    refine ite2 (fun g => ?_) (fun g => ?_)
    · refine ⟨_, rfl, _, rfl, _, rfl, l, _, rfl, SqL.of h5l, fun p1 hp1 => ?_⟩
      rw [cut_take]
      have e6 := Ext.new (o := .lst (ys.take n)) hp1
      have h6 : upd H5 p1 (.lst (ys.take n)) p1 = some (.lst (ys.take n)) := upd_same
      generalize upd H5 p1 (.lst (ys.take n)) = H6 at e6 h6 ⊢
      refine ⟨_, rfl, _, rfl, _, _, rfl, rfl, _, rfl, l, _, rfl, SqL.of (e6 _ _ h5l), fun p2 hp2 => ?_⟩
      rw [show ((n : Int) + 1) = ((n + 1 : Nat) : Int) from rfl, cut_drop] at *
      have e7 := Ext.new (o := .lst (ys.drop (n + 1))) hp2
      refine ⟨p1, p2, _, _, rfl, rfl, e7 _ _ h6, upd_same, by rw [List.length_take, List.length_drop, ly]; exact Nat.le_trans (show _ ≤ 100 by omega) (by decide), fun p3 hp3 => ?_⟩
      have e8 := Ext.new (o := .lst (ys.take n ++ ys.drop (n + 1))) hp3
      have e08 := e05.trans (e6.trans (e7.trans e8))
      refine q p3 _ (ts.take n ++ ts.drop (n + 1)) _ (e05.free (e6.free (e7.free hp3))) e08 upd_same ?_ (by rw [List.length_append, List.length_take, List.length_drop]; omega) (fun ok t ht => (List.mem_append.mp ht).elim (fun z => ok t (List.mem_of_mem_take z)) fun z => ok t (List.mem_of_mem_drop z))
      rw [List.map_append, List.map_take, List.map_drop]
      have hy8 := DqAll.up (ext_to e08 (e05.free (e6.free (e7.free hp3)))) hy
      exact dq_app (dq_take n hy8) (dq_drop (n + 1) hy8)
    · refine ⟨_, rfl, _, rfl, _, rfl, l, _, rfl, SqL.of h5l, fun p1 hp1 => ?_⟩
      rw [cut_take]
      have e6 := Ext.new (o := .lst (ys.take n)) hp1
      have h6 : upd H5 p1 (.lst (ys.take n)) p1 = some (.lst (ys.take n)) := upd_same
      generalize upd H5 p1 (.lst (ys.take n)) = H6 at e6 h6 ⊢
      refine ⟨_, rfl, by show 1 ≤ sizeLine; decide, fun p2 hp2 => ?_⟩
      have e7 := Ext.new (o := .lst [V.ref t]) hp2
      have lt1 : (ys.take n).length ≤ 40 := by rw [List.length_take, ly]; omega
      refine ⟨p1, p2, _, _, rfl, rfl, e7 _ _ h6, upd_same, by rw [List.length_singleton]; exact Nat.le_trans (show _ ≤ 100 by omega) (by decide), fun p3 hp3 => ?_⟩
      have e8 := Ext.new (o := .lst (ys.take n ++ [V.ref t])) hp3
      have e68 := e7.trans e8
      have h8 : upd (upd H6 p2 (.lst [V.ref t])) p3 (.lst (ys.take n ++ [V.ref t])) p3 = some (.lst (ys.take n ++ [V.ref t])) := upd_same
      generalize upd (upd H6 p2 (.lst [V.ref t])) p3 (.lst (ys.take n ++ [V.ref t])) = H8 at e68 h8 ⊢
      have e58 := e6.trans e68
      refine ⟨_, rfl, _, rfl, _, rfl, rfl, .inr ⟨_, rfl, _, _, rfl, rfl, _, rfl, l, _, rfl, SqL.of (e58 _ _ h5l), fun p4 hp4 => ?_⟩⟩
      obtain ⟨j, hj⟩ : ∃ j : Nat, ((n : Int) + (if decide (V.int kd = V.int 1) = true then 1 else 0)) = (j : Int) ∧ n ≤ j := by
        split
        · exact ⟨n + 1, rfl, by omega⟩
        · exact ⟨n, by omega, Nat.le_refl _⟩
      have hp4' : H8 p4 = none := hp4
      obtain ⟨hj, nj⟩ := hj
      dsimp only
      rw [hj, cut_drop]
      have e9 := Ext.new (o := .lst (ys.drop j)) hp4'
      refine ⟨p3, p4, _, _, rfl, rfl, e9 _ _ h8, upd_same, by rw [List.length_append, List.length_singleton, List.length_drop, ly]; exact Nat.le_trans (show _ ≤ 100 by omega) (by decide), fun p5 hp5 => ?_⟩
      have e10 := Ext.new (o := .lst (ys.take n ++ [V.ref t] ++ ys.drop j)) hp5
      have e510 := e58.trans (e9.trans e10)
      have e010 := e05.trans e510
      have f5 : (H5 p5 = none) := e58.free (e9.free hp5)
      refine q p5 _ (ts.take n ++ [(⟨u, p6, i7⟩ : Stp)] ++ ts.drop j) _ (e05.free f5) e010 upd_same ?_ (by rw [List.length_append, List.length_append, List.length_take, List.length_drop, List.length_singleton]; omega) (fun ok t ht => by
        rcases List.mem_append.mp ht with z | z
        · rcases List.mem_append.mp z with z | z
          · exact ok t (List.mem_of_mem_take z)
          · rw [List.mem_singleton.mp z]
            exact ⟨uok, by show p6 ≤ 6; omega, by show i7 ≤ 6; omega⟩
        · exact ok t (List.mem_of_mem_drop z))
      rw [List.map_append, List.map_append, List.map_take, List.map_drop]
      have hy8 := DqAll.up (ext_to e010 (e05.free f5)) hy
      refine dq_app (dq_app (dq_take n hy8) (.cons ?_ .nil)) (dq_drop j hy8)
      refine .tup (ds := [.str u, .int (p6 : Int), .int (i7 : Int)]) ((ext_to e510 f5) _ _ h5t) (.cons (.str _) (.cons (.int _) (.cons (.int _) .nil)))
end
end K41

set_option Elab.async false
set_option linter.all false
set_option maxRecDepth 100000
set_option maxHeartbeats 4000000
namespace K41
open PySem PySem.Spec PyProof.Rows L2 Ol RZ
open TL (tl)
theorem who_ok {W : Wd} (g : GW W) {s : Sd} {t : Stp} (h : t ∈ W.steps s) : PyData.strOk t.who = true := by
  rcases there_kind g (mem_steps.mp h).1 with e | e
  · rw [e]; decide +kernel
  · obtain ⟨k, hk, e2⟩ := List.mem_map.mp e
    rw [← e2]
    exact name_ok (g.gs.nm k hk)
theorem stp_ok {W : Wd} (g : GW W) {s : Sd} (gs : GSd W s) {t : Stp} (h : t ∈ W.steps s) : StpOk t := by
  have c := can_of g gs h
  obtain ⟨pl, _⟩ := g.pls c.th
  refine ⟨?_, Nat.le_trans (Nat.le_of_lt c.lt) pl.few, Nat.le_trans (Nat.le_of_lt c.li) (Nat.le_trans (pl.ok _ (List.getElem_mem c.lt)).few (by decide))⟩
  rcases there_kind g c.th with e | e
  · exact .inl e
  · obtain ⟨k, hk, e2⟩ := List.mem_map.mp e
    rw [← e2]
    exact .inr (g.gs.nm k hk)
theorem str_of {t : Stp} (h : StpOk t) : PyData.strOk t.who = true := by
  rcases h.1 with e | e
  · rw [e]; decide +kernel
  · exact name_ok e
theorem who_run {W : Wd} (g : GW W) : ∀ {ts : List Stp} {s : Sd}, GSd W s → RunOk W s ts → WhoOk ts
  | [], _, _, _ => fun t ht => by cases ht
  | u :: ts, s, gs, h => fun t ht => by
    rcases List.mem_cons.mp ht with z | z
    · rw [z]; exact stp_ok g gs h.1
    · exact who_run g (run_good g gs (show RunOk W s [u] from ⟨h.1, trivial⟩)) h.2 t z
theorem gd_stp {t : Stp} (h : StpOk t) : Gd 1 (stpD t) := by
  refine gd_tuple (fun d hd => ?_) (by simp)
  simp only [List.mem_cons, List.not_mem_nil, or_false] at hd
  rcases hd with rfl | rfl | rfl
  · rcases h.1 with e | e
    · rw [e]; exact gd_str _ (by decide +kernel) (by decide +kernel)
    · exact name_gd e
  · exact gd_nat5 h.2.1
  · exact gd_nat5 h.2.2
theorem fits_stps {ts : List Stp} (h : WhoOk ts) (h20 : ts.length ≤ 20) : Fits (.list (ts.map stpD)) :=
  fits_list (n := 1) (fun d hd => by
    obtain ⟨t, ht, rfl⟩ := List.mem_map.mp hd
    exact gd_stp (h t ht)) (by decide) (by rw [List.length_map]; exact h20)
theorem sh_stp {t : Stp} (h : PyData.strOk t.who = true) : SeqAt.shaped (stpD t) = true := lay_shaped (by simp [stpD, PyData.canLay0, PyData.canLayAll0, h]) (by simp [stpD, PyData.depth, PyData.depthAll])
theorem sh_stps {ts : List Stp} (h : ∀ t ∈ ts, PyData.strOk t.who = true) : SeqAt.shaped (.list (ts.map stpD)) = true := by
  refine lay_shaped ?_ ?_
  · rw [PyData.canLay0]
    refine lay_all fun d hd => ?_
    obtain ⟨t, ht, rfl⟩ := List.mem_map.mp hd
    simp [stpD, PyData.canLay0, PyData.canLayAll0, h t ht]
  · have := dep_all (n := 4) (ds := ts.map stpD) fun d hd => by
      obtain ⟨x, _, rfl⟩ := List.mem_map.mp hd
      simp [stpD, PyData.depth, PyData.depthAll]
    simp only [PyData.depth]
    omega
theorem stp_eqv {a b : Stp} (h : PyData.eqv (stpD a) (stpD b) = true) : a = b := by
  obtain ⟨u, p, i⟩ := a
  obtain ⟨u', p', i'⟩ := b
  simp [stpD, PyData.eqv, PyData.eqvAll] at h
  obtain ⟨rfl, h2, h3⟩ := h
  have e2 : p = p' := by omega
  have e3 : i = i' := by omega
  rw [e2, e3]
def toldD (W : Wd) (ts : List Stp) : PyData := .tuple [.str "told", .tuple ((needL W ts).map .int)]
def stopD (k : Nat) : PyData := .tuple [.str "stopped", .int (k : Int)]
/-- what is to be answered -/
def Res (W : Wd) (ts : List Stp) (d : PyData) : Prop := (RunOk W W.first ts ∧ d = toldD W ts) ∨ ∃ (k : Nat) (hk : k < ts.length), RunOk W W.first (ts.take k) ∧ ts[k] ∉ W.steps (last W W.first (ts.take k)) ∧ d = stopD k
theorem stop_one {W : Wd} {ts : List Stp} {j k : Nat} (hj : j < ts.length) (n : ts[j] ∉ W.steps (last W W.first (ts.take j))) (r : RunOk W W.first (ts.take k)) : k ≤ j := by
  rcases Nat.lt_or_ge j k with c | c
  · have lt : j < (ts.take k).length := by rw [List.length_take]; omega
    have z := run_at r lt
    rw [List.getElem_take, List.take_take, Nat.min_eq_left (Nat.le_of_lt c)] at z
    exact absurd z n
  · exact c
theorem res_one {W : Wd} {ts : List Stp} {a b : PyData} (h1 : Res W ts a) (h2 : Res W ts b) : a = b := by
  rcases h1 with ⟨r1, rfl⟩ | ⟨j, hj, r1, n1, rfl⟩ <;> rcases h2 with ⟨r2, rfl⟩ | ⟨k, hk, r2, n2, rfl⟩
  · rfl
  · exact absurd (run_at r1 hk) n2
  · exact absurd (run_at r2 hj) n1
  · rw [Nat.le_antisymm (stop_one hk n2 r1) (stop_one hj n1 r2)]
theorem gd_nat20 : ∀ n : Nat, n < 21 → Gd 0 (.int (n : Int)) := fun n h => by
  have : ∀ m : Nat, m < 21 → ((m : Int)).natAbs.log2 < 1920 ∧ ((toString (m : Int) : String) : Str).length ≤ 200 := by decide +kernel
  exact gd_int _ (this n h).1 (this n h).2
theorem need_le {W : Wd} (g : GW W) (k : Str) : ∀ {ts : List Stp} {s : Sd}, GSd W s → RunOk W s ts → need W k s ts ≤ W.out s k + ts.length
  | [], _, _, _ => Nat.zero_le _
  | t :: ts, s, gs, h => by
    have ih := need_le g k (run_good g gs (show RunOk W s [t] from ⟨h.1, trivial⟩)) h.2
    have o := out_after g gs h.1 k
    have e1 : ent t k ≤ 1 := by unfold ent; split <;> omega
    show max (W.out s k + ent t k) (need W k (W.after s t) ts) ≤ W.out s k + (ts.length + 1)
    have ih2 : need W k (W.after s t) ts ≤ W.out (W.after s t) k + ts.length := ih
    omega
theorem gd_res {W : Wd} (g : GW W) (gf : GSd W W.first) {ts : List Stp} {d : PyData} (h20 : ts.length ≤ 20) (h : Res W ts d) : Gd 2 d := by
  rcases h with ⟨ro, rfl⟩ | ⟨k, hk, ro, ns, rfl⟩
  · refine gd_tuple (n := 1) (fun d hd => ?_) (by simp)
    simp only [List.mem_cons, List.not_mem_nil, or_false] at hd
    rcases hd with rfl | rfl
    · exact (gd_str _ (by decide +kernel) (by decide +kernel)).up (by decide)
    · refine gd_tuple (n := 0) (fun d hd => ?_) (by unfold needL; rw [List.length_map, List.length_map]; have := g.gs.few; omega)
      unfold needL at hd
      rw [List.map_map] at hd
      obtain ⟨kn, _, rfl⟩ := List.mem_map.mp hd
      have le := need_le g kn.1 gf ro
      rw [out_first] at le
      exact gd_nat20 _ (by omega)
  · refine gd_tuple (n := 1) (fun d hd => ?_) (by simp)
    simp only [List.mem_cons, List.not_mem_nil, or_false] at hd
    rcases hd with rfl | rfl
    · exact (gd_str _ (by decide +kernel) (by decide +kernel)).up (by decide)
    · exact (gd_nat20 k (by omega)).up (by decide)
theorem lay_res {W : Wd} {ts : List Stp} {d : PyData} (h : Res W ts d) : d.canLay0 = true := by
  rcases h with ⟨_, rfl⟩ | ⟨k, _, _, _, rfl⟩
  · unfold toldD
    rw [PyData.canLay0]
    refine lay_all fun d hd => ?_
    simp only [List.mem_cons, List.not_mem_nil, or_false] at hd
    rcases hd with rfl | rfl
    · simp [PyData.canLay0]
      decide +kernel
    · rw [PyData.canLay0]
      refine lay_all fun d hd => ?_
      obtain ⟨n, _, rfl⟩ := List.mem_map.mp hd
      simp [PyData.canLay0]
  · simp [stopD, PyData.canLay0, PyData.canLayAll0]
    decide +kernel
theorem ints_dq {H : Hp} : ∀ (zs : List Int), DqAll H (zs.map V.int) (zs.map PyData.int)
  | [] => .nil
  | z :: zs => .cons (.int z) (ints_dq zs)
section
variable {P : Program} {w : World} {K : PySem.W.Frag} {mg : Str → Option Value} {base : Heap} {C CP S R SP : Addr}
/-! ### _law_due -/
def spDu : Sp := fun vs H Q _ => ∃ (m l : Addr) (W : Wd) (ys : List V) (ts : List Stp), vs = [.ref m, .ref l] ∧ Sys H ∧ MdlW H m W ∧ H l = some (.lst ys) ∧ DqAll H ys (ts.map stpD) ∧ ts.length ≤ 100 ∧ WhoOk ts ∧
  ∀ (v : V) (H' : Hp) (d : PyData), Ext H H' → Res W ts d → Dq H' v d → Q v H'
abbrev s__law_due : Stmt := (topS 72)
theorem sc__law_due : FnScope ["_law_model_here", "_law_steps_here", "_law_standing", "_law_at"] ["_law_model_here", "_law_steps_here"] (defScope s__law_due) := ⟨rfl, rfl, rfl, by decide +kernel, rfl, by decide +kernel, by decide +kernel⟩
theorem ok_du {f : Addr} {fd : FuncData} (F : Fun K "_law_due" "_law_due" s__law_due f fd) (T : BT mg) (CFi : Ca P w K mg base 2 "_law_first" ["_law_model_here"] spFi) (CSt : Ca P w K mg base 3 "_law_steps" ["_law_model_here", "_law_standing"] spLSt)
    (CAf : Ca P w K mg base 2 "_law_after" ["_law_model_here", "_law_standing", "_law_step"] spLAf) (CNe : Ca P w K mg base 4 "_law_needed" ["_law_model_here", "_law_steps_here"] spNe) :
    FnOk P w K mg base CX0 5 f fd ["_law_model_here", "_law_steps_here"] spDu := by
  refine F.ok sc__law_due (fun vs H Q E h => ?_) (fun cdv A outer s H vs Q E hr h => ?_)
  · obtain ⟨m, l, W, ys, ts, rfl, _⟩ := h
    rfl
  · obtain ⟨m, l, W, ys, ts, rfl, hS, hW, hl, hy, t100, ok, q⟩ := h
    have hu65 : (A.deeper (envOfC "_law_due" (defScope s__law_due) s.heap.objs.size f cdv)).units + 65 < cLine := by have := hr.un; omega
    refine ⟨_, (pss_cons (ps_set (i := 2) sc__law_due.nd rfl (.inl rfl) (pe_ca CFi (hr.mono (by decide)) (by rfl) (pa_cons (pv 0) pa_nil)))
    (pss_cons (ps_for PassesOwn.never rfl (pi_range1 (by rfl) T.n_range (pa_cons (pe_callB call_len_seq (by rfl) T.n_len (by decide +kernel) (pa_cons (pv 1) pa_nil)) pa_nil)) (pg_name (i := 3) sc__law_due.nd rfl (.inl rfl))
      (pss_cons (ps_if (pt_cmpR (op_notInQ hu65) (pe_ix ix_list (pv 1) (pv 3) (fun _ _ => rfl)) (pe_ca CSt (hr.mono (by decide)) (by rfl) (pa_cons (pv 0) (pa_cons (pv 2) pa_nil))) (by rfl))
        (pss_one (ps_ret (pe_tup (pa_cons pe_str (pa_cons (pv 3) pa_nil)))))
        pss_nil)
      (pss_one (ps_set (i := 2) sc__law_due.nd rfl (.inl rfl) (pe_ca CAf (hr.mono (by decide)) (by rfl) (pa_cons (pv 0) (pa_cons (pv 2) (pa_cons (pe_ix ix_list (pv 1) (pv 3) (fun _ _ => rfl)) pa_nil))))))))
    (pss_one (ps_ret (pe_tup (pa_cons pe_str (pa_cons (pe_ca CNe (hr.mono (by decide)) (by rfl) (pa_cons (pv 0) (pa_cons (pv 1) pa_nil))) pa_nil))))))), ?_⟩
    have gw := hW.gw
    have gf := first_good hW
    have ly : ys.length = ts.length := by rw [hy.len, List.length_map]
    refine ⟨_, rfl, m, W, rfl, hW, fun v H1 e1 hv => ?_⟩
    refine ⟨_, rfl, l, _, rfl, .inl (SqL.of (e1 _ _ hl)), _, rfl, by rw [ly]; omega, by rw [ly]; omega, ?_⟩
    rw [Int.toNat_natCast, ly]
    refine for_range (n := ts.length) (fun i σ H' => ∃ v2 v3, σ = [some (.ref m), some (.ref l), some v2, v3] ∧ Ext H1 H' ∧ Dq H' v2 (stgD ((last W W.first (ts.take i)).std W.ns)) ∧ RunOk W W.first (ts.take i))
      ⟨_, _, rfl, Ext.refl _, hv, trivial⟩ ?_ ?_
    · rintro i σ H2 hi ⟨v2, v3, rfl, e2, hv2, ro⟩
      have e02 := e1.trans e2
      have gsi := run_good gw gf ro
      obtain ⟨x', hx', dx'⟩ := DqAll_get hy i (stpD ts[i]) (by rw [List.getElem?_map, List.getElem?_eq_getElem hi]; rfl)
      have okt := str_of (ok ts[i] (List.getElem_mem hi))
      refine ⟨_, rfl, _, rfl, l, _, _, x', rfl, rfl, SqL.of (e02 _ _ hl), by rw [Int.zero_add]; exact atI_nat hx', _, rfl, _, rfl, m, W, v2, last W W.first (ts.take i), rfl, sysUp hS e02, hW.up e02, hv2, gsi, fun l2 ys2 H3 nl2 e3 h3 hy2 => ?_⟩
      have e03 := e02.trans e3
      refine ⟨stpD ts[i], (W.steps (last W W.first (ts.take i))).map stpD, sysUp hS e03, dx'.up e03, .lst h3 (DqAll.up del_ext hy2), sh_stp okt, sh_stps fun t ht => who_ok gw ht, _, rfl, ?_⟩
      refine ite2 (fun g => ?_) (fun g => ?_)
      · have nst : ts[i] ∉ W.steps (last W W.first (ts.take i)) := fun z => by
          have ey : ((W.steps (last W W.first (ts.take i))).map stpD).any (fun z => PyData.eqv z (stpD ts[i])) = true := List.any_eq_true.mpr ⟨_, List.mem_map_of_mem z, SeqAt.eqv_refl _ (SeqAt.canLay_of_shaped (sh_stp okt))⟩
          rw [ey] at g
          cases g
        refine ⟨_, rfl, by show 2 ≤ sizeLine; decide, fun t ht => ?_⟩
        have et := Ext.new (o := .tup [.str "stopped", .int (0 + (i : Int))]) ht
        refine q _ _ _ (e03.trans et) (.inr ⟨i, hi, ro, nst, rfl⟩) (.tup upd_same (.cons (.str _) (.cons ?_ .nil)))
        rw [Int.zero_add]
        exact .int _
      · have st : ts[i] ∈ W.steps (last W W.first (ts.take i)) := by
          have ey : ((W.steps (last W W.first (ts.take i))).map stpD).any (fun z => PyData.eqv z (stpD ts[i])) = true := by simpa using g
          obtain ⟨d, hd, he⟩ := List.any_eq_true.mp ey
          obtain ⟨t, ht, rfl⟩ := List.mem_map.mp hd
          rw [← stp_eqv he]
          exact ht
        refine ⟨_, rfl, _, rfl, _, rfl, _, rfl, l, _, _, x', rfl, rfl, SqL.of (e03 _ _ hl), by rw [Int.zero_add]; exact atI_nat hx', m, W, v2, x', last W W.first (ts.take i), ts[i], rfl, hW.up e03, hv2.up e3, gsi, dx'.up e03, st, fun r H4 e4 hr4 => ?_⟩
        refine ⟨_, _, rfl, e2.trans (e3.trans e4), ?_, ?_⟩
        · rw [List.take_add_one, List.getElem?_eq_getElem hi, Option.toList_some, last_snoc]
          exact hr4
        · rw [List.take_add_one, List.getElem?_eq_getElem hi, Option.toList_some]
          exact run_snoc ro st
    · rintro σ H2 ⟨v2, v3, rfl, e2, hv2, ro⟩
      rw [List.take_length] at ro
      have e02 := e1.trans e2
      refine ⟨_, rfl, _, rfl, m, l, W, ys, ts, rfl, hW.up e02, e02 _ _ hl, hy.up e02, ro, t100, fun r H3 e3 h3 => ?_⟩
      refine ⟨by show 2 ≤ sizeLine; decide, fun t ht => ?_⟩
      have et := Ext.new (o := .tup [.str "told", .ref r]) ht
      exact q _ _ _ (e02.trans (e3.trans et)) (.inl ⟨ro, rfl⟩) (.tup upd_same (.cons (.str _) (.cons (.tup (et _ _ h3) (ints_dq _)) .nil)))
end
end K41

set_option Elab.async false
set_option linter.all false
set_option maxRecDepth 100000
set_option maxHeartbeats 4000000
namespace K41
open PySem PySem.Spec PyProof.Rows L2 Ol RZ
open TL (tl)
section
variable {P : Program} {w : World} {K : PySem.W.Frag} {mg : Str → Option Value} {base : Heap} {C CP S R SP : Addr}
/-- the class of the error that is caught -/
structure E1 (K : PySem.W.Frag) (mg : Str → Option Value) (c : Addr) : Prop where
  bs : ∃ B : Addr, mg "LaneError" = some (.ref B) ∧ PySem.W.exmOne K (.ref c) (.ref B) = some true
  e : ExcC K c
  k1 : PySem.W.kitOne K (.ref c) (.ref c) = some true
theorem takes0N {X : Cx} : L2N.Takes X (fun _ _ _ _ => False) := fun _ _ y => by
  obtain ⟨_, _, _, _, _, _, _, _, _, _, _, _, _, _, _, _, z⟩ := y
  exact z.elim
/-! ### _law_heard -/
def spHe (S C CP : Addr) : Sp := fun vs H Q _ => ∃ (p l : Addr) (W : Wd) (ys : List V) (ts : List Stp), vs = [.ref p, .ref l] ∧ SysO S C CP H p W ∧ GSd W W.first ∧ H l = some (.lst ys) ∧ DqAll H ys (ts.map stpD) ∧ ts.length ≤ 100 ∧
  ∀ (v : V) (H' : Hp) (d : PyData), Ext H H' → Res W ts d → Dq H' v d → Q v H'
abbrev s__law_heard : Stmt := (topS 73)
theorem sc__law_heard : FnScope ["_law_system", "_law_steps_here", "e"] ["_law_system", "_law_steps_here"] (defScope s__law_heard) := ⟨rfl, rfl, rfl, by decide +kernel, rfl, by decide +kernel, by decide +kernel⟩
theorem ok_he {f : Addr} {fd : FuncData} (F : Fun K "_law_heard" "_law_heard" s__law_heard f fd) (T : BT mg) (TP : XT K mg "Stopped" "index" SP) (EP : E1 K mg SP)
    (CNd : CaN P w K mg base 10 "needed" ["system", "steps"] (spNd S C CP SP)) :
    FnOk P w K mg base CX0 11 f fd ["_law_system", "_law_steps_here"] (spHe S C CP) := by
  obtain ⟨B, gB, tB'⟩ := EP.bs
  obtain ⟨fN, fdN, FN, gN, kN, bN⟩ := CNd.has
  refine F.ok sc__law_heard (fun vs H Q E h => ?_) (fun cdv A outer s H vs Q E hr h => ?_)
  · obtain ⟨p, l, W, ys, ts, rfl, _⟩ := h
    rfl
  · obtain ⟨p, l, W, ys, ts, rfl, hS, gf, hl, hy, t100, q⟩ := h
    refine ⟨_, (pss_one (L2N.ps_try_as (i := 2) (tb := fun W => tRet (tTup (tCons (tC (.str "told")) (tCons (tCallS (spNd S C CP SP) (WE W) (tCons (tVar 0) (tCons (tVar 1) tNil))) tNil))))
        (ts := fun a cls d => tRet (tIf (tB (tCB (rIsX K a cls d) (tCons (tVar 2) (tCons (tC (.ref SP)) tNil)))) (tTup (tCons (tC (.str "stopped")) (tCons (tXf a cls d SP "index" (tVar 2)) tNil))) (tTup (tCons (tC (.str "other")) (tCons (tC (.int 0)) tNil))))) (Wout := fun _ _ _ _ => False) rfl rfl sc__law_heard.nd rfl rfl ⟨rfl, by decide, Or.inl gB⟩ takes0N
      (fun W pn xe tk _ => pss_one (ps_ret (pe_tup (pa_cons pe_str (pa_cons (by exact (pe_callS FN (hr.mono (by decide)) (by rfl) gN kN bN (fun σ => passAtN tk σ) (pa_cons (pv 0) (pa_cons (pv 1) pa_nil)))) pa_nil)))))
      (fun a oe cls d pn hz hf => pss_one (ps_ret (pe_ifExp (pt_val (pe_callB (call_isX hz.zc hf) (by rfl) T.n_isinstance (by decide +kernel) (pa_cons (pv 2) (pa_cons (pe_glob (v := .ref SP) rfl TP.g rfl) pa_nil)))) (pe_tup (pa_cons pe_str (pa_cons (by exact (pe_xf TP.xf TP.nF hz.zc hf (pv 2))) pa_nil))) (pe_tup (pa_cons pe_str (pa_cons pe_int pa_nil)))))))), ?_⟩
    refine ⟨_, rfl, _, rfl, p, l, W, ys, ts, rfl, hS, gf, hl, hy, t100, fun ro r H1 nr e1 h1 => ?_, fun k hk ro nst d H1 e1 hd => ?_⟩
    · refine ⟨by show 2 ≤ sizeLine; decide, fun t ht => ?_⟩
      have et := Ext.new (o := .tup [.str "told", .ref r]) ht
      exact q _ _ _ (e1.trans et) (.inl ⟨ro, rfl⟩) (.tup upd_same (.cons (.str _) (.cons (.tup (et _ _ h1) (ints_dq _)) .nil)))
    · refine ⟨true, tB', fun _ a ha => ?_, fun z => Bool.noConfusion z⟩
      refine ⟨_, rfl, SP, SP, d, _, true, rfl, rfl, EP.e, rfl, hd, EP.k1, _, rfl, ?_⟩
      refine iteT ?_
      refine ⟨_, rfl, rfl, rfl, d, _, _, rfl, hd, x1_at _ _, by show 2 ≤ sizeLine; decide, fun t ht => ?_⟩
      have et := Ext.new (o := .tup [.str "stopped", .int (k : Int)]) ht
      exact q _ _ _ (e1.trans et) (.inr ⟨k, hk, ro, nst, rfl⟩) (.tup upd_same (.cons (.str _) (.cons (.int _) .nil)))
end
end K41

set_option Elab.async false
set_option linter.all false
set_option maxRecDepth 100000
set_option maxHeartbeats 4000000
namespace K41
open PySem PySem.Spec PyProof.Rows L2 Ol RZ
open TL (tl)
section
variable {P : Program} {w : World} {K : PySem.W.Frag} {mg : Str → Option Value} {base : Heap} {C CP S SP : Addr}
def spLaw (K : PySem.W.Frag) : Sp := fun vs H Q _ => ∃ (a : Addr) (ns : List Int), vs = [.ref a] ∧ Sys H ∧ SqL K H a (ns.map V.int) ∧ ns.length ≤ 63 ∧ ∀ H', Q (.bl true) H'
abbrev s_law : Stmt := (topS 74)
theorem sc_law : FnScope ["_law_script", "_law_bag_here", "_law_turn", "_law_model_here", "_law_system", "_law_steps_here", "_law_k", "_law_some", "_law_due_here", "_law_handed", "_law_again"] ["_law_script"] (defScope s_law) := ⟨rfl, rfl, rfl, by decide +kernel, rfl, by decide +kernel, by decide +kernel⟩
theorem ok_law {f : Addr} {fd : FuncData} (F : Fun K "law" "law" s_law f fd) (T : BT mg)
    (CB : Ca P w K mg base 1 "_law_bag" ["_law_script"] (spBag K)) (CT : Ca P w K mg base 1 "_law_take" ["_law_bag_here", "_law_many"] spTake)
    (CWo : Ca P w K mg base 5 "_law_world" ["_law_bag_here"] spWo) (CMa : Ca P w K mg base 9 "_law_made" ["_law_model_here"] (spMade S C CP))
    (CRu : Ca P w K mg base 4 "_law_run" ["_law_bag_here", "_law_model_here", "_law_many"] spLRun) (CSp : Ca P w K mg base 2 "_law_spoilt" ["_law_bag_here", "_law_model_here", "_law_steps_here"] spSpo)
    (CDu : Ca P w K mg base 5 "_law_due" ["_law_model_here", "_law_steps_here"] spDu) (CHe : Ca P w K mg base 11 "_law_heard" ["_law_system", "_law_steps_here"] (spHe S C CP)) (CAl : Cg P w K mg base 1 "_law_alike" ["_law_found", "_law_due_here"] spAlike) :
    FnG P w K mg base 12 f fd ["_law_script"] (spLaw K) := by
  refine okG F sc_law (fun vs H Q E h => ?_) (fun cdv A outer s0 H vs Q E hG hr h => ?_)
  · obtain ⟨a, ns, rfl, _⟩ := h
    rfl
  · obtain ⟨a, zs, rfl, hS0, hs, hl, q⟩ := h
    refine ⟨_, (pss_cons (ps_set (i := 1) sc_law.nd rfl (.inl rfl) (pe_ca CB (hr.mono (by decide)) (by rfl) (pa_cons (pv 0) pa_nil)))
    (pss_cons (ps_for PassesOwn.never rfl (pi_range1 (by rfl) T.n_range (pa_cons pe_int pa_nil)) (pg_name (i := 2) sc_law.nd rfl (.inl rfl))
      (pss_cons (ps_set (i := 3) sc_law.nd rfl (.inl rfl) (pe_ca CWo (hr.mono (by decide)) (by rfl) (pa_cons (pv 1) pa_nil)))
      (pss_cons (ps_par (i := 4) (j := 5) rfl sc_law.nd rfl rfl (by decide) rfl rfl (pa_cons (pe_ca CMa (hr.mono (by decide)) (by rfl) (pa_cons (pv 3) pa_nil)) (pa_cons (pe_ca CRu (hr.mono (by decide)) (by rfl) (pa_cons (pv 1) (pa_cons (pv 3) (pa_cons (pe_ca CT (hr.mono (by decide)) (by rfl) (pa_cons (pv 1) (pa_cons pe_int pa_nil))) pa_nil)))) pa_nil)) (by rfl))
      (pss_one (ps_for PassesOwn.never rfl (pi_range1 (by rfl) T.n_range (pa_cons pe_int pa_nil)) (pg_name (i := 6) sc_law.nd rfl (.inl rfl))
        (pss_cons (ps_set (i := 7) sc_law.nd rfl (.inl rfl) (pe_ix ix_list (pe_lst (pa_cons (pv 5) (pa_cons (pe_ca CSp (hr.mono (by decide)) (by rfl) (pa_cons (pv 1) (pa_cons (pv 3) (pa_cons (pv 5) pa_nil)))) pa_nil))) (pe_callTy call_int1 (by rfl) T.n_int (by decide +kernel) (pa_cons (pe_cmpR op_gt (pv 6) pe_int (nomark _)) pa_nil)) (fun _ _ => rfl)))
        (pss_cons (ps_par (i := 8) (j := 9) rfl sc_law.nd rfl rfl (by decide) rfl rfl (pa_cons (pe_ca CDu (hr.mono (by decide)) (by rfl) (pa_cons (pv 3) (pa_cons (pv 7) pa_nil))) (pa_cons (pe_callTy call_list_of (by rfl) T.n_list (by decide +kernel) (pa_cons (pv 7) pa_nil)) pa_nil)) (by rfl))
        (pss_one (ps_for PassesOwn.never rfl (pi_range1 (by rfl) T.n_range (pa_cons pe_int pa_nil)) (pg_name (i := 10) sc_law.nd rfl (.inl rfl))
          (pss_cons (ps_if (pt_not (pt_val (pe_cg CAl hG (hr.mono (by decide)) (by rfl) (pa_cons (pe_ca CHe (hr.mono (by decide)) (by rfl) (pa_cons (pv 4) (pa_cons (pv 9) pa_nil))) (pa_cons (pv 8) pa_nil)))))
            (pss_one (ps_ret pe_bl))
            pss_nil)
          (pss_one (ps_if (pt_not (pt_val (pe_cg CAl hG (hr.mono (by decide)) (by rfl) (pa_cons (pv 9) (pa_cons (pv 7) pa_nil)))))
            (pss_one (ps_ret pe_bl))
            pss_nil))))))))))))
    (pss_one (ps_ret pe_bl)))), ?_⟩
    refine ⟨_, rfl, a, zs, rfl, hs, by omega, fun p H1 e1 hb => ?_⟩
    have S1 := sysUp hS0 e1
    refine ⟨_, rfl, by decide, by decide, for_range (n := 4) (fun i σ H' => ∃ s2 s3 s4 s5 s6 s7 s8 s9 s10, σ = [some (.ref a), some (.ref p), s2, s3, s4, s5, s6, s7, s8, s9, s10] ∧ Ext H1 H')
      ⟨none, none, none, none, none, none, none, none, none, rfl, Ext.refl _⟩ ?_ ?_⟩
    · rintro i σ H2 hi ⟨s2, s3, s4, s5, s6, s7, s8, s9, s10, rfl, e2⟩
      have hb2 := hb.up e2
      have S2 := sysUp S1 e2
      refine ⟨_, rfl, p, rfl, S2, hb2, fun m H3 g ps sv kx nm e3 g3 hM hGm => ?_⟩
      refine ⟨_, rfl, m, g, ps, sv, kx, rfl, hM, hGm, fun x H4 ns ks nx e4 hperm hso hkp hSy => ?_⟩
      have hgS : GSys ns sv ks := by obtain ⟨_, _, _, _, _, _, _, _, _, _, _, _, _, _, _, _, gS⟩ := hSy; exact gS
      obtain ⟨W, eW⟩ : ∃ W : Wd, W = ⟨ns, bdOf ps, sv, ks⟩ := ⟨_, rfl⟩
      have hW4 : MdlW H4 m W := by rw [eW]; exact ⟨g, ps, kx, hM.up e4, hGm, g3, hkp, hgS.so, hperm, hso, rfl⟩
      have gw := hW4.gw
      have hO4 : SysO S C CP H4 x W := by refine ⟨?_, gw⟩; rw [eW]; exact hSy
      clear eW hgS hSy
      have gf := first_good hW4
      have e24 := e3.trans e4
      have hb4 := hb2.up e24
      have S4 := sysUp S2 e24
      refine ⟨_, rfl, _, rfl, _, rfl, p, 17, rfl, hb4, by decide, by decide, fun k k0 k1 => ?_⟩
      obtain ⟨k, rfl⟩ : ∃ j : Nat, k = (j : Int) := ⟨k.toNat, by omega⟩
      refine ⟨p, m, k, W, rfl, hb4, S4, hW4, by omega, fun l ys ts H5 nl e5 hl5 hys ro lt => ⟨_, _, rfl, ?_⟩⟩
      have hb5 := hb4.up e5
      have S5 := sysUp S4 e5
      have hW5 := hW4.up e5
      have hO5 := hO4.up e5
      have hy5 : DqAll H5 ys (ts.map stpD) := DqAll.up del_ext hys
      have wk := who_run gw gf ro
      have e15 : Ext H1 H5 := e2.trans (e24.trans e5)
      refine ⟨_, rfl, by decide, by decide, for_range (n := 3) (fun j σ H' => ∃ s6 s7 s8 s9 s10, σ = [some (.ref a), some (.ref p), some (.int (0 + (i : Int))), some (.ref m), some (.ref x), some (.ref l), s6, s7, s8, s9, s10] ∧ Ext H5 H')
        ⟨_, _, _, _, _, rfl, Ext.refl _⟩ ?_ ?_⟩
      · rintro j σ H6 hj ⟨s6, s7, s8, s9, s10, rfl, e6⟩
        have hb6 := hb5.up e6
        have hl6 := e6 _ _ hl5
        have hy6 := DqAll.up e6 hy5
        refine ⟨_, rfl, _, rfl, _, rfl, _, rfl, p, m, l, W, ys, ts, rfl, hb6, hW5.up e6, hl6, hy6, by omega, fun r2 zs2 us H7 nr e7 h7 hz7 le wo => ?_⟩
        refine ⟨by show 2 ≤ sizeLine; decide, fun L hL => ?_⟩
        have eL := Ext.new (o := .lst [.ref l, .ref r2]) hL
        have hL8 : upd H7 L (.lst [.ref l, .ref r2]) L = some (.lst [.ref l, .ref r2]) := upd_same
        have e68 := e7.trans eL
        have h8r := eL _ _ h7
        have hz8 : DqAll (upd H7 L (.lst [.ref l, .ref r2])) zs2 (us.map stpD) := DqAll.up eL (DqAll.up del_ext hz7)
        generalize upd H7 L (.lst [.ref l, .ref r2]) = H8 at e68 hL8 h8r hz8 ⊢
        have pick : ∃ (qa : Addr) (xs : List V) (vs : List Stp), atI [V.ref l, V.ref r2] (if decide ((0 : Int) + (j : Int) > 0) = true then 1 else 0) = some (.ref qa) ∧ H8 qa = some (.lst xs) ∧ DqAll H8 xs (vs.map stpD) ∧ WhoOk vs ∧ vs.length ≤ 17 := by
          split
          · exact ⟨r2, zs2, us, rfl, h8r, hz8, wo wk, by omega⟩
          · exact ⟨l, ys, ts, rfl, e68 _ _ hl6, DqAll.up e68 hy6, wk, by omega⟩
        obtain ⟨qa, xs, vs, pk, hqa, hxs, wv, l17⟩ := pick
        refine ⟨_, rfl, _, _, rfl, rfl, .inr ⟨_, rfl, L, _, _, _, rfl, rfl, SqL.of hL8, pk, ?_⟩⟩
        have e58 := e6.trans e68
        have S8 := sysUp S5 e58
        refine ⟨_, rfl, _, rfl, m, qa, W, xs, vs, rfl, S8, hW5.up e58, hqa, hxs, by omega, wv, fun v H9 d e9 hres hd => ?_⟩
        refine ⟨_, rfl, qa, xs, rfl, .inl (SqL.of (e9 _ _ hqa)), fun c hc => ⟨_, _, rfl, ?_⟩⟩
        have ec := Ext.new (o := .lst xs) hc
        have h10c : upd H9 c (.lst xs) c = some (.lst xs) := upd_same
        have e8a := e9.trans ec
        have hd10 := hd.up ec
        generalize upd H9 c (.lst xs) = H10 at e8a h10c hd10 ⊢
        have e5a := e58.trans e8a
        have hx10 := DqAll.up e8a hxs
        have hq10 := e8a _ _ hqa
        have gd := gd_res gw gf (by omega) hres
        have shd : SeqAt.shaped d = true := lay_shaped (lay_res hres) (Nat.le_trans gd.dep (by decide))
        refine ⟨_, rfl, by decide, by decide, for_range (n := 2) (fun t σ H' => ∃ s10, σ = [some (.ref a), some (.ref p), some (.int (0 + (i : Int))), some (.ref m), some (.ref x), some (.ref l), some (.int (0 + (j : Int))), some (.ref qa), some v, some (.ref c), s10] ∧ Ext H10 H')
          ⟨_, rfl, Ext.refl _⟩ ?_ ?_⟩
        · rintro t σ H11 ht ⟨s10', rfl, e11⟩
          have e5b := e5a.trans e11
          have hx11 := DqAll.up e11 hx10
          refine ⟨_, rfl, _, rfl, x, c, W, xs, vs, rfl, hO5.up e5b, gf, e11 _ _ h10c, hx11, by omega, fun v2 H12 d2 e12 hres2 hd2 => ?_⟩
          obtain rfl : d2 = d := res_one hres2 hres
          refine ⟨_, rfl, v2, v, d2, rfl, sysUp S5 (e5b.trans e12), hd2, hd10.up (e11.trans e12), shd, gd.fits (by decide), fun H13 e13 => ⟨_, rfl, ?_⟩⟩
          refine iteF ?_
          have ea := e11.trans (e12.trans e13)
          have hx13 := DqAll.up ea hx10
          refine ⟨_, rfl, _, rfl, .ref c, .ref qa, .list (vs.map stpD), rfl, sysUp S5 (e5a.trans ea), .lst (ea _ _ h10c) hx13, .lst (ea _ _ hq10) hx13, sh_stps fun t ht => str_of (wv t ht), fits_stps wv (by omega), fun H14 e14 => ⟨_, rfl, ?_⟩⟩
          refine iteF ?_
          exact ⟨_, rfl, ea.trans e14⟩
        · rintro σ H11 ⟨s10', rfl, e11⟩
          exact ⟨_, _, _, _, _, rfl, e5a.trans e11⟩
      · rintro σ H6 ⟨s6, s7, s8, s9, s10, rfl, e6⟩
        exact ⟨_, _, _, _, _, _, _, _, _, rfl, e15.trans e6⟩
    · rintro σ H2 ⟨s2, s3, s4, s5, s6, s7, s8, s9, s10, rfl, e2⟩
      exact q H2
end
end K41

set_option Elab.async false
set_option linter.all false
set_option maxRecDepth 100000
set_option maxHeartbeats 4000000
namespace K41
open PySem PySem.Spec PyProof.Rows L2 Ol
open TL (tl)
section
variable {P : Program} {w : World} {K : PySem.W.Frag} {mg : Str → Option Value} {base : Heap}
abbrev s__law_alike : Stmt := (topS 51)
theorem sc__law_alike : FnScope ["_law_found", "_law_due_here"] ["_law_found", "_law_due_here"] (defScope s__law_alike) := ⟨rfl, rfl, rfl, by decide +kernel, rfl, by decide +kernel, by decide +kernel⟩
theorem ok_alike {f : Addr} {fd : FuncData} (F : Fun K "_law_alike" "_law_alike" s__law_alike f fd) (T : BT mg) :
    FnG P w K mg base 1 f fd ["_law_found", "_law_due_here"] spAlike := by
  refine okG F sc__law_alike (fun vs H Q E h => ?_) (fun cdv A outer s H vs Q E hG hr h => ?_)
  · obtain ⟨v, u, d, rfl, _⟩ := h
    rfl
  · obtain ⟨v, u, d, rfl, S, h1, h2, hs, ft, q⟩ := h
    refine ⟨_, (pss_one (ps_ret (pe_and (pe_cmpR (op_eqQ hr) (pv 0) (pv 1) (nomark _)) (pe_one (pe_cmpR op_eq (pe_callB (call_reprD hG hr) (by rfl) T.n_repr (by decide +kernel) (pa_cons (pv 0) pa_nil)) (pe_callB (call_reprD hG hr) (by rfl) T.n_repr (by decide +kernel) (pa_cons (pv 1) pa_nil)) (nomark _)))))), ?_⟩
    refine ⟨_, rfl, _, rfl, d, d, S, h1, h2, hs, hs, _, rfl, ?_⟩
    rw [SeqAt.eqv_refl d (SeqAt.canLay_of_shaped hs)]
    refine iteT ?_
    refine ⟨_, rfl, v, d, rfl, S, h1, ft.sh, ft.dep, ft.len, _, rfl, u, d, rfl, S, h2, ft.sh, ft.dep, ft.len, rfl, ?_⟩
    have e : decide (V.str d.shown = V.str d.shown) = true := decide_eq_true rfl
    rw [e]
    exact q H (Ext.refl H)
end

end K41

set_option Elab.async false
set_option linter.all false
set_option maxRecDepth 100000
set_option maxHeartbeats 4000000
namespace K41
open PySem PySem.Spec PyProof.Rows L2 Ol
theorem good_arm {vs : List V} {H : Hp} {Q : VK} {E : XK} (h : spGood GA vs H Q E) : spPred OkT isArmD vs H Q E := by
  obtain ⟨v, d, e, hd, ⟨a, ga, rfl⟩, q⟩ := h
  obtain ⟨h1, h2⟩ := isArm_of ga
  exact ⟨v, _, e, hd, h2, fun H2 e2 => by rw [h1]; exact q H2 e2⟩
theorem all_mk {l : PySem.W.OpenLaw} {w : World} {K : PySem.W.Frag} {h : Heap} {mg : Str → Option Value} {fa C CP S SP B : Addr} (X : K.In h) (G : h.Ns mainGlobals mg) (hfa : mg "law" = some (.ref fa))
    {f0 : Addr} {od0 an0 : Option Addr} {sl0 : Array (Option Value)} {oc0 kV0 dc0 pm0 cd0 ct0 : Value}
    (a0 : PySem.W.nsIn K mainGlobals "is_integer" = some (some (.ref f0)))
    (l0 : K.lookup f0 = some ⟨oc0, od0, .func (PySem.W.fnOf "is_integer" "is_integer" (defArgs s_is_integer) (defBody s_is_integer) (defScope s_is_integer) .none kV0 dc0 pm0 an0 cd0 ct0), sl0⟩)
    (c0 : PySem.W.codeIn K cd0 "is_integer" = true) (k0 : PySem.W.keepIn K (.ref f0) = true)
    {f1 : Addr} {od1 an1 : Option Addr} {sl1 : Array (Option Value)} {oc1 kV1 dc1 pm1 cd1 ct1 : Value}
    (a1 : PySem.W.nsIn K mainGlobals "is_number" = some (some (.ref f1)))
    (l1 : K.lookup f1 = some ⟨oc1, od1, .func (PySem.W.fnOf "is_number" "is_number" (defArgs s_is_number) (defBody s_is_number) (defScope s_is_number) .none kV1 dc1 pm1 an1 cd1 ct1), sl1⟩)
    (c1 : PySem.W.codeIn K cd1 "is_number" = true) (k1 : PySem.W.keepIn K (.ref f1) = true)
    {f2 : Addr} {od2 an2 : Option Addr} {sl2 : Array (Option Value)} {oc2 kV2 dc2 pm2 cd2 ct2 : Value}
    (a2 : PySem.W.nsIn K mainGlobals "is_name" = some (some (.ref f2)))
    (l2 : K.lookup f2 = some ⟨oc2, od2, .func (PySem.W.fnOf "is_name" "is_name" (defArgs s_is_name) (defBody s_is_name) (defScope s_is_name) .none kV2 dc2 pm2 an2 cd2 ct2), sl2⟩)
    (c2 : PySem.W.codeIn K cd2 "is_name" = true) (k2 : PySem.W.keepIn K (.ref f2) = true)
    {f3 : Addr} {od3 an3 : Option Addr} {sl3 : Array (Option Value)} {oc3 kV3 dc3 pm3 cd3 ct3 : Value}
    (a3 : PySem.W.nsIn K mainGlobals "is_word" = some (some (.ref f3)))
    (l3 : K.lookup f3 = some ⟨oc3, od3, .func (PySem.W.fnOf "is_word" "is_word" (defArgs s_is_word) (defBody s_is_word) (defScope s_is_word) .none kV3 dc3 pm3 an3 cd3 ct3), sl3⟩)
    (c3 : PySem.W.codeIn K cd3 "is_word" = true) (k3 : PySem.W.keepIn K (.ref f3) = true)
    {f4 : Addr} {od4 an4 : Option Addr} {sl4 : Array (Option Value)} {oc4 kV4 dc4 pm4 cd4 ct4 : Value}
    (a4 : PySem.W.nsIn K mainGlobals "is_mode" = some (some (.ref f4)))
    (l4 : K.lookup f4 = some ⟨oc4, od4, .func (PySem.W.fnOf "is_mode" "is_mode" (defArgs s_mode) (defBody s_mode) (defScope s_mode) .none kV4 dc4 pm4 an4 cd4 ct4), sl4⟩)
    (c4 : PySem.W.codeIn K cd4 "is_mode" = true) (k4 : PySem.W.keepIn K (.ref f4) = true)
    {f5 : Addr} {od5 an5 : Option Addr} {sl5 : Array (Option Value)} {oc5 kV5 dc5 pm5 cd5 ct5 : Value}
    (a5 : PySem.W.nsIn K mainGlobals "is_arm" = some (some (.ref f5)))
    (l5 : K.lookup f5 = some ⟨oc5, od5, .func (PySem.W.fnOf "is_arm" "is_arm" (defArgs s_is_arm) (defBody s_is_arm) (defScope s_is_arm) .none kV5 dc5 pm5 an5 cd5 ct5), sl5⟩)
    (c5 : PySem.W.codeIn K cd5 "is_arm" = true) (k5 : PySem.W.keepIn K (.ref f5) = true)
    {f6 : Addr} {od6 an6 : Option Addr} {sl6 : Array (Option Value)} {oc6 kV6 dc6 pm6 cd6 ct6 : Value}
    (a6 : PySem.W.nsIn K mainGlobals "is_row_of" = some (some (.ref f6)))
    (l6 : K.lookup f6 = some ⟨oc6, od6, .func (PySem.W.fnOf "is_row_of" "is_row_of" (defArgs s_row) (defBody s_row) (defScope s_row) .none kV6 dc6 pm6 an6 cd6 ct6), sl6⟩)
    (c6 : PySem.W.codeIn K cd6 "is_row_of" = true) (k6 : PySem.W.keepIn K (.ref f6) = true)
    {f7 : Addr} {od7 an7 : Option Addr} {sl7 : Array (Option Value)} {oc7 kV7 dc7 pm7 cd7 ct7 : Value}
    (a7 : PySem.W.nsIn K mainGlobals "is_step" = some (some (.ref f7)))
    (l7 : K.lookup f7 = some ⟨oc7, od7, .func (PySem.W.fnOf "is_step" "is_step" (defArgs s_stp) (defBody s_stp) (defScope s_stp) .none kV7 dc7 pm7 an7 cd7 ct7), sl7⟩)
    (c7 : PySem.W.codeIn K cd7 "is_step" = true) (k7 : PySem.W.keepIn K (.ref f7) = true)
    {f8 : Addr} {od8 an8 : Option Addr} {sl8 : Array (Option Value)} {oc8 kV8 dc8 pm8 cd8 ct8 : Value}
    (a8 : PySem.W.nsIn K mainGlobals "state_behind" = some (some (.ref f8)))
    (l8 : K.lookup f8 = some ⟨oc8, od8, .func (PySem.W.fnOf "state_behind" "state_behind" (defArgs s_state_behind) (defBody s_state_behind) (defScope s_state_behind) .none kV8 dc8 pm8 an8 cd8 ct8), sl8⟩)
    (c8 : PySem.W.codeIn K cd8 "state_behind" = true) (k8 : PySem.W.keepIn K (.ref f8) = true)
    {f9 : Addr} {od9 an9 : Option Addr} {sl9 : Array (Option Value)} {oc9 kV9 dc9 pm9 cd9 ct9 : Value}
    (a9 : PySem.W.nsIn K mainGlobals "replaced" = some (some (.ref f9)))
    (l9 : K.lookup f9 = some ⟨oc9, od9, .func (PySem.W.fnOf "replaced" "replaced" (defArgs s_replaced) (defBody s_replaced) (defScope s_replaced) .none kV9 dc9 pm9 an9 cd9 ct9), sl9⟩)
    (c9 : PySem.W.codeIn K cd9 "replaced" = true) (k9 : PySem.W.keepIn K (.ref f9) = true)
    {f10 : Addr} {od10 an10 : Option Addr} {sl10 : Array (Option Value)} {oc10 kV10 dc10 pm10 cd10 ct10 : Value}
    (a10 : PySem.W.nsIn K mainGlobals "is_bound" = some (some (.ref f10)))
    (l10 : K.lookup f10 = some ⟨oc10, od10, .func (PySem.W.fnOf "is_bound" "is_bound" (defArgs s_is_bound) (defBody s_is_bound) (defScope s_is_bound) .none kV10 dc10 pm10 an10 cd10 ct10), sl10⟩)
    (c10 : PySem.W.codeIn K cd10 "is_bound" = true) (k10 : PySem.W.keepIn K (.ref f10) = true)
    {f11 : Addr} {od11 an11 : Option Addr} {sl11 : Array (Option Value)} {oc11 kV11 dc11 pm11 cd11 ct11 : Value}
    (a11 : PySem.W.nsIn K mainGlobals "is_bounds" = some (some (.ref f11)))
    (l11 : K.lookup f11 = some ⟨oc11, od11, .func (PySem.W.fnOf "is_bounds" "is_bounds" (defArgs s_is_bounds) (defBody s_is_bounds) (defScope s_is_bounds) .none kV11 dc11 pm11 an11 cd11 ct11), sl11⟩)
    (c11 : PySem.W.codeIn K cd11 "is_bounds" = true) (k11 : PySem.W.keepIn K (.ref f11) = true)
    {f12 : Addr} {od12 an12 : Option Addr} {sl12 : Array (Option Value)} {oc12 kV12 dc12 pm12 cd12 ct12 : Value}
    (a12 : PySem.W.nsIn K mainGlobals "is_place" = some (some (.ref f12)))
    (l12 : K.lookup f12 = some ⟨oc12, od12, .func (PySem.W.fnOf "is_place" "is_place" (defArgs s_place) (defBody s_place) (defScope s_place) .none kV12 dc12 pm12 an12 cd12 ct12), sl12⟩)
    (c12 : PySem.W.codeIn K cd12 "is_place" = true) (k12 : PySem.W.keepIn K (.ref f12) = true)
    {f13 : Addr} {od13 an13 : Option Addr} {sl13 : Array (Option Value)} {oc13 kV13 dc13 pm13 cd13 ct13 : Value}
    (a13 : PySem.W.nsIn K mainGlobals "is_else" = some (some (.ref f13)))
    (l13 : K.lookup f13 = some ⟨oc13, od13, .func (PySem.W.fnOf "is_else" "is_else" (defArgs s_else) (defBody s_else) (defScope s_else) .none kV13 dc13 pm13 an13 cd13 ct13), sl13⟩)
    (c13 : PySem.W.codeIn K cd13 "is_else" = true) (k13 : PySem.W.keepIn K (.ref f13) = true)
    {f14 : Addr} {od14 an14 : Option Addr} {sl14 : Array (Option Value)} {oc14 kV14 dc14 pm14 cd14 ct14 : Value}
    (a14 : PySem.W.nsIn K mainGlobals "check_lanes" = some (some (.ref f14)))
    (l14 : K.lookup f14 = some ⟨oc14, od14, .func (PySem.W.fnOf "check_lanes" "check_lanes" (defArgs s_ckl) (defBody s_ckl) (defScope s_ckl) .none kV14 dc14 pm14 an14 cd14 ct14), sl14⟩)
    (c14 : PySem.W.codeIn K cd14 "check_lanes" = true) (k14 : PySem.W.keepIn K (.ref f14) = true)
    {f15 : Addr} {od15 an15 : Option Addr} {sl15 : Array (Option Value)} {oc15 kV15 dc15 pm15 cd15 ct15 : Value}
    (a15 : PySem.W.nsIn K mainGlobals "open_arms" = some (some (.ref f15)))
    (l15 : K.lookup f15 = some ⟨oc15, od15, .func (PySem.W.fnOf "open_arms" "open_arms" (defArgs s_oa) (defBody s_oa) (defScope s_oa) .none kV15 dc15 pm15 an15 cd15 ct15), sl15⟩)
    (c15 : PySem.W.codeIn K cd15 "open_arms" = true) (k15 : PySem.W.keepIn K (.ref f15) = true)
    {f16 : Addr} {od16 an16 : Option Addr} {sl16 : Array (Option Value)} {oc16 kV16 dc16 pm16 cd16 ct16 : Value}
    (a16 : PySem.W.nsIn K mainGlobals "allowed" = some (some (.ref f16)))
    (l16 : K.lookup f16 = some ⟨oc16, od16, .func (PySem.W.fnOf "allowed" "allowed" (defArgs s_al) (defBody s_al) (defScope s_al) .none kV16 dc16 pm16 an16 cd16 ct16), sl16⟩)
    (c16 : PySem.W.codeIn K cd16 "allowed" = true) (k16 : PySem.W.keepIn K (.ref f16) = true)
    {f17 : Addr} {od17 an17 : Option Addr} {sl17 : Array (Option Value)} {oc17 kV17 dc17 pm17 cd17 ct17 : Value}
    (a17 : PySem.W.nsIn K mainGlobals "allowed_at" = some (some (.ref f17)))
    (l17 : K.lookup f17 = some ⟨oc17, od17, .func (PySem.W.fnOf "allowed_at" "allowed_at" (defArgs s_at) (defBody s_at) (defScope s_at) .none kV17 dc17 pm17 an17 cd17 ct17), sl17⟩)
    (c17 : PySem.W.codeIn K cd17 "allowed_at" = true) (k17 : PySem.W.keepIn K (.ref f17) = true)
    {f18 : Addr} {od18 an18 : Option Addr} {sl18 : Array (Option Value)} {oc18 kV18 dc18 pm18 cd18 ct18 : Value}
    (a18 : PySem.W.nsIn K mainGlobals "behind_arm" = some (some (.ref f18)))
    (l18 : K.lookup f18 = some ⟨oc18, od18, .func (PySem.W.fnOf "behind_arm" "behind_arm" (defArgs s_ba) (defBody s_ba) (defScope s_ba) .none kV18 dc18 pm18 an18 cd18 ct18), sl18⟩)
    (c18 : PySem.W.codeIn K cd18 "behind_arm" = true) (k18 : PySem.W.keepIn K (.ref f18) = true)
    {f19 : Addr} {od19 an19 : Option Addr} {sl19 : Array (Option Value)} {oc19 kV19 dc19 pm19 cd19 ct19 : Value}
    (a19 : PySem.W.nsIn K mainGlobals "is_kinds" = some (some (.ref f19)))
    (l19 : K.lookup f19 = some ⟨oc19, od19, .func (PySem.W.fnOf "is_kinds" "is_kinds" (defArgs s_kinds) (defBody s_kinds) (defScope s_kinds) .none kV19 dc19 pm19 an19 cd19 ct19), sl19⟩)
    (c19 : PySem.W.codeIn K cd19 "is_kinds" = true) (k19 : PySem.W.keepIn K (.ref f19) = true)
    {f20 : Addr} {od20 an20 : Option Addr} {sl20 : Array (Option Value)} {oc20 kV20 dc20 pm20 cd20 ct20 : Value}
    (a20 : PySem.W.nsIn K mainGlobals "kinds_of" = some (some (.ref f20)))
    (l20 : K.lookup f20 = some ⟨oc20, od20, .func (PySem.W.fnOf "kinds_of" "kinds_of" (defArgs s_kinds_of) (defBody s_kinds_of) (defScope s_kinds_of) .none kV20 dc20 pm20 an20 cd20 ct20), sl20⟩)
    (c20 : PySem.W.codeIn K cd20 "kinds_of" = true) (k20 : PySem.W.keepIn K (.ref f20) = true)
    {f21 : Addr} {od21 an21 : Option Addr} {sl21 : Array (Option Value)} {oc21 kV21 dc21 pm21 cd21 ct21 : Value}
    (a21 : PySem.W.nsIn K mainGlobals "needed" = some (some (.ref f21)))
    (l21 : K.lookup f21 = some ⟨oc21, od21, .func (PySem.W.fnOf "needed" "needed" (defArgs s_needed) (defBody s_needed) (defScope s_needed) .none kV21 dc21 pm21 an21 cd21 ct21), sl21⟩)
    (c21 : PySem.W.codeIn K cd21 "needed" = true) (k21 : PySem.W.keepIn K (.ref f21) = true)
    {f22 : Addr} {od22 an22 : Option Addr} {sl22 : Array (Option Value)} {oc22 kV22 dc22 pm22 cd22 ct22 : Value}
    (a22 : PySem.W.nsIn K mainGlobals "_law_bag" = some (some (.ref f22)))
    (l22 : K.lookup f22 = some ⟨oc22, od22, .func (PySem.W.fnOf "_law_bag" "_law_bag" (defArgs s__law_bag) (defBody s__law_bag) (defScope s__law_bag) .none kV22 dc22 pm22 an22 cd22 ct22), sl22⟩)
    (c22 : PySem.W.codeIn K cd22 "_law_bag" = true) (k22 : PySem.W.keepIn K (.ref f22) = true)
    {f23 : Addr} {od23 an23 : Option Addr} {sl23 : Array (Option Value)} {oc23 kV23 dc23 pm23 cd23 ct23 : Value}
    (a23 : PySem.W.nsIn K mainGlobals "_law_take" = some (some (.ref f23)))
    (l23 : K.lookup f23 = some ⟨oc23, od23, .func (PySem.W.fnOf "_law_take" "_law_take" (defArgs s__law_take) (defBody s__law_take) (defScope s__law_take) .none kV23 dc23 pm23 an23 cd23 ct23), sl23⟩)
    (c23 : PySem.W.codeIn K cd23 "_law_take" = true) (k23 : PySem.W.keepIn K (.ref f23) = true)
    {f24 : Addr} {od24 an24 : Option Addr} {sl24 : Array (Option Value)} {oc24 kV24 dc24 pm24 cd24 ct24 : Value}
    (a24 : PySem.W.nsIn K mainGlobals "_law_alike" = some (some (.ref f24)))
    (l24 : K.lookup f24 = some ⟨oc24, od24, .func (PySem.W.fnOf "_law_alike" "_law_alike" (defArgs s__law_alike) (defBody s__law_alike) (defScope s__law_alike) .none kV24 dc24 pm24 an24 cd24 ct24), sl24⟩)
    (c24 : PySem.W.codeIn K cd24 "_law_alike" = true) (k24 : PySem.W.keepIn K (.ref f24) = true)
    {f25 : Addr} {od25 an25 : Option Addr} {sl25 : Array (Option Value)} {oc25 kV25 dc25 pm25 cd25 ct25 : Value}
    (a25 : PySem.W.nsIn K mainGlobals "_law_names" = some (some (.ref f25)))
    (l25 : K.lookup f25 = some ⟨oc25, od25, .func (PySem.W.fnOf "_law_names" "_law_names" (defArgs s__law_names) (defBody s__law_names) (defScope s__law_names) .none kV25 dc25 pm25 an25 cd25 ct25), sl25⟩)
    (c25 : PySem.W.codeIn K cd25 "_law_names" = true) (k25 : PySem.W.keepIn K (.ref f25) = true)
    {f26 : Addr} {od26 an26 : Option Addr} {sl26 : Array (Option Value)} {oc26 kV26 dc26 pm26 cd26 ct26 : Value}
    (a26 : PySem.W.nsIn K mainGlobals "_law_bounds" = some (some (.ref f26)))
    (l26 : K.lookup f26 = some ⟨oc26, od26, .func (PySem.W.fnOf "_law_bounds" "_law_bounds" (defArgs s_bounds) (defBody s_bounds) (defScope s_bounds) .none kV26 dc26 pm26 an26 cd26 ct26), sl26⟩)
    (c26 : PySem.W.codeIn K cd26 "_law_bounds" = true) (k26 : PySem.W.keepIn K (.ref f26) = true)
    {f27 : Addr} {od27 an27 : Option Addr} {sl27 : Array (Option Value)} {oc27 kV27 dc27 pm27 cd27 ct27 : Value}
    (a27 : PySem.W.nsIn K mainGlobals "_law_arm" = some (some (.ref f27)))
    (l27 : K.lookup f27 = some ⟨oc27, od27, .func (PySem.W.fnOf "_law_arm" "_law_arm" (defArgs s__law_arm) (defBody s__law_arm) (defScope s__law_arm) .none kV27 dc27 pm27 an27 cd27 ct27), sl27⟩)
    (c27 : PySem.W.codeIn K cd27 "_law_arm" = true) (k27 : PySem.W.keepIn K (.ref f27) = true)
    {f28 : Addr} {od28 an28 : Option Addr} {sl28 : Array (Option Value)} {oc28 kV28 dc28 pm28 cd28 ct28 : Value}
    (a28 : PySem.W.nsIn K mainGlobals "_law_program" = some (some (.ref f28)))
    (l28 : K.lookup f28 = some ⟨oc28, od28, .func (PySem.W.fnOf "_law_program" "_law_program" (defArgs s__law_program) (defBody s__law_program) (defScope s__law_program) .none kV28 dc28 pm28 an28 cd28 ct28), sl28⟩)
    (c28 : PySem.W.codeIn K cd28 "_law_program" = true) (k28 : PySem.W.keepIn K (.ref f28) = true)
    {f29 : Addr} {od29 an29 : Option Addr} {sl29 : Array (Option Value)} {oc29 kV29 dc29 pm29 cd29 ct29 : Value}
    (a29 : PySem.W.nsIn K mainGlobals "_law_model" = some (some (.ref f29)))
    (l29 : K.lookup f29 = some ⟨oc29, od29, .func (PySem.W.fnOf "_law_model" "_law_model" (defArgs s__law_model) (defBody s__law_model) (defScope s__law_model) .none kV29 dc29 pm29 an29 cd29 ct29), sl29⟩)
    (c29 : PySem.W.codeIn K cd29 "_law_model" = true) (k29 : PySem.W.keepIn K (.ref f29) = true)
    {f30 : Addr} {od30 an30 : Option Addr} {sl30 : Array (Option Value)} {oc30 kV30 dc30 pm30 cd30 ct30 : Value}
    (a30 : PySem.W.nsIn K mainGlobals "_law_made" = some (some (.ref f30)))
    (l30 : K.lookup f30 = some ⟨oc30, od30, .func (PySem.W.fnOf "_law_made" "_law_made" (defArgs s__law_made) (defBody s__law_made) (defScope s__law_made) .none kV30 dc30 pm30 an30 cd30 ct30), sl30⟩)
    (c30 : PySem.W.codeIn K cd30 "_law_made" = true) (k30 : PySem.W.keepIn K (.ref f30) = true)
    {f31 : Addr} {od31 an31 : Option Addr} {sl31 : Array (Option Value)} {oc31 kV31 dc31 pm31 cd31 ct31 : Value}
    (a31 : PySem.W.nsIn K mainGlobals "_law_opens" = some (some (.ref f31)))
    (l31 : K.lookup f31 = some ⟨oc31, od31, .func (PySem.W.fnOf "_law_opens" "_law_opens" (defArgs s_opens) (defBody s_opens) (defScope s_opens) .none kV31 dc31 pm31 an31 cd31 ct31), sl31⟩)
    (c31 : PySem.W.codeIn K cd31 "_law_opens" = true) (k31 : PySem.W.keepIn K (.ref f31) = true)
    {f32 : Addr} {od32 an32 : Option Addr} {sl32 : Array (Option Value)} {oc32 kV32 dc32 pm32 cd32 ct32 : Value}
    (a32 : PySem.W.nsIn K mainGlobals "_law_left" = some (some (.ref f32)))
    (l32 : K.lookup f32 = some ⟨oc32, od32, .func (PySem.W.fnOf "_law_left" "_law_left" (defArgs s_left) (defBody s_left) (defScope s_left) .none kV32 dc32 pm32 an32 cd32 ct32), sl32⟩)
    (c32 : PySem.W.codeIn K cd32 "_law_left" = true) (k32 : PySem.W.keepIn K (.ref f32) = true)
    {f33 : Addr} {od33 an33 : Option Addr} {sl33 : Array (Option Value)} {oc33 kV33 dc33 pm33 cd33 ct33 : Value}
    (a33 : PySem.W.nsIn K mainGlobals "_law_choices" = some (some (.ref f33)))
    (l33 : K.lookup f33 = some ⟨oc33, od33, .func (PySem.W.fnOf "_law_choices" "_law_choices" (defArgs s__law_choices) (defBody s__law_choices) (defScope s__law_choices) .none kV33 dc33 pm33 an33 cd33 ct33), sl33⟩)
    (c33 : PySem.W.codeIn K cd33 "_law_choices" = true) (k33 : PySem.W.keepIn K (.ref f33) = true)
    {f34 : Addr} {od34 an34 : Option Addr} {sl34 : Array (Option Value)} {oc34 kV34 dc34 pm34 cd34 ct34 : Value}
    (a34 : PySem.W.nsIn K mainGlobals "_law_seats" = some (some (.ref f34)))
    (l34 : K.lookup f34 = some ⟨oc34, od34, .func (PySem.W.fnOf "_law_seats" "_law_seats" (defArgs s__law_seats) (defBody s__law_seats) (defScope s__law_seats) .none kV34 dc34 pm34 an34 cd34 ct34), sl34⟩)
    (c34 : PySem.W.codeIn K cd34 "_law_seats" = true) (k34 : PySem.W.keepIn K (.ref f34) = true)
    {f35 : Addr} {od35 an35 : Option Addr} {sl35 : Array (Option Value)} {oc35 kV35 dc35 pm35 cd35 ct35 : Value}
    (a35 : PySem.W.nsIn K mainGlobals "_law_first" = some (some (.ref f35)))
    (l35 : K.lookup f35 = some ⟨oc35, od35, .func (PySem.W.fnOf "_law_first" "_law_first" (defArgs s__law_first) (defBody s__law_first) (defScope s__law_first) .none kV35 dc35 pm35 an35 cd35 ct35), sl35⟩)
    (c35 : PySem.W.codeIn K cd35 "_law_first" = true) (k35 : PySem.W.keepIn K (.ref f35) = true)
    {f36 : Addr} {od36 an36 : Option Addr} {sl36 : Array (Option Value)} {oc36 kV36 dc36 pm36 cd36 ct36 : Value}
    (a36 : PySem.W.nsIn K mainGlobals "_law_rows" = some (some (.ref f36)))
    (l36 : K.lookup f36 = some ⟨oc36, od36, .func (PySem.W.fnOf "_law_rows" "_law_rows" (defArgs s__law_rows) (defBody s__law_rows) (defScope s__law_rows) .none kV36 dc36 pm36 an36 cd36 ct36), sl36⟩)
    (c36 : PySem.W.codeIn K cd36 "_law_rows" = true) (k36 : PySem.W.keepIn K (.ref f36) = true)
    {f37 : Addr} {od37 an37 : Option Addr} {sl37 : Array (Option Value)} {oc37 kV37 dc37 pm37 cd37 ct37 : Value}
    (a37 : PySem.W.nsIn K mainGlobals "_law_steps" = some (some (.ref f37)))
    (l37 : K.lookup f37 = some ⟨oc37, od37, .func (PySem.W.fnOf "_law_steps" "_law_steps" (defArgs s__law_steps) (defBody s__law_steps) (defScope s__law_steps) .none kV37 dc37 pm37 an37 cd37 ct37), sl37⟩)
    (c37 : PySem.W.codeIn K cd37 "_law_steps" = true) (k37 : PySem.W.keepIn K (.ref f37) = true)
    {f38 : Addr} {od38 an38 : Option Addr} {sl38 : Array (Option Value)} {oc38 kV38 dc38 pm38 cd38 ct38 : Value}
    (a38 : PySem.W.nsIn K mainGlobals "_law_after" = some (some (.ref f38)))
    (l38 : K.lookup f38 = some ⟨oc38, od38, .func (PySem.W.fnOf "_law_after" "_law_after" (defArgs s__law_after) (defBody s__law_after) (defScope s__law_after) .none kV38 dc38 pm38 an38 cd38 ct38), sl38⟩)
    (c38 : PySem.W.codeIn K cd38 "_law_after" = true) (k38 : PySem.W.keepIn K (.ref f38) = true)
    {f39 : Addr} {od39 an39 : Option Addr} {sl39 : Array (Option Value)} {oc39 kV39 dc39 pm39 cd39 ct39 : Value}
    (a39 : PySem.W.nsIn K mainGlobals "_law_run" = some (some (.ref f39)))
    (l39 : K.lookup f39 = some ⟨oc39, od39, .func (PySem.W.fnOf "_law_run" "_law_run" (defArgs s__law_run) (defBody s__law_run) (defScope s__law_run) .none kV39 dc39 pm39 an39 cd39 ct39), sl39⟩)
    (c39 : PySem.W.codeIn K cd39 "_law_run" = true) (k39 : PySem.W.keepIn K (.ref f39) = true)
    {f40 : Addr} {od40 an40 : Option Addr} {sl40 : Array (Option Value)} {oc40 kV40 dc40 pm40 cd40 ct40 : Value}
    (a40 : PySem.W.nsIn K mainGlobals "_law_world" = some (some (.ref f40)))
    (l40 : K.lookup f40 = some ⟨oc40, od40, .func (PySem.W.fnOf "_law_world" "_law_world" (defArgs s__law_world) (defBody s__law_world) (defScope s__law_world) .none kV40 dc40 pm40 an40 cd40 ct40), sl40⟩)
    (c40 : PySem.W.codeIn K cd40 "_law_world" = true) (k40 : PySem.W.keepIn K (.ref f40) = true)
    {f41 : Addr} {od41 an41 : Option Addr} {sl41 : Array (Option Value)} {oc41 kV41 dc41 pm41 cd41 ct41 : Value}
    (a41 : PySem.W.nsIn K mainGlobals "_law_ends" = some (some (.ref f41)))
    (l41 : K.lookup f41 = some ⟨oc41, od41, .func (PySem.W.fnOf "_law_ends" "_law_ends" (defArgs s__law_ends) (defBody s__law_ends) (defScope s__law_ends) .none kV41 dc41 pm41 an41 cd41 ct41), sl41⟩)
    (c41 : PySem.W.codeIn K cd41 "_law_ends" = true) (k41 : PySem.W.keepIn K (.ref f41) = true)
    {f42 : Addr} {od42 an42 : Option Addr} {sl42 : Array (Option Value)} {oc42 kV42 dc42 pm42 cd42 ct42 : Value}
    (a42 : PySem.W.nsIn K mainGlobals "_law_out" = some (some (.ref f42)))
    (l42 : K.lookup f42 = some ⟨oc42, od42, .func (PySem.W.fnOf "_law_out" "_law_out" (defArgs s__law_out) (defBody s__law_out) (defScope s__law_out) .none kV42 dc42 pm42 an42 cd42 ct42), sl42⟩)
    (c42 : PySem.W.codeIn K cd42 "_law_out" = true) (k42 : PySem.W.keepIn K (.ref f42) = true)
    {f43 : Addr} {od43 an43 : Option Addr} {sl43 : Array (Option Value)} {oc43 kV43 dc43 pm43 cd43 ct43 : Value}
    (a43 : PySem.W.nsIn K mainGlobals "_law_needed" = some (some (.ref f43)))
    (l43 : K.lookup f43 = some ⟨oc43, od43, .func (PySem.W.fnOf "_law_needed" "_law_needed" (defArgs s__law_needed) (defBody s__law_needed) (defScope s__law_needed) .none kV43 dc43 pm43 an43 cd43 ct43), sl43⟩)
    (c43 : PySem.W.codeIn K cd43 "_law_needed" = true) (k43 : PySem.W.keepIn K (.ref f43) = true)
    {f44 : Addr} {od44 an44 : Option Addr} {sl44 : Array (Option Value)} {oc44 kV44 dc44 pm44 cd44 ct44 : Value}
    (a44 : PySem.W.nsIn K mainGlobals "_law_spoilt" = some (some (.ref f44)))
    (l44 : K.lookup f44 = some ⟨oc44, od44, .func (PySem.W.fnOf "_law_spoilt" "_law_spoilt" (defArgs s__law_spoilt) (defBody s__law_spoilt) (defScope s__law_spoilt) .none kV44 dc44 pm44 an44 cd44 ct44), sl44⟩)
    (c44 : PySem.W.codeIn K cd44 "_law_spoilt" = true) (k44 : PySem.W.keepIn K (.ref f44) = true)
    {f45 : Addr} {od45 an45 : Option Addr} {sl45 : Array (Option Value)} {oc45 kV45 dc45 pm45 cd45 ct45 : Value}
    (a45 : PySem.W.nsIn K mainGlobals "_law_due" = some (some (.ref f45)))
    (l45 : K.lookup f45 = some ⟨oc45, od45, .func (PySem.W.fnOf "_law_due" "_law_due" (defArgs s__law_due) (defBody s__law_due) (defScope s__law_due) .none kV45 dc45 pm45 an45 cd45 ct45), sl45⟩)
    (c45 : PySem.W.codeIn K cd45 "_law_due" = true) (k45 : PySem.W.keepIn K (.ref f45) = true)
    {f46 : Addr} {od46 an46 : Option Addr} {sl46 : Array (Option Value)} {oc46 kV46 dc46 pm46 cd46 ct46 : Value}
    (a46 : PySem.W.nsIn K mainGlobals "_law_heard" = some (some (.ref f46)))
    (l46 : K.lookup f46 = some ⟨oc46, od46, .func (PySem.W.fnOf "_law_heard" "_law_heard" (defArgs s__law_heard) (defBody s__law_heard) (defScope s__law_heard) .none kV46 dc46 pm46 an46 cd46 ct46), sl46⟩)
    (c46 : PySem.W.codeIn K cd46 "_law_heard" = true) (k46 : PySem.W.keepIn K (.ref f46) = true)
    {f47 : Addr} {od47 an47 : Option Addr} {sl47 : Array (Option Value)} {oc47 kV47 dc47 pm47 cd47 ct47 : Value}
    (a47 : PySem.W.nsIn K mainGlobals "law" = some (some (.ref f47)))
    (l47 : K.lookup f47 = some ⟨oc47, od47, .func (PySem.W.fnOf "law" "law" (defArgs s_law) (defBody s_law) (defScope s_law) .none kV47 dc47 pm47 an47 cd47 ct47), sl47⟩)
    (c47 : PySem.W.codeIn K cd47 "law" = true) (k47 : PySem.W.keepIn K (.ref f47) = true)
    (aGC : PySem.W.nsIn K mainGlobals "Lanes" = some (some (.ref C)))
    (aGCP : PySem.W.nsIn K mainGlobals "Program" = some (some (.ref CP)))
    (aGS : PySem.W.nsIn K mainGlobals "System" = some (some (.ref S)))
    (aGSP : PySem.W.nsIn K mainGlobals "Stopped" = some (some (.ref SP)))
    (aGB : PySem.W.nsIn K mainGlobals "LaneError" = some (some (.ref B)))
    {fm0 : Addr} {odm0 anm0 : Option Addr} {slm0 : Array (Option Value)} {ocm0 kVm0 dcm0 pmm0 cdm0 ctm0 : Value}
    (am0 : PySem.W.findIn K (.ref C) "__init__" = some (some (.ref fm0)))
    (im0 : PySem.W.isFn K (.ref fm0) = true)
    (lm0 : K.lookup fm0 = some ⟨ocm0, odm0, .func (PySem.W.fnOf "__init__" "Lanes.__init__" (defArgs (cL 0)) (defBody (cL 0)) (defScope (cL 0)) .none kVm0 dcm0 pmm0 anm0 cdm0 ctm0), slm0⟩)
    (cm0 : PySem.W.codeIn K cdm0 "Lanes.__init__" = true) (km0 : PySem.W.keepIn K (.ref fm0) = true)
    {fm1 : Addr} {odm1 anm1 : Option Addr} {slm1 : Array (Option Value)} {ocm1 kVm1 dcm1 pmm1 cdm1 ctm1 : Value}
    (am1 : PySem.W.findIn K (.ref C) "__contains__" = some (some (.ref fm1)))
    (im1 : PySem.W.isFn K (.ref fm1) = true)
    (lm1 : K.lookup fm1 = some ⟨ocm1, odm1, .func (PySem.W.fnOf "__contains__" "Lanes.__contains__" (defArgs (cL 4)) (defBody (cL 4)) (defScope (cL 4)) .none kVm1 dcm1 pmm1 anm1 cdm1 ctm1), slm1⟩)
    (cm1 : PySem.W.codeIn K cdm1 "Lanes.__contains__" = true) (km1 : PySem.W.keepIn K (.ref fm1) = true)
    {fm2 : Addr} {odm2 anm2 : Option Addr} {slm2 : Array (Option Value)} {ocm2 kVm2 dcm2 pmm2 cdm2 ctm2 : Value}
    (am2 : PySem.W.findIn K (.ref C) "_spot" = some (some (.ref fm2)))
    (im2 : PySem.W.isFn K (.ref fm2) = true)
    (lm2 : K.lookup fm2 = some ⟨ocm2, odm2, .func (PySem.W.fnOf "_spot" "Lanes._spot" (defArgs (cL 7)) (defBody (cL 7)) (defScope (cL 7)) .none kVm2 dcm2 pmm2 anm2 cdm2 ctm2), slm2⟩)
    (cm2 : PySem.W.codeIn K cdm2 "Lanes._spot" = true) (km2 : PySem.W.keepIn K (.ref fm2) = true)
    {fm3 : Addr} {odm3 anm3 : Option Addr} {slm3 : Array (Option Value)} {ocm3 kVm3 dcm3 pmm3 cdm3 ctm3 : Value}
    (am3 : PySem.W.findIn K (.ref C) "_behind" = some (some (.ref fm3)))
    (im3 : PySem.W.isFn K (.ref fm3) = true)
    (lm3 : K.lookup fm3 = some ⟨ocm3, odm3, .func (PySem.W.fnOf "_behind" "Lanes._behind" (defArgs (cL 8)) (defBody (cL 8)) (defScope (cL 8)) .none kVm3 dcm3 pmm3 anm3 cdm3 ctm3), slm3⟩)
    (cm3 : PySem.W.codeIn K cdm3 "Lanes._behind" = true) (km3 : PySem.W.keepIn K (.ref fm3) = true)
    {fm4 : Addr} {odm4 anm4 : Option Addr} {slm4 : Array (Option Value)} {ocm4 kVm4 dcm4 pmm4 cdm4 ctm4 : Value}
    (am4 : PySem.W.findIn K (.ref C) "is_open" = some (some (.ref fm4)))
    (im4 : PySem.W.isFn K (.ref fm4) = true)
    (lm4 : K.lookup fm4 = some ⟨ocm4, odm4, .func (PySem.W.fnOf "is_open" "Lanes.is_open" (defArgs (cL 13)) (defBody (cL 13)) (defScope (cL 13)) .none kVm4 dcm4 pmm4 anm4 cdm4 ctm4), slm4⟩)
    (cm4 : PySem.W.codeIn K cdm4 "Lanes.is_open" = true) (km4 : PySem.W.keepIn K (.ref fm4) = true)
    {fm5 : Addr} {odm5 anm5 : Option Addr} {slm5 : Array (Option Value)} {ocm5 kVm5 dcm5 pmm5 cdm5 ctm5 : Value}
    (am5 : PySem.W.findIn K (.ref C) "done" = some (some (.ref fm5)))
    (im5 : PySem.W.isFn K (.ref fm5) = true)
    (lm5 : K.lookup fm5 = some ⟨ocm5, odm5, .func (PySem.W.fnOf "done" "Lanes.done" (defArgs (cL 14)) (defBody (cL 14)) (defScope (cL 14)) .none kVm5 dcm5 pmm5 anm5 cdm5 ctm5), slm5⟩)
    (cm5 : PySem.W.codeIn K cdm5 "Lanes.done" = true) (km5 : PySem.W.keepIn K (.ref fm5) = true)
    {fm6 : Addr} {odm6 anm6 : Option Addr} {slm6 : Array (Option Value)} {ocm6 kVm6 dcm6 pmm6 cdm6 ctm6 : Value}
    (am6 : PySem.W.findIn K (.ref CP) "__init__" = some (some (.ref fm6)))
    (im6 : PySem.W.isFn K (.ref fm6) = true)
    (lm6 : K.lookup fm6 = some ⟨ocm6, odm6, .func (PySem.W.fnOf "__init__" "Program.__init__" (defArgs (cP 0)) (defBody (cP 0)) (defScope (cP 0)) .none kVm6 dcm6 pmm6 anm6 cdm6 ctm6), slm6⟩)
    (cm6 : PySem.W.codeIn K cdm6 "Program.__init__" = true) (km6 : PySem.W.keepIn K (.ref fm6) = true)
    {fm7 : Addr} {odm7 anm7 : Option Addr} {slm7 : Array (Option Value)} {ocm7 kVm7 dcm7 pmm7 cdm7 ctm7 : Value}
    (am7 : PySem.W.findIn K (.ref CP) "_check" = some (some (.ref fm7)))
    (im7 : PySem.W.isFn K (.ref fm7) = true)
    (lm7 : K.lookup fm7 = some ⟨ocm7, odm7, .func (PySem.W.fnOf "_check" "Program._check" (defArgs (cP 1)) (defBody (cP 1)) (defScope (cP 1)) .none kVm7 dcm7 pmm7 anm7 cdm7 ctm7), slm7⟩)
    (cm7 : PySem.W.codeIn K cdm7 "Program._check" = true) (km7 : PySem.W.keepIn K (.ref fm7) = true)
    {fm8 : Addr} {odm8 anm8 : Option Addr} {slm8 : Array (Option Value)} {ocm8 kVm8 dcm8 pmm8 cdm8 ctm8 : Value}
    (am8 : PySem.W.findIn K (.ref CP) "_place" = some (some (.ref fm8)))
    (im8 : PySem.W.isFn K (.ref fm8) = true)
    (lm8 : K.lookup fm8 = some ⟨ocm8, odm8, .func (PySem.W.fnOf "_place" "Program._place" (defArgs (cP 4)) (defBody (cP 4)) (defScope (cP 4)) .none kVm8 dcm8 pmm8 anm8 cdm8 ctm8), slm8⟩)
    (cm8 : PySem.W.codeIn K cdm8 "Program._place" = true) (km8 : PySem.W.keepIn K (.ref fm8) = true)
    {fm9 : Addr} {odm9 anm9 : Option Addr} {slm9 : Array (Option Value)} {ocm9 kVm9 dcm9 pmm9 cdm9 ctm9 : Value}
    (am9 : PySem.W.findIn K (.ref CP) "mode" = some (some (.ref fm9)))
    (im9 : PySem.W.isFn K (.ref fm9) = true)
    (lm9 : K.lookup fm9 = some ⟨ocm9, odm9, .func (PySem.W.fnOf "mode" "Program.mode" (defArgs (cP 8)) (defBody (cP 8)) (defScope (cP 8)) .none kVm9 dcm9 pmm9 anm9 cdm9 ctm9), slm9⟩)
    (cm9 : PySem.W.codeIn K cdm9 "Program.mode" = true) (km9 : PySem.W.keepIn K (.ref fm9) = true)
    {fm10 : Addr} {odm10 anm10 : Option Addr} {slm10 : Array (Option Value)} {ocm10 kVm10 dcm10 pmm10 cdm10 ctm10 : Value}
    (am10 : PySem.W.findIn K (.ref CP) "arms" = some (some (.ref fm10)))
    (im10 : PySem.W.isFn K (.ref fm10) = true)
    (lm10 : K.lookup fm10 = some ⟨ocm10, odm10, .func (PySem.W.fnOf "arms" "Program.arms" (defArgs (cP 9)) (defBody (cP 9)) (defScope (cP 9)) .none kVm10 dcm10 pmm10 anm10 cdm10 ctm10), slm10⟩)
    (cm10 : PySem.W.codeIn K cdm10 "Program.arms" = true) (km10 : PySem.W.keepIn K (.ref fm10) = true)
    {fm11 : Addr} {odm11 anm11 : Option Addr} {slm11 : Array (Option Value)} {ocm11 kVm11 dcm11 pmm11 cdm11 ctm11 : Value}
    (am11 : PySem.W.findIn K (.ref CP) "used" = some (some (.ref fm11)))
    (im11 : PySem.W.isFn K (.ref fm11) = true)
    (lm11 : K.lookup fm11 = some ⟨ocm11, odm11, .func (PySem.W.fnOf "used" "Program.used" (defArgs (cP 11)) (defBody (cP 11)) (defScope (cP 11)) .none kVm11 dcm11 pmm11 anm11 cdm11 ctm11), slm11⟩)
    (cm11 : PySem.W.codeIn K cdm11 "Program.used" = true) (km11 : PySem.W.keepIn K (.ref fm11) = true)
    {fm12 : Addr} {odm12 anm12 : Option Addr} {slm12 : Array (Option Value)} {ocm12 kVm12 dcm12 pmm12 cdm12 ctm12 : Value}
    (am12 : PySem.W.findIn K (.ref S) "__init__" = some (some (.ref fm12)))
    (im12 : PySem.W.isFn K (.ref fm12) = true)
    (lm12 : K.lookup fm12 = some ⟨ocm12, odm12, .func (PySem.W.fnOf "__init__" "System.__init__" (defArgs (cS 0)) (defBody (cS 0)) (defScope (cS 0)) .none kVm12 dcm12 pmm12 anm12 cdm12 ctm12), slm12⟩)
    (cm12 : PySem.W.codeIn K cdm12 "System.__init__" = true) (km12 : PySem.W.keepIn K (.ref fm12) = true)
    {fm13 : Addr} {odm13 anm13 : Option Addr} {slm13 : Array (Option Value)} {ocm13 kVm13 dcm13 pmm13 cdm13 ctm13 : Value}
    (am13 : PySem.W.findIn K (.ref S) "kinds" = some (some (.ref fm13)))
    (im13 : PySem.W.isFn K (.ref fm13) = true)
    (lm13 : K.lookup fm13 = some ⟨ocm13, odm13, .func (PySem.W.fnOf "kinds" "System.kinds" (defArgs (cS 6)) (defBody (cS 6)) (defScope (cS 6)) .none kVm13 dcm13 pmm13 anm13 cdm13 ctm13), slm13⟩)
    (cm13 : PySem.W.codeIn K cdm13 "System.kinds" = true) (km13 : PySem.W.keepIn K (.ref fm13) = true)
    {fm14 : Addr} {odm14 anm14 : Option Addr} {slm14 : Array (Option Value)} {ocm14 kVm14 dcm14 pmm14 cdm14 ctm14 : Value}
    (am14 : PySem.W.findIn K (.ref S) "program" = some (some (.ref fm14)))
    (im14 : PySem.W.isFn K (.ref fm14) = true)
    (lm14 : K.lookup fm14 = some ⟨ocm14, odm14, .func (PySem.W.fnOf "program" "System.program" (defArgs (cS 7)) (defBody (cS 7)) (defScope (cS 7)) .none kVm14 dcm14 pmm14 anm14 cdm14 ctm14), slm14⟩)
    (cm14 : PySem.W.codeIn K cdm14 "System.program" = true) (km14 : PySem.W.keepIn K (.ref fm14) = true)
    {fm15 : Addr} {odm15 anm15 : Option Addr} {slm15 : Array (Option Value)} {ocm15 kVm15 dcm15 pmm15 cdm15 ctm15 : Value}
    (am15 : PySem.W.findIn K (.ref S) "_is_there" = some (some (.ref fm15)))
    (im15 : PySem.W.isFn K (.ref fm15) = true)
    (lm15 : K.lookup fm15 = some ⟨ocm15, odm15, .func (PySem.W.fnOf "_is_there" "System._is_there" (defArgs (cS 12)) (defBody (cS 12)) (defScope (cS 12)) .none kVm15 dcm15 pmm15 anm15 cdm15 ctm15), slm15⟩)
    (cm15 : PySem.W.codeIn K cdm15 "System._is_there" = true) (km15 : PySem.W.keepIn K (.ref fm15) = true)
    {fm16 : Addr} {odm16 anm16 : Option Addr} {slm16 : Array (Option Value)} {ocm16 kVm16 dcm16 pmm16 cdm16 ctm16 : Value}
    (am16 : PySem.W.findIn K (.ref S) "_recounted" = some (some (.ref fm16)))
    (im16 : PySem.W.isFn K (.ref fm16) = true)
    (lm16 : K.lookup fm16 = some ⟨ocm16, odm16, .func (PySem.W.fnOf "_recounted" "System._recounted" (defArgs (cS 13)) (defBody (cS 13)) (defScope (cS 13)) .none kVm16 dcm16 pmm16 anm16 cdm16 ctm16), slm16⟩)
    (cm16 : PySem.W.codeIn K cdm16 "System._recounted" = true) (km16 : PySem.W.keepIn K (.ref fm16) = true)
    {fm17 : Addr} {odm17 anm17 : Option Addr} {slm17 : Array (Option Value)} {ocm17 kVm17 dcm17 pmm17 cdm17 ctm17 : Value}
    (am17 : PySem.W.findIn K (.ref S) "_behind" = some (some (.ref fm17)))
    (im17 : PySem.W.isFn K (.ref fm17) = true)
    (lm17 : K.lookup fm17 = some ⟨ocm17, odm17, .func (PySem.W.fnOf "_behind" "System._behind" (defArgs (cS 14)) (defBody (cS 14)) (defScope (cS 14)) .none kVm17 dcm17 pmm17 anm17 cdm17 ctm17), slm17⟩)
    (cm17 : PySem.W.codeIn K cdm17 "System._behind" = true) (km17 : PySem.W.keepIn K (.ref fm17) = true)
    {fm18 : Addr} {odm18 anm18 : Option Addr} {slm18 : Array (Option Value)} {ocm18 kVm18 dcm18 pmm18 cdm18 ctm18 : Value}
    (am18 : PySem.W.findIn K (.ref S) "run" = some (some (.ref fm18)))
    (im18 : PySem.W.isFn K (.ref fm18) = true)
    (lm18 : K.lookup fm18 = some ⟨ocm18, odm18, .func (PySem.W.fnOf "run" "System.run" (defArgs (cS 17)) (defBody (cS 17)) (defScope (cS 17)) .none kVm18 dcm18 pmm18 anm18 cdm18 ctm18), slm18⟩)
    (cm18 : PySem.W.codeIn K cdm18 "System.run" = true) (km18 : PySem.W.keepIn K (.ref fm18) = true)
    {fm19 : Addr} {odm19 anm19 : Option Addr} {slm19 : Array (Option Value)} {ocm19 kVm19 dcm19 pmm19 cdm19 ctm19 : Value}
    (am19 : PySem.W.findIn K (.ref SP) "__init__" = some (some (.ref fm19)))
    (im19 : PySem.W.typeIn K (.ref fm19) = some (.type "function"))
    (lm19 : K.lookup fm19 = some ⟨ocm19, odm19, .func (PySem.W.fnOf "__init__" "Stopped.__init__" (defArgs s_xstop) (defBody s_xstop) (defScope s_xstop) .none kVm19 dcm19 pmm19 anm19 cdm19 ctm19), slm19⟩)
    (cm19 : PySem.W.codeIn K cdm19 "Stopped.__init__" = true) (km19 : PySem.W.keepIn K (.ref fm19) = true)
    {pp0 : Addr} {rest0 : List Value}
    {fp0 : Addr} {odp0 anp0 : Option Addr} {slp0 : Array (Option Value)} {ocp0 kVp0 dcp0 pmp0 cdp0 ctp0 : Value}
    (aF0 : PySem.W.findIn K (.ref CP) "size" = some (some (.ref pp0))) (gF0 : PySem.W.specialIn K (.ref pp0) "__get__" = some (some (.builtin "property.__get__"))) (tF0 : PySem.W.takesIn K (.ref pp0) = some true) (rF0 : PySem.W.recIn K pp0 "property" = some (.ref fp0 :: rest0))
    (lp0 : K.lookup fp0 = some ⟨ocp0, odp0, .func (PySem.W.fnOf "size" "Program.size" (defArgs (cP 3)) (defBody (cP 3)) (defScope (cP 3)) .none kVp0 dcp0 pmp0 anp0 cdp0 ctp0), slp0⟩)
    (cp0 : PySem.W.codeIn K cdp0 "Program.size" = true) (kp0 : PySem.W.keepIn K (.ref fp0) = true)
    {pp1 : Addr} {rest1 : List Value}
    {fp1 : Addr} {odp1 anp1 : Option Addr} {slp1 : Array (Option Value)} {ocp1 kVp1 dcp1 pmp1 cdp1 ctp1 : Value}
    (aF1 : PySem.W.findIn K (.ref C) "first" = some (some (.ref pp1))) (gF1 : PySem.W.specialIn K (.ref pp1) "__get__" = some (some (.builtin "property.__get__"))) (tF1 : PySem.W.takesIn K (.ref pp1) = some true) (rF1 : PySem.W.recIn K pp1 "property" = some (.ref fp1 :: rest1))
    (lp1 : K.lookup fp1 = some ⟨ocp1, odp1, .func (PySem.W.fnOf "first" "Lanes.first" (defArgs (cL 6)) (defBody (cL 6)) (defScope (cL 6)) .none kVp1 dcp1 pmp1 anp1 cdp1 ctp1), slp1⟩)
    (cp1 : PySem.W.codeIn K cdp1 "Lanes.first" = true) (kp1 : PySem.W.keepIn K (.ref fp1) = true)
    {pp2 : Addr} {rest2 : List Value}
    {fp2 : Addr} {odp2 anp2 : Option Addr} {slp2 : Array (Option Value)} {ocp2 kVp2 dcp2 pmp2 cdp2 ctp2 : Value}
    (aF2 : PySem.W.findIn K (.ref S) "first" = some (some (.ref pp2))) (gF2 : PySem.W.specialIn K (.ref pp2) "__get__" = some (some (.builtin "property.__get__"))) (tF2 : PySem.W.takesIn K (.ref pp2) = some true) (rF2 : PySem.W.recIn K pp2 "property" = some (.ref fp2 :: rest2))
    (lp2 : K.lookup fp2 = some ⟨ocp2, odp2, .func (PySem.W.fnOf "first" "System.first" (defArgs (cS 4)) (defBody (cS 4)) (defScope (cS 4)) .none kVp2 dcp2 pmp2 anp2 cdp2 ctp2), slp2⟩)
    (cp2 : PySem.W.codeIn K cdp2 "System.first" = true) (kp2 : PySem.W.keepIn K (.ref fp2) = true)
    {pp3 : Addr} {rest3 : List Value}
    {fp3 : Addr} {odp3 anp3 : Option Addr} {slp3 : Array (Option Value)} {ocp3 kVp3 dcp3 pmp3 cdp3 ctp3 : Value}
    (aF3 : PySem.W.findIn K (.ref S) "seats" = some (some (.ref pp3))) (gF3 : PySem.W.specialIn K (.ref pp3) "__get__" = some (some (.builtin "property.__get__"))) (tF3 : PySem.W.takesIn K (.ref pp3) = some true) (rF3 : PySem.W.recIn K pp3 "property" = some (.ref fp3 :: rest3))
    (lp3 : K.lookup fp3 = some ⟨ocp3, odp3, .func (PySem.W.fnOf "seats" "System.seats" (defArgs (cS 5)) (defBody (cS 5)) (defScope (cS 5)) .none kVp3 dcp3 pmp3 anp3 cdp3 ctp3), slp3⟩)
    (cp3 : PySem.W.codeIn K cdp3 "System.seats" = true) (kp3 : PySem.W.keepIn K (.ref fp3) = true)
    (pgC : PySem.W.plainGet K C Str.empty = true) (hdC : PySem.W.hasDictIn K C = true) (poC : PySem.W.plainOver K C = true) (saC : PySem.W.findIn K (.ref C) "__setattr__" = some (some (.builtin "object.__setattr__"))) (mkC : PySem.W.makesIn K C = true) (kcC : PySem.W.keepIn K (.ref C) = true)
    (nfC_names : PySem.W.findIn K (.ref C) "_names" = some none)
    (nfC_bounds : PySem.W.findIn K (.ref C) "_bounds" = some none)
    (nfC_spots : PySem.W.findIn K (.ref C) "_spots" = some none)
    (iCaC : PySem.W.findIn K (.ref C) "__class__" = some (some (.builtin "object.__class__"))) (iCmC : PySem.W.mroIn K C (.type "object") = some true) (iCcC : PySem.W.kitOne K (.ref C) (.ref C) = some true)
    (pgCP : PySem.W.plainGet K CP Str.empty = true) (hdCP : PySem.W.hasDictIn K CP = true) (poCP : PySem.W.plainOver K CP = true) (saCP : PySem.W.findIn K (.ref CP) "__setattr__" = some (some (.builtin "object.__setattr__"))) (mkCP : PySem.W.makesIn K CP = true) (kcCP : PySem.W.keepIn K (.ref CP) = true)
    (nfCP_places : PySem.W.findIn K (.ref CP) "_places" = some none)
    (nfCP_used : PySem.W.findIn K (.ref CP) "_used" = some none)
    (iCaCP : PySem.W.findIn K (.ref CP) "__class__" = some (some (.builtin "object.__class__"))) (iCmCP : PySem.W.mroIn K CP (.type "object") = some true) (iCcCP : PySem.W.kitOne K (.ref CP) (.ref CP) = some true)
    (pgS : PySem.W.plainGet K S Str.empty = true) (hdS : PySem.W.hasDictIn K S = true) (poS : PySem.W.plainOver K S = true) (saS : PySem.W.findIn K (.ref S) "__setattr__" = some (some (.builtin "object.__setattr__"))) (mkS : PySem.W.makesIn K S = true) (kcS : PySem.W.keepIn K (.ref S) = true)
    (nfS_lanes : PySem.W.findIn K (.ref S) "_lanes" = some none)
    (nfS_server : PySem.W.findIn K (.ref S) "_server" = some none)
    (nfS_kinds : PySem.W.findIn K (.ref S) "_kinds" = some none)
    (nfS_seats : PySem.W.findIn K (.ref S) "_seats" = some none)
    (nfS_spots : PySem.W.findIn K (.ref S) "_spots" = some none)
    (iCaS : PySem.W.findIn K (.ref S) "__class__" = some (some (.builtin "object.__class__"))) (iCmS : PySem.W.mroIn K S (.type "object") = some true) (iCcS : PySem.W.kitOne K (.ref S) (.ref S) = some true)
    (ocg : PySem.W.specialIn K (.builtin "object.__class__") "__get__" = some (some (.builtin "getset_descriptor.__get__"))) (oct : PySem.W.takesIn K (.builtin "object.__class__") = some true)
    {nmSP qSP : Str} {NSP : Addr} {bsSP bmSP : List Value} {snSP : List Str} {subSP : List Value} {abSP : Bool} {colSP : Option Bool} {ddSP : Option Addr} {m0SP m1SP m2SP m3SP m5SP : Option Value}
    (xSP : K.lookup SP = some (excClassObj nmSP qSP SP NSP bsSP bmSP true snSP subSP abSP colSP ddSP m0SP m1SP m2SP m3SP m5SP "ValueError.__new__")) (vSP : PySem.HandSPX.refsVE bmSP = true)
    (saSP : PySem.W.findIn K (.ref SP) "__setattr__" = some (some (.builtin "object.__setattr__"))) (exSP : PySem.W.subIn K (.ref SP) (.type "BaseException") = some true) (tySP : PySem.W.typeIn K (.ref SP) = some (.type "type")) (kSP : PySem.W.keepIn K (.ref SP) = true)
    (gaSP : PySem.W.findIn K (.ref SP) "__getattribute__" = some (some (.builtin "BaseException.__getattribute__"))) (ggSP : PySem.W.findIn K (.ref SP) "__getattr__" = some none) (hdSP : PySem.W.hasDictIn K SP = true)
    (clSP : PySem.W.findIn K (.ref SP) "__class__" = some (some (.builtin "object.__class__"))) (moSP : PySem.W.mroIn K SP (.type "object") = some true) (sBSP : PySem.W.subIn K (.ref SP) (.ref B) = some true)
    (nfSPindex : PySem.W.findIn K (.ref SP) "index" = some none)
    (exB : PySem.W.subIn K (.ref B) (.type "BaseException") = some true) (hdB : PySem.W.hasDictIn K B = true) (tyB : PySem.W.typeIn K (.ref B) = some (.type "type"))
    (kitSP : PySem.W.kitOne K (.ref SP) (.ref SP) = some true)
    {tl0 tn0 : Tok} (gLet : PySem.W.nsIn K mainGlobals "LETTERS" = some (some (.str abc tl0))) (gLong : PySem.W.nsIn K mainGlobals "LONGEST" = some (some (.int 8 tn0)))
    {aW aM : Addr} (gW : PySem.W.nsIn K mainGlobals "WORDS" = some (some (.ref aW))) (gM : PySem.W.nsIn K mainGlobals "MODES" = some (some (.ref aM)))
    {odW : Option Addr} {t1 t2 t3 t4 : Tok} {nW : Nat} {slW : Array (Option Value)} (lW : K.lookup aW = some ⟨.type "tuple", odW, .seq #[.str "close" t1, .str "ended" t2, .str "send" t3, .str "take" t4] nW, slW⟩)
    {odM : Option Addr} {t5 t6 : Tok} {nM : Nat} {slM : Array (Option Value)} (lM : K.lookup aM = some ⟨.type "tuple", odM, .seq #[.str "any" t5, .str "first" t6] nM, slM⟩)
    (z_len : PySem.W.nsIn K mainGlobals "len" = some none)
    (z_int : PySem.W.nsIn K mainGlobals "int" = some none)
    (z_abs : PySem.W.nsIn K mainGlobals "abs" = some none)
    (z_range : PySem.W.nsIn K mainGlobals "range" = some none)
    (z_repr : PySem.W.nsIn K mainGlobals "repr" = some none)
    (z_isinstance : PySem.W.nsIn K mainGlobals "isinstance" = some none)
    (z_all : PySem.W.nsIn K mainGlobals "all" = some none)
    (z_tuple : PySem.W.nsIn K mainGlobals "tuple" = some none)
    (z_list : PySem.W.nsIn K mainGlobals "list" = some none)
    (z_str : PySem.W.nsIn K mainGlobals "str" = some none)
    (z_bool : PySem.W.nsIn K mainGlobals "bool" = some none)
    (z_dict : PySem.W.nsIn K mainGlobals "dict" = some none)
    (z_sorted : PySem.W.nsIn K mainGlobals "sorted" = some none)
    (z_enumerate : PySem.W.nsIn K mainGlobals "enumerate" = some none)
    (z_zip : PySem.W.nsIn K mainGlobals "zip" = some none)
    (z_max : PySem.W.nsIn K mainGlobals "max" = some none)
    (z_sum : PySem.W.nsIn K mainGlobals "sum" = some none)
    : ∃ fd : FuncData, (∀ (s : Shared) (v : Value), BindsTo s fd ⟨[v], []⟩ [("_law_script", v)]) ∧ ∀ base : Heap, K.In base → base.Ns mainGlobals mg → FnG l.prog w K mg base 12 fa fd ["_law_script"] (spLaw K) := by
  have e := hfa.symm.trans (PySem.W.mg_of X G a47)
  cases e
  have F0 := fun_mk (st := s_is_integer) l0 c0 k0
  have b0 := F0.binds (ps := ["thing"]) fun _ _ _ _ _ _ us hl => match us, hl with | [_], _ => rfl
  have g0 := PySem.W.mg_of X G a0
  have F1 := fun_mk (st := s_is_number) l1 c1 k1
  have b1 := F1.binds (ps := ["thing"]) fun _ _ _ _ _ _ us hl => match us, hl with | [_], _ => rfl
  have g1 := PySem.W.mg_of X G a1
  have F2 := fun_mk (st := s_is_name) l2 c2 k2
  have b2 := F2.binds (ps := ["thing"]) fun _ _ _ _ _ _ us hl => match us, hl with | [_], _ => rfl
  have g2 := PySem.W.mg_of X G a2
  have F3 := fun_mk (st := s_is_word) l3 c3 k3
  have b3 := F3.binds (ps := ["thing"]) fun _ _ _ _ _ _ us hl => match us, hl with | [_], _ => rfl
  have g3 := PySem.W.mg_of X G a3
  have F4 := fun_mk (st := s_mode) l4 c4 k4
  have b4 := F4.binds (ps := ["thing"]) fun _ _ _ _ _ _ us hl => match us, hl with | [_], _ => rfl
  have g4 := PySem.W.mg_of X G a4
  have F5 := fun_mk (st := s_is_arm) l5 c5 k5
  have b5 := F5.binds (ps := ["thing"]) fun _ _ _ _ _ _ us hl => match us, hl with | [_], _ => rfl
  have g5 := PySem.W.mg_of X G a5
  have F6 := fun_mk (st := s_row) l6 c6 k6
  have b6 := F6.binds (ps := ["thing", "is_part"]) fun _ _ _ _ _ _ us hl => match us, hl with | [_, _], _ => rfl
  have g6 := PySem.W.mg_of X G a6
  have F7 := fun_mk (st := s_stp) l7 c7 k7
  have b7 := F7.binds (ps := ["thing"]) fun _ _ _ _ _ _ us hl => match us, hl with | [_], _ => rfl
  have g7 := PySem.W.mg_of X G a7
  have F8 := fun_mk (st := s_state_behind) l8 c8 k8
  have b8 := F8.binds (ps := ["word", "state", "bound"]) fun _ _ _ _ _ _ us hl => match us, hl with | [_, _, _], _ => rfl
  have g8 := PySem.W.mg_of X G a8
  have F9 := fun_mk (st := s_replaced) l9 c9 k9
  have b9 := F9.binds (ps := ["row", "index", "item"]) fun _ _ _ _ _ _ us hl => match us, hl with | [_, _, _], _ => rfl
  have g9 := PySem.W.mg_of X G a9
  have F10 := fun_mk (st := s_is_bound) l10 c10 k10
  have b10 := F10.binds (ps := ["thing"]) fun _ _ _ _ _ _ us hl => match us, hl with | [_], _ => rfl
  have g10 := PySem.W.mg_of X G a10
  have F11 := fun_mk (st := s_is_bounds) l11 c11 k11
  have b11 := F11.binds (ps := ["thing"]) fun _ _ _ _ _ _ us hl => match us, hl with | [_], _ => rfl
  have g11 := PySem.W.mg_of X G a11
  have F12 := fun_mk (st := s_place) l12 c12 k12
  have b12 := F12.binds (ps := ["thing"]) fun _ _ _ _ _ _ us hl => match us, hl with | [_], _ => rfl
  have g12 := PySem.W.mg_of X G a12
  have F13 := fun_mk (st := s_else) l13 c13 k13
  have b13 := F13.binds (ps := ["arm"]) fun _ _ _ _ _ _ us hl => match us, hl with | [_], _ => rfl
  have g13 := PySem.W.mg_of X G a13
  have F14 := fun_mk (st := s_ckl) l14 c14 k14
  have b14 := F14.binds (ps := ["lanes", "programs"]) fun _ _ _ _ _ _ us hl => match us, hl with | [_, _], _ => rfl
  have g14 := PySem.W.mg_of X G a14
  have F15 := fun_mk (st := s_oa) l15 c15 k15
  have b15 := F15.binds (ps := ["lanes", "arms", "content"]) fun _ _ _ _ _ _ us hl => match us, hl with | [_, _, _], _ => rfl
  have g15 := PySem.W.mg_of X G a15
  have F16 := fun_mk (st := s_al) l16 c16 k16
  have b16 := F16.binds (ps := ["lanes", "mode", "arms", "content"]) fun _ _ _ _ _ _ us hl => match us, hl with | [_, _, _, _], _ => rfl
  have g16 := PySem.W.mg_of X G a16
  have F17 := fun_mk (st := s_at) l17 c17 k17
  have b17 := F17.binds (ps := ["lanes", "program", "place", "content"]) fun _ _ _ _ _ _ us hl => match us, hl with | [_, _, _, _], _ => rfl
  have g17 := PySem.W.mg_of X G a17
  have F18 := fun_mk (st := s_ba) l18 c18 k18
  have b18 := F18.binds (ps := ["lanes", "arm", "content"]) fun _ _ _ _ _ _ us hl => match us, hl with | [_, _, _], _ => rfl
  have g18 := PySem.W.mg_of X G a18
  have F19 := fun_mk (st := s_kinds) l19 c19 k19
  have b19 := F19.binds (ps := ["thing"]) fun _ _ _ _ _ _ us hl => match us, hl with | [_], _ => rfl
  have g19 := PySem.W.mg_of X G a19
  have F20 := fun_mk (st := s_kinds_of) l20 c20 k20
  have b20 := F20.binds (ps := ["system"]) fun _ _ _ _ _ _ us hl => match us, hl with | [_], _ => rfl
  have g20 := PySem.W.mg_of X G a20
  have F21 := fun_mk (st := s_needed) l21 c21 k21
  have b21 := F21.binds (ps := ["system", "steps"]) fun _ _ _ _ _ _ us hl => match us, hl with | [_, _], _ => rfl
  have g21 := PySem.W.mg_of X G a21
  have F22 := fun_mk (st := s__law_bag) l22 c22 k22
  have b22 := F22.binds (ps := ["_law_script"]) fun _ _ _ _ _ _ us hl => match us, hl with | [_], _ => rfl
  have g22 := PySem.W.mg_of X G a22
  have F23 := fun_mk (st := s__law_take) l23 c23 k23
  have b23 := F23.binds (ps := ["_law_bag_here", "_law_many"]) fun _ _ _ _ _ _ us hl => match us, hl with | [_, _], _ => rfl
  have g23 := PySem.W.mg_of X G a23
  have F24 := fun_mk (st := s__law_alike) l24 c24 k24
  have b24 := F24.binds (ps := ["_law_found", "_law_due_here"]) fun _ _ _ _ _ _ us hl => match us, hl with | [_, _], _ => rfl
  have g24 := PySem.W.mg_of X G a24
  have F25 := fun_mk (st := s__law_names) l25 c25 k25
  have b25 := F25.binds (ps := ["_law_bag_here", "_law_many"]) fun _ _ _ _ _ _ us hl => match us, hl with | [_, _], _ => rfl
  have g25 := PySem.W.mg_of X G a25
  have F26 := fun_mk (st := s_bounds) l26 c26 k26
  have b26 := F26.binds (ps := ["_law_bag_here", "_law_names_here", "_law_greatest"]) fun _ _ _ _ _ _ us hl => match us, hl with | [_, _, _], _ => rfl
  have g26 := PySem.W.mg_of X G a26
  have F27 := fun_mk (st := s__law_arm) l27 c27 k27
  have b27 := F27.binds (ps := ["_law_bag_here", "_law_names_here", "_law_places"]) fun _ _ _ _ _ _ us hl => match us, hl with | [_, _, _], _ => rfl
  have g27 := PySem.W.mg_of X G a27
  have F28 := fun_mk (st := s__law_program) l28 c28 k28
  have b28 := F28.binds (ps := ["_law_bag_here", "_law_names_here", "_law_places"]) fun _ _ _ _ _ _ us hl => match us, hl with | [_, _, _], _ => rfl
  have g28 := PySem.W.mg_of X G a28
  have F29 := fun_mk (st := s__law_model) l29 c29 k29
  have b29 := F29.binds (ps := ["_law_bag_here", "_law_many", "_law_greatest", "_law_kinds", "_law_places"]) fun _ _ _ _ _ _ us hl => match us, hl with | [_, _, _, _, _], _ => rfl
  have g29 := PySem.W.mg_of X G a29
  have F30 := fun_mk (st := s__law_made) l30 c30 k30
  have b30 := F30.binds (ps := ["_law_model_here"]) fun _ _ _ _ _ _ us hl => match us, hl with | [_], _ => rfl
  have g30 := PySem.W.mg_of X G a30
  have F31 := fun_mk (st := s_opens) l31 c31 k31
  have b31 := F31.binds (ps := ["_law_bounds_here", "_law_content", "_law_arm_here"]) fun _ _ _ _ _ _ us hl => match us, hl with | [_, _, _], _ => rfl
  have g31 := PySem.W.mg_of X G a31
  have F32 := fun_mk (st := s_left) l32 c32 k32
  have b32 := F32.binds (ps := ["_law_bounds_here", "_law_content", "_law_arm_here"]) fun _ _ _ _ _ _ us hl => match us, hl with | [_, _, _], _ => rfl
  have g32 := PySem.W.mg_of X G a32
  have F33 := fun_mk (st := s__law_choices) l33 c33 k33
  have b33 := F33.binds (ps := ["_law_bounds_here", "_law_row", "_law_content"]) fun _ _ _ _ _ _ us hl => match us, hl with | [_, _, _], _ => rfl
  have g33 := PySem.W.mg_of X G a33
  have F34 := fun_mk (st := s__law_seats) l34 c34 k34
  have b34 := F34.binds (ps := ["_law_model_here"]) fun _ _ _ _ _ _ us hl => match us, hl with | [_], _ => rfl
  have g34 := PySem.W.mg_of X G a34
  have F35 := fun_mk (st := s__law_first) l35 c35 k35
  have b35 := F35.binds (ps := ["_law_model_here"]) fun _ _ _ _ _ _ us hl => match us, hl with | [_], _ => rfl
  have g35 := PySem.W.mg_of X G a35
  have F36 := fun_mk (st := s__law_rows) l36 c36 k36
  have b36 := F36.binds (ps := ["_law_model_here", "_law_who"]) fun _ _ _ _ _ _ us hl => match us, hl with | [_, _], _ => rfl
  have g36 := PySem.W.mg_of X G a36
  have F37 := fun_mk (st := s__law_steps) l37 c37 k37
  have b37 := F37.binds (ps := ["_law_model_here", "_law_standing"]) fun _ _ _ _ _ _ us hl => match us, hl with | [_, _], _ => rfl
  have g37 := PySem.W.mg_of X G a37
  have F38 := fun_mk (st := s__law_after) l38 c38 k38
  have b38 := F38.binds (ps := ["_law_model_here", "_law_standing", "_law_step"]) fun _ _ _ _ _ _ us hl => match us, hl with | [_, _, _], _ => rfl
  have g38 := PySem.W.mg_of X G a38
  have F39 := fun_mk (st := s__law_run) l39 c39 k39
  have b39 := F39.binds (ps := ["_law_bag_here", "_law_model_here", "_law_many"]) fun _ _ _ _ _ _ us hl => match us, hl with | [_, _, _], _ => rfl
  have g39 := PySem.W.mg_of X G a39
  have F40 := fun_mk (st := s__law_world) l40 c40 k40
  have b40 := F40.binds (ps := ["_law_bag_here"]) fun _ _ _ _ _ _ us hl => match us, hl with | [_], _ => rfl
  have g40 := PySem.W.mg_of X G a40
  have F41 := fun_mk (st := s__law_ends) l41 c41 k41
  have b41 := F41.binds (ps := ["_law_model_here", "_law_steps_here"]) fun _ _ _ _ _ _ us hl => match us, hl with | [_, _], _ => rfl
  have g41 := PySem.W.mg_of X G a41
  have F42 := fun_mk (st := s__law_out) l42 c42 k42
  have b42 := F42.binds (ps := ["_law_model_here", "_law_standing", "_law_step"]) fun _ _ _ _ _ _ us hl => match us, hl with | [_, _, _], _ => rfl
  have g42 := PySem.W.mg_of X G a42
  have F43 := fun_mk (st := s__law_needed) l43 c43 k43
  have b43 := F43.binds (ps := ["_law_model_here", "_law_steps_here"]) fun _ _ _ _ _ _ us hl => match us, hl with | [_, _], _ => rfl
  have g43 := PySem.W.mg_of X G a43
  have F44 := fun_mk (st := s__law_spoilt) l44 c44 k44
  have b44 := F44.binds (ps := ["_law_bag_here", "_law_model_here", "_law_steps_here"]) fun _ _ _ _ _ _ us hl => match us, hl with | [_, _, _], _ => rfl
  have g44 := PySem.W.mg_of X G a44
  have F45 := fun_mk (st := s__law_due) l45 c45 k45
  have b45 := F45.binds (ps := ["_law_model_here", "_law_steps_here"]) fun _ _ _ _ _ _ us hl => match us, hl with | [_, _], _ => rfl
  have g45 := PySem.W.mg_of X G a45
  have F46 := fun_mk (st := s__law_heard) l46 c46 k46
  have b46 := F46.binds (ps := ["_law_system", "_law_steps_here"]) fun _ _ _ _ _ _ us hl => match us, hl with | [_, _], _ => rfl
  have g46 := PySem.W.mg_of X G a46
  have F47 := fun_mk (st := s_law) l47 c47 k47
  have Fm0 := fun_mk (st := (cL 0)) lm0 cm0 km0
  have bm0 := Fm0.binds (ps := ["self", "bounds"]) fun _ _ _ _ _ _ us hl => match us, hl with | [_, _], _ => rfl
  have Fm1 := fun_mk (st := (cL 4)) lm1 cm1 km1
  have bm1 := Fm1.binds (ps := ["self", "thing"]) fun _ _ _ _ _ _ us hl => match us, hl with | [_, _], _ => rfl
  have Fm2 := fun_mk (st := (cL 7)) lm2 cm2 km2
  have bm2 := Fm2.binds (ps := ["self", "lane"]) fun _ _ _ _ _ _ us hl => match us, hl with | [_, _], _ => rfl
  have Fm3 := fun_mk (st := (cL 8)) lm3 cm3 km3
  have bm3 := Fm3.binds (ps := ["self", "content", "word", "spot"]) fun _ _ _ _ _ _ us hl => match us, hl with | [_, _, _, _], _ => rfl
  have Fm4 := fun_mk (st := (cL 13)) lm4 cm4 km4
  have bm4 := Fm4.binds (ps := ["self", "content", "word", "lane"]) fun _ _ _ _ _ _ us hl => match us, hl with | [_, _, _, _], _ => rfl
  have Fm5 := fun_mk (st := (cL 14)) lm5 cm5 km5
  have bm5 := Fm5.binds (ps := ["self", "content", "word", "lane"]) fun _ _ _ _ _ _ us hl => match us, hl with | [_, _, _, _], _ => rfl
  have Fm6 := fun_mk (st := (cP 0)) lm6 cm6 km6
  have bm6 := Fm6.binds (ps := ["self", "places"]) fun _ _ _ _ _ _ us hl => match us, hl with | [_, _], _ => rfl
  have Fm7 := fun_mk (st := (cP 1)) lm7 cm7 km7
  have bm7 := Fm7.binds (ps := ["self"]) fun _ _ _ _ _ _ us hl => match us, hl with | [_], _ => rfl
  have Fm8 := fun_mk (st := (cP 4)) lm8 cm8 km8
  have bm8 := Fm8.binds (ps := ["self", "place"]) fun _ _ _ _ _ _ us hl => match us, hl with | [_, _], _ => rfl
  have Fm9 := fun_mk (st := (cP 8)) lm9 cm9 km9
  have bm9 := Fm9.binds (ps := ["self", "place"]) fun _ _ _ _ _ _ us hl => match us, hl with | [_, _], _ => rfl
  have Fm10 := fun_mk (st := (cP 9)) lm10 cm10 km10
  have bm10 := Fm10.binds (ps := ["self", "place"]) fun _ _ _ _ _ _ us hl => match us, hl with | [_, _], _ => rfl
  have Fm11 := fun_mk (st := (cP 11)) lm11 cm11 km11
  have bm11 := Fm11.binds (ps := ["self"]) fun _ _ _ _ _ _ us hl => match us, hl with | [_], _ => rfl
  have Fm12 := fun_mk (st := (cS 0)) lm12 cm12 km12
  have bm12 := Fm12.binds (ps := ["self", "lanes", "server", "kinds"]) fun _ _ _ _ _ _ us hl => match us, hl with | [_, _, _, _], _ => rfl
  have Fm13 := fun_mk (st := (cS 6)) lm13 cm13 km13
  have bm13 := Fm13.binds (ps := ["self"]) fun _ _ _ _ _ _ us hl => match us, hl with | [_], _ => rfl
  have Fm14 := fun_mk (st := (cS 7)) lm14 cm14 km14
  have bm14 := Fm14.binds (ps := ["self", "who"]) fun _ _ _ _ _ _ us hl => match us, hl with | [_, _], _ => rfl
  have Fm15 := fun_mk (st := (cS 12)) lm15 cm15 km15
  have bm15 := Fm15.binds (ps := ["self", "standing", "who", "place"]) fun _ _ _ _ _ _ us hl => match us, hl with | [_, _, _, _], _ => rfl
  have Fm16 := fun_mk (st := (cS 13)) lm16 cm16 km16
  have bm16 := Fm16.binds (ps := ["self", "counts", "kind", "place", "change"]) fun _ _ _ _ _ _ us hl => match us, hl with | [_, _, _, _, _], _ => rfl
  have Fm17 := fun_mk (st := (cS 14)) lm17 cm17 km17
  have bm17 := Fm17.binds (ps := ["self", "standing", "step"]) fun _ _ _ _ _ _ us hl => match us, hl with | [_, _, _], _ => rfl
  have Fm18 := fun_mk (st := (cS 17)) lm18 cm18 km18
  have bm18 := Fm18.binds (ps := ["self", "standing", "steps"]) fun _ _ _ _ _ _ us hl => match us, hl with | [_, _, _], _ => rfl
  have Fm19 := fun_mk (st := s_xstop) lm19 cm19 km19
  have bm19 := Fm19.binds (ps := ["self", "index"]) fun _ _ _ _ _ _ us hl => match us, hl with | [_, _], _ => rfl
  have Fp0 := fun_mk (st := (cP 3)) lp0 cp0 kp0
  have bp0 := Fp0.binds (ps := ["self"]) fun _ _ _ _ _ _ us hl => match us, hl with | [_], _ => rfl
  have Fp1 := fun_mk (st := (cL 6)) lp1 cp1 kp1
  have bp1 := Fp1.binds (ps := ["self"]) fun _ _ _ _ _ _ us hl => match us, hl with | [_], _ => rfl
  have Fp2 := fun_mk (st := (cS 4)) lp2 cp2 kp2
  have bp2 := Fp2.binds (ps := ["self"]) fun _ _ _ _ _ _ us hl => match us, hl with | [_], _ => rfl
  have Fp3 := fun_mk (st := (cS 5)) lp3 cp3 kp3
  have bp3 := Fp3.binds (ps := ["self"]) fun _ _ _ _ _ _ us hl => match us, hl with | [_], _ => rfl
  have T : BT mg := ⟨PySem.W.mg_none_of X G z_len, PySem.W.mg_none_of X G z_int, PySem.W.mg_none_of X G z_abs, PySem.W.mg_none_of X G z_range, PySem.W.mg_none_of X G z_repr, PySem.W.mg_none_of X G z_isinstance, PySem.W.mg_none_of X G z_all, PySem.W.mg_none_of X G z_tuple, PySem.W.mg_none_of X G z_list, PySem.W.mg_none_of X G z_str, PySem.W.mg_none_of X G z_bool, PySem.W.mg_none_of X G z_dict, PySem.W.mg_none_of X G z_sorted⟩
  have hW : ∀ H, SqT K H aW wordsV := fun H => Or.inr ⟨_, _, _, lW, rfl, rfl, by show 4 ≤ sizeLine; decide, .cons ⟨_, rfl⟩ (.cons ⟨_, rfl⟩ (.cons ⟨_, rfl⟩ (.cons ⟨_, rfl⟩ .nil)))⟩
  have hM : ∀ H, SqT K H aM modesV := fun H => Or.inr ⟨_, _, _, lM, rfl, rfl, by show 2 ≤ sizeLine; decide, .cons ⟨_, rfl⟩ (.cons ⟨_, rfl⟩ .nil)⟩
  refine ⟨PySem.W.fnOf "law" "law" (defArgs s_law) (defBody s_law) (defScope s_law) .none kV47 dc47 pm47 an47 cd47 ct47, fun s v => .of_eq rfl, fun base _ _ => ?_⟩
  have LL : LT K mg C := ⟨⟨pgC, hdC, poC, saC⟩, nfC_names, nfC_bounds, nfC_spots, PySem.W.mg_of X G aGC, PySem.W.mg_none_of X G z_enumerate, PySem.W.mg_none_of X G z_zip⟩
  have LP : PT K mg CP := ⟨⟨pgCP, hdCP, poCP, saCP⟩, nfCP_places, nfCP_used, PySem.W.mg_of X G aGCP, PySem.W.mg_none_of X G z_enumerate⟩
  have SL : ST K mg S := ⟨⟨pgS, hdS, poS, saS⟩, nfS_lanes, nfS_server, nfS_kinds, nfS_seats, nfS_spots, PySem.W.mg_of X G aGS⟩
  have TP : XT K mg "Stopped" "index" SP := ⟨PySem.W.mg_of X G aGSP, ⟨⟨_, _, _, _, _, _, _, _, _, _, _, _, _, _, _, xSP, vSP⟩, saSP, exSP, tySP, kSP⟩, ⟨gaSP, ggSP, exSP, hdSP⟩, nfSPindex⟩
  have EP : E1 K mg SP := ⟨⟨B, PySem.W.mg_of X G aGB, PySem.W.exm_ref exB hdB tyB sBSP⟩, ⟨gaSP, ggSP, exSP, hdSP, clSP, ocg, oct, moSP⟩, kitSP⟩
  have IX : XI l.prog w K mg base "index" SP := ⟨_, _, ok_xstop Fm19 TP, am19, im19, bm19⟩
  have IL : IsC K C := ⟨iCaC, ocg, oct, iCmC, iCcC⟩
  have IP : IsC K CP := ⟨iCaCP, ocg, oct, iCmCP, iCcCP⟩
  have C1 : Ca l.prog w K mg base 1 "is_integer" ["thing"] (spPred Any isIntD) := ⟨_, _, ok_is_integer F0 T, g0, k0, b0⟩
  have C2 : Ca l.prog w K mg base 2 "is_number" ["thing"] (spPred Any isNumD) := ⟨_, _, ok_is_number F1 C1, g1, k1, b1⟩
  have C3 : Ca l.prog w K mg base 1 "is_name" ["thing"] (spPred Ok1 isNameD) := ⟨_, _, ok_is_name F2 T (PySem.W.mg_of X G gLet) (PySem.W.mg_of X G gLong), g2, k2, b2⟩
  have CW : Ca l.prog w K mg base 1 "is_word" ["thing"] (spPred Any isWordD) := ⟨_, _, ok_is_word F3 T (PySem.W.mg_of X G gW) hW, g3, k3, b3⟩
  have CMd : Ca l.prog w K mg base 1 "is_mode" ["thing"] (spGood fun d => d = .str "first" ∨ d = .str "any") := ⟨_, _, ok_mode F4 T (PySem.W.mg_of X G gM) hM, g4, k4, b4⟩
  have okA := ok_is_arm (P := l.prog) (w := w) (base := base) F5 T C2 C3 CW
  have okA2 : FnOk l.prog w K mg base CX0 3 f5 _ ["thing"] (spGood GA) := okA.imp fun vs H Q E h => good_arm h
  have CRA : Ca l.prog w K mg base 4 "is_row_of" ["thing", "is_part"] (spRow GA f5) := ⟨_, _, ok_row F6 T okA2 k5 b5, g6, k6, b6⟩
  have okP := ok_place (P := l.prog) (w := w) (base := base) F12 T g5 CMd CRA
  have CRP : Ca l.prog w K mg base 6 "is_row_of" ["thing", "is_part"] (spRow GP f12) := ⟨_, _, ok_row F6 T okP k12 b12, g6, k6, b6⟩
  have CE : Ca l.prog w K mg base 1 "is_else" ["arm"] (spElse) := ⟨_, _, ok_else F13 T, g13, k13, b13⟩
  have CSp : Ca l.prog w K mg base 2 "is_step" ["thing"] (spStp) := ⟨_, _, ok_stp F7 T C1, g7, k7, b7⟩
  have C7 : Ca l.prog w K mg base 1 "state_behind" ["word", "state", "bound"] (spBehind) := ⟨_, _, ok_state_behind F8, g8, k8, b8⟩
  have C8 : Ca l.prog w K mg base 1 "replaced" ["row", "index", "item"] (spReplaced) := ⟨_, _, ok_replaced F9, g9, k9, b9⟩
  have C4 : Ca l.prog w K mg base 2 "is_bound" ["thing"] (spPred Any isBoundD) := ⟨_, _, ok_is_bound F10 C1, g10, k10, b10⟩
  have C5 : Ca l.prog w K mg base 3 "is_bounds" ["thing"] (spIsBounds) := ⟨_, _, ok_is_bounds F11 T C3 C4, g11, k11, b11⟩
  have ML : MkL l.prog w K mg base C := ⟨_, _, ok_init Fm0 T LL C5, ⟨mkC, am0, im0, kcC⟩, bm0⟩
  have MH : Cm l.prog w K mg base C 2 "__contains__" ["self", "thing"] (spHas C) := ⟨_, _, ok_has Fm1 T LL, ⟨am1, im1, km1⟩, bm1⟩
  have MSp : Cm l.prog w K mg base C 3 "_spot" ["self", "lane"] (spSpot C) := ⟨_, _, ok_spot Fm2 LL MH, ⟨am2, im2, km2⟩, bm2⟩
  have MB : Cm l.prog w K mg base C 2 "_behind" ["self", "content", "word", "spot"] (spBeh C) := ⟨_, _, ok_beh Fm3 LL C7, ⟨am3, im3, km3⟩, bm3⟩
  have MO : Cm l.prog w K mg base C 4 "is_open" ["self", "content", "word", "lane"] (spOpen C) := ⟨_, _, ok_open Fm4 LL MSp MB, ⟨am4, im4, km4⟩, bm4⟩
  have MD : Cm l.prog w K mg base C 4 "done" ["self", "content", "word", "lane"] (spDone C) := ⟨_, _, ok_done Fm5 LL MSp MB C8, ⟨am5, im5, km5⟩, bm5⟩
  have MC : ChM l.prog w K mg base CP := ⟨_, _, ok_check Fm7 T LP CE, ⟨am7, im7, km7⟩, bm7⟩
  have MP : MkP l.prog w K mg base CP := ⟨_, _, ok_prog Fm6 T LP g12 CRP CE MC, ⟨mkCP, am6, im6, kcCP⟩, bm6⟩
  have MPl : Cm l.prog w K mg base CP 3 "_place" ["self", "place"] (spPl CP) := ⟨_, _, ok_pl Fm8 T LP C2, ⟨am8, im8, km8⟩, bm8⟩
  have MMd : Cm l.prog w K mg base CP 4 "mode" ["self", "place"] (spMode CP) := ⟨_, _, ok_md Fm9 LP MPl, ⟨am9, im9, km9⟩, bm9⟩
  have MAs : Cm l.prog w K mg base CP 4 "arms" ["self", "place"] (spArms CP) := ⟨_, _, ok_as Fm10 T LP MPl, ⟨am10, im10, km10⟩, bm10⟩
  have MM : MdM l.prog w K mg base CP := ⟨MMd, MAs⟩
  have MU : UsM l.prog w K mg base CP := ⟨_, _, ok_used Fm11 T LP, ⟨am11, im11, km11⟩, bm11⟩
  have PZ : Pr l.prog w K mg base CP 1 "size" (spSz CP) := ⟨_, _, _, ok_sz Fp0 T LP, ⟨aF0, gF0, tF0, _, rF0⟩, bp0⟩
  have PL : Pr l.prog w K mg base C 1 "first" (spFirst C) := ⟨_, _, _, ok_first Fp1 T LL, ⟨aF1, gF1, tF1, _, rF1⟩, bp1⟩
  have PF : Pr l.prog w K mg base S 3 "first" (spSF S C CP) := ⟨_, _, _, ok_sf Fp2 T SL LL PL, ⟨aF2, gF2, tF2, _, rF2⟩, bp2⟩
  have PT : Pr l.prog w K mg base S 1 "seats" (spST S C CP) := ⟨_, _, _, ok_st Fp3 SL, ⟨aF3, gF3, tF3, _, rF3⟩, bp3⟩
  have CL : Ca l.prog w K mg base 3 "check_lanes" ["lanes", "programs"] (spCkL C CP) := ⟨_, _, ok_ckl F14 T LP MU MH, g14, k14, b14⟩
  have COA : Ca l.prog w K mg base 5 "open_arms" ["lanes", "arms", "content"] (spOA C) := ⟨_, _, ok_oa F15 T LL CE MO, g15, k15, b15⟩
  have CAd : Ca l.prog w K mg base 6 "allowed" ["lanes", "mode", "arms", "content"] (spAl C) := ⟨_, _, ok_al F16 COA, g16, k16, b16⟩
  have CAt : Ca l.prog w K mg base 7 "allowed_at" ["lanes", "program", "place", "content"] (spAt C CP) := ⟨_, _, ok_at F17 LP MM CAd, g17, k17, b17⟩
  have CBA : Ca l.prog w K mg base 5 "behind_arm" ["lanes", "arm", "content"] (spBA C) := ⟨_, _, ok_ba F18 LL CE MD, g18, k18, b18⟩
  have CK : Ca l.prog w K mg base 2 "is_kinds" ["thing"] (spKinds CP) := ⟨_, _, ok_kinds F19 T LP IP C3, g19, k19, b19⟩
  have MS : MkS l.prog w K mg base S C CP := ⟨_, _, ok_sys Fm12 T SL LL LP IL IP CK CL PZ, ⟨mkS, am12, im12, kcS⟩, bm12⟩
  have MKi : Cm l.prog w K mg base S 1 "kinds" ["self"] (spKn S C CP) := ⟨_, _, ok_kn Fm13 SL, ⟨am13, im13, km13⟩, bm13⟩
  have CKo : Ca l.prog w K mg base 2 "kinds_of" ["system"] (spKo S C CP) := ⟨_, _, ok_ko F20 T SL MKi, g20, k20, b20⟩
  have MPr : Cm l.prog w K mg base S 2 "program" ["self", "who"] (spPrg S C CP) := ⟨_, _, ok_prg Fm14 SL C3, ⟨am14, im14, km14⟩, bm14⟩
  have MTh : Cm l.prog w K mg base S 1 "_is_there" ["self", "standing", "who", "place"] (spTh S C CP) := ⟨_, _, ok_th Fm15 SL, ⟨am15, im15, km15⟩, bm15⟩
  have MRc : Cm l.prog w K mg base S 2 "_recounted" ["self", "counts", "kind", "place", "change"] (spRc S C CP) := ⟨_, _, ok_rc Fm16 SL C8, ⟨am16, im16, km16⟩, bm16⟩
  have MBh : Cm l.prog w K mg base S 8 "_behind" ["self", "standing", "step"] (spBh S C CP) := ⟨_, _, ok_bh Fm17 SL LP MM CSp MTh MPr CAt CBA MRc, ⟨am17, im17, km17⟩, bm17⟩
  have MRu : CmN l.prog w K mg base S 9 "run" ["self", "standing", "steps"] (spRunX S C CP SP) := ⟨_, _, ok_runX Fm18 T SL LL MBh TP IX, ⟨am18, im18, km18⟩, bm18⟩
  have CNd : CaN l.prog w K mg base 10 "needed" ["system", "steps"] (spNd S C CP SP) := ⟨_, _, ok_nd F21 T SL LL (PySem.W.mg_none_of X G z_sum) (PySem.W.mg_none_of X G z_max) CKo MRu PF PT, g21, k21, b21⟩
  have CB : Ca l.prog w K mg base 1 "_law_bag" ["_law_script"] (spBag K) := ⟨_, _, hideBag (ok_bag F22 T), g22, k22, b22⟩
  have CT : Ca l.prog w K mg base 1 "_law_take" ["_law_bag_here", "_law_many"] (spTake) := ⟨_, _, hide (ok_take F23 T), g23, k23, b23⟩
  have CA : Cg l.prog w K mg base 1 "_law_alike" ["_law_found", "_law_due_here"] (spAlike) := ⟨_, _, ok_alike F24 T, g24, k24, b24⟩
  have CN : Ca l.prog w K mg base 2 "_law_names" ["_law_bag_here", "_law_many"] (spNames) := ⟨_, _, ok_names F25 T CT, g25, k25, b25⟩
  have CBo : Ca l.prog w K mg base 2 "_law_bounds" ["_law_bag_here", "_law_names_here", "_law_greatest"] (spBounds) := ⟨_, _, ok_bounds F26 T CT, g26, k26, b26⟩
  have CAr : Ca l.prog w K mg base 2 "_law_arm" ["_law_bag_here", "_law_names_here", "_law_places"] (spLArm) := ⟨_, _, ok_larm F27 T CT, g27, k27, b27⟩
  have CPr : Ca l.prog w K mg base 3 "_law_program" ["_law_bag_here", "_law_names_here", "_law_places"] (spLProg) := ⟨_, _, ok_lprog F28 T CT CAr, g28, k28, b28⟩
  have CMo : Ca l.prog w K mg base 4 "_law_model" ["_law_bag_here", "_law_many", "_law_greatest", "_law_kinds", "_law_places"] (spModel) := ⟨_, _, ok_model F29 T CT CN CBo CPr, g29, k29, b29⟩
  have CMa : Ca l.prog w K mg base 9 "_law_made" ["_law_model_here"] (spMade S C CP) := ⟨_, _, ok_made F30 T SL LL LP ML MP MS, g30, k30, b30⟩
  have CO : Ca l.prog w K mg base 1 "_law_opens" ["_law_bounds_here", "_law_content", "_law_arm_here"] (spOpens) := ⟨_, _, ok_opens F31 T, g31, k31, b31⟩
  have CLe : Ca l.prog w K mg base 1 "_law_left" ["_law_bounds_here", "_law_content", "_law_arm_here"] (spLeft) := ⟨_, _, ok_left F32 T, g32, k32, b32⟩
  have CCh : Ca l.prog w K mg base 2 "_law_choices" ["_law_bounds_here", "_law_row", "_law_content"] (spLCh) := ⟨_, _, ok_lch F33 T CO, g33, k33, b33⟩
  have CSe : Ca l.prog w K mg base 1 "_law_seats" ["_law_model_here"] (spSeats) := ⟨_, _, ok_seats F34 T, g34, k34, b34⟩
  have CFi : Ca l.prog w K mg base 2 "_law_first" ["_law_model_here"] (spFi) := ⟨_, _, ok_fi F35 T CSe, g35, k35, b35⟩
  have CRo : Ca l.prog w K mg base 1 "_law_rows" ["_law_model_here", "_law_who"] (spRo) := ⟨_, _, ok_ro F36, g36, k36, b36⟩
  have CLs : Ca l.prog w K mg base 3 "_law_steps" ["_law_model_here", "_law_standing"] (spLSt) := ⟨_, _, ok_lsts F37 T CSe CRo CCh, g37, k37, b37⟩
  have CLf : Ca l.prog w K mg base 2 "_law_after" ["_law_model_here", "_law_standing", "_law_step"] (spLAf) := ⟨_, _, ok_laf F38 T CSe CRo CLe, g38, k38, b38⟩
  have CLr : Ca l.prog w K mg base 4 "_law_run" ["_law_bag_here", "_law_model_here", "_law_many"] (spLRun) := ⟨_, _, ok_lrun F39 T CT CFi CLs CLf, g39, k39, b39⟩
  have CWo : Ca l.prog w K mg base 5 "_law_world" ["_law_bag_here"] (spWo) := ⟨_, _, ok_wo F40 CT CMo, g40, k40, b40⟩
  have CEn : Ca l.prog w K mg base 3 "_law_ends" ["_law_model_here", "_law_steps_here"] (spEn) := ⟨_, _, ok_en F41 CFi CLf, g41, k41, b41⟩
  have COu : Ca l.prog w K mg base 2 "_law_out" ["_law_model_here", "_law_standing", "_law_step"] (spOu) := ⟨_, _, ok_ou F42 T (PySem.W.mg_none_of X G z_sum) CSe, g42, k42, b42⟩
  have CNe : Ca l.prog w K mg base 4 "_law_needed" ["_law_model_here", "_law_steps_here"] (spNe) := ⟨_, _, ok_ne F43 T (PySem.W.mg_none_of X G z_zip) (PySem.W.mg_none_of X G z_max) CEn COu, g43, k43, b43⟩
  have CSo : Ca l.prog w K mg base 2 "_law_spoilt" ["_law_bag_here", "_law_model_here", "_law_steps_here"] (spSpo) := ⟨_, _, ok_spo F44 T CT, g44, k44, b44⟩
  have CDu : Ca l.prog w K mg base 5 "_law_due" ["_law_model_here", "_law_steps_here"] (spDu) := ⟨_, _, ok_du F45 T CFi CLs CLf CNe, g45, k45, b45⟩
  have CHe : Ca l.prog w K mg base 11 "_law_heard" ["_law_system", "_law_steps_here"] (spHe S C CP) := ⟨_, _, ok_he F46 T TP EP CNd, g46, k46, b46⟩
  exact ok_law F47 T CB CT CWo CMa CLr CSo CDu CHe CA
abbrev D0 : DX := ⟨fun K => He.ga K "is_integer", "is_integer", "is_integer", s_is_integer⟩
abbrev D1 : DX := ⟨fun K => He.ga K "is_number", "is_number", "is_number", s_is_number⟩
abbrev D2 : DX := ⟨fun K => He.ga K "is_name", "is_name", "is_name", s_is_name⟩
abbrev D3 : DX := ⟨fun K => He.ga K "is_word", "is_word", "is_word", s_is_word⟩
abbrev D4 : DX := ⟨fun K => He.ga K "is_mode", "is_mode", "is_mode", s_mode⟩
abbrev D5 : DX := ⟨fun K => He.ga K "is_arm", "is_arm", "is_arm", s_is_arm⟩
abbrev D6 : DX := ⟨fun K => He.ga K "is_row_of", "is_row_of", "is_row_of", s_row⟩
abbrev D7 : DX := ⟨fun K => He.ga K "is_step", "is_step", "is_step", s_stp⟩
abbrev D8 : DX := ⟨fun K => He.ga K "state_behind", "state_behind", "state_behind", s_state_behind⟩
abbrev D9 : DX := ⟨fun K => He.ga K "replaced", "replaced", "replaced", s_replaced⟩
abbrev D10 : DX := ⟨fun K => He.ga K "is_bound", "is_bound", "is_bound", s_is_bound⟩
abbrev D11 : DX := ⟨fun K => He.ga K "is_bounds", "is_bounds", "is_bounds", s_is_bounds⟩
abbrev D12 : DX := ⟨fun K => He.ga K "is_place", "is_place", "is_place", s_place⟩
abbrev D13 : DX := ⟨fun K => He.ga K "is_else", "is_else", "is_else", s_else⟩
abbrev D14 : DX := ⟨fun K => He.ga K "check_lanes", "check_lanes", "check_lanes", s_ckl⟩
abbrev D15 : DX := ⟨fun K => He.ga K "open_arms", "open_arms", "open_arms", s_oa⟩
abbrev D16 : DX := ⟨fun K => He.ga K "allowed", "allowed", "allowed", s_al⟩
abbrev D17 : DX := ⟨fun K => He.ga K "allowed_at", "allowed_at", "allowed_at", s_at⟩
abbrev D18 : DX := ⟨fun K => He.ga K "behind_arm", "behind_arm", "behind_arm", s_ba⟩
abbrev D19 : DX := ⟨fun K => He.ga K "is_kinds", "is_kinds", "is_kinds", s_kinds⟩
abbrev D20 : DX := ⟨fun K => He.ga K "kinds_of", "kinds_of", "kinds_of", s_kinds_of⟩
abbrev D21 : DX := ⟨fun K => He.ga K "needed", "needed", "needed", s_needed⟩
abbrev D22 : DX := ⟨fun K => He.ga K "_law_bag", "_law_bag", "_law_bag", s__law_bag⟩
abbrev D23 : DX := ⟨fun K => He.ga K "_law_take", "_law_take", "_law_take", s__law_take⟩
abbrev D24 : DX := ⟨fun K => He.ga K "_law_alike", "_law_alike", "_law_alike", s__law_alike⟩
abbrev D25 : DX := ⟨fun K => He.ga K "_law_names", "_law_names", "_law_names", s__law_names⟩
abbrev D26 : DX := ⟨fun K => He.ga K "_law_bounds", "_law_bounds", "_law_bounds", s_bounds⟩
abbrev D27 : DX := ⟨fun K => He.ga K "_law_arm", "_law_arm", "_law_arm", s__law_arm⟩
abbrev D28 : DX := ⟨fun K => He.ga K "_law_program", "_law_program", "_law_program", s__law_program⟩
abbrev D29 : DX := ⟨fun K => He.ga K "_law_model", "_law_model", "_law_model", s__law_model⟩
abbrev D30 : DX := ⟨fun K => He.ga K "_law_made", "_law_made", "_law_made", s__law_made⟩
abbrev D31 : DX := ⟨fun K => He.ga K "_law_opens", "_law_opens", "_law_opens", s_opens⟩
abbrev D32 : DX := ⟨fun K => He.ga K "_law_left", "_law_left", "_law_left", s_left⟩
abbrev D33 : DX := ⟨fun K => He.ga K "_law_choices", "_law_choices", "_law_choices", s__law_choices⟩
abbrev D34 : DX := ⟨fun K => He.ga K "_law_seats", "_law_seats", "_law_seats", s__law_seats⟩
abbrev D35 : DX := ⟨fun K => He.ga K "_law_first", "_law_first", "_law_first", s__law_first⟩
abbrev D36 : DX := ⟨fun K => He.ga K "_law_rows", "_law_rows", "_law_rows", s__law_rows⟩
abbrev D37 : DX := ⟨fun K => He.ga K "_law_steps", "_law_steps", "_law_steps", s__law_steps⟩
abbrev D38 : DX := ⟨fun K => He.ga K "_law_after", "_law_after", "_law_after", s__law_after⟩
abbrev D39 : DX := ⟨fun K => He.ga K "_law_run", "_law_run", "_law_run", s__law_run⟩
abbrev D40 : DX := ⟨fun K => He.ga K "_law_world", "_law_world", "_law_world", s__law_world⟩
abbrev D41 : DX := ⟨fun K => He.ga K "_law_ends", "_law_ends", "_law_ends", s__law_ends⟩
abbrev D42 : DX := ⟨fun K => He.ga K "_law_out", "_law_out", "_law_out", s__law_out⟩
abbrev D43 : DX := ⟨fun K => He.ga K "_law_needed", "_law_needed", "_law_needed", s__law_needed⟩
abbrev D44 : DX := ⟨fun K => He.ga K "_law_spoilt", "_law_spoilt", "_law_spoilt", s__law_spoilt⟩
abbrev D45 : DX := ⟨fun K => He.ga K "_law_due", "_law_due", "_law_due", s__law_due⟩
abbrev D46 : DX := ⟨fun K => He.ga K "_law_heard", "_law_heard", "_law_heard", s__law_heard⟩
abbrev D47 : DX := ⟨fun K => He.ga K "law", "law", "law", s_law⟩
abbrev Dm0 : DX := ⟨fun K => He.ma K (He.ga K "Lanes") "__init__", "__init__", "Lanes.__init__", (cL 0)⟩
abbrev Dm1 : DX := ⟨fun K => He.ma K (He.ga K "Lanes") "__contains__", "__contains__", "Lanes.__contains__", (cL 4)⟩
abbrev Dm2 : DX := ⟨fun K => He.ma K (He.ga K "Lanes") "_spot", "_spot", "Lanes._spot", (cL 7)⟩
abbrev Dm3 : DX := ⟨fun K => He.ma K (He.ga K "Lanes") "_behind", "_behind", "Lanes._behind", (cL 8)⟩
abbrev Dm4 : DX := ⟨fun K => He.ma K (He.ga K "Lanes") "is_open", "is_open", "Lanes.is_open", (cL 13)⟩
abbrev Dm5 : DX := ⟨fun K => He.ma K (He.ga K "Lanes") "done", "done", "Lanes.done", (cL 14)⟩
abbrev Dm6 : DX := ⟨fun K => He.ma K (He.ga K "Program") "__init__", "__init__", "Program.__init__", (cP 0)⟩
abbrev Dm7 : DX := ⟨fun K => He.ma K (He.ga K "Program") "_check", "_check", "Program._check", (cP 1)⟩
abbrev Dm8 : DX := ⟨fun K => He.ma K (He.ga K "Program") "_place", "_place", "Program._place", (cP 4)⟩
abbrev Dm9 : DX := ⟨fun K => He.ma K (He.ga K "Program") "mode", "mode", "Program.mode", (cP 8)⟩
abbrev Dm10 : DX := ⟨fun K => He.ma K (He.ga K "Program") "arms", "arms", "Program.arms", (cP 9)⟩
abbrev Dm11 : DX := ⟨fun K => He.ma K (He.ga K "Program") "used", "used", "Program.used", (cP 11)⟩
abbrev Dm12 : DX := ⟨fun K => He.ma K (He.ga K "System") "__init__", "__init__", "System.__init__", (cS 0)⟩
abbrev Dm13 : DX := ⟨fun K => He.ma K (He.ga K "System") "kinds", "kinds", "System.kinds", (cS 6)⟩
abbrev Dm14 : DX := ⟨fun K => He.ma K (He.ga K "System") "program", "program", "System.program", (cS 7)⟩
abbrev Dm15 : DX := ⟨fun K => He.ma K (He.ga K "System") "_is_there", "_is_there", "System._is_there", (cS 12)⟩
abbrev Dm16 : DX := ⟨fun K => He.ma K (He.ga K "System") "_recounted", "_recounted", "System._recounted", (cS 13)⟩
abbrev Dm17 : DX := ⟨fun K => He.ma K (He.ga K "System") "_behind", "_behind", "System._behind", (cS 14)⟩
abbrev Dm18 : DX := ⟨fun K => He.ma K (He.ga K "System") "run", "run", "System.run", (cS 17)⟩
abbrev Dm19 : DX := ⟨fun K => He.ma K (He.ga K "Stopped") "__init__", "__init__", "Stopped.__init__", s_xstop⟩
abbrev Dp0 : DX := ⟨fun K => prA K (He.ma K (He.ga K "Program") "size"), "size", "Program.size", (cP 3)⟩
abbrev Dp1 : DX := ⟨fun K => prA K (He.ma K (He.ga K "Lanes") "first"), "first", "Lanes.first", (cL 6)⟩
abbrev Dp2 : DX := ⟨fun K => prA K (He.ma K (He.ga K "System") "first"), "first", "System.first", (cS 4)⟩
abbrev Dp3 : DX := ⟨fun K => prA K (He.ma K (He.ga K "System") "seats"), "seats", "System.seats", (cS 5)⟩
def ds0 : List DX := [D0, D1, D2, D3, D4, D5, D6, D7, D8, D9, D10, D11, D12, D13, D14, D15, D16, D17, D18, D19, D20, D21, D22, D23, D24, D25, D26, D27, D28, D29, D30, D31, D32, D33, D34, D35]
def ds1 : List DX := [D36, D37, D38, D39, D40, D41, D42, D43, D44, D45, D46, D47, Dm0, Dm1, Dm2, Dm3, Dm4, Dm5, Dm6, Dm7, Dm8, Dm9, Dm10, Dm11, Dm12, Dm13, Dm14, Dm15, Dm16, Dm17, Dm18, Dm19, Dp0, Dp1, Dp2, Dp3]
def ds : List DX := ds0 ++ ds1
def LB0 (K : PySem.W.Frag) : List Bool := [
  noS K,
  He.Fa.ok K (.glo "is_integer"),
  He.Fa.ok K (.glo "is_number"),
  He.Fa.ok K (.glo "is_name"),
  He.Fa.ok K (.glo "is_word"),
  He.Fa.ok K (.glo "is_mode"),
  He.Fa.ok K (.glo "is_arm"),
  He.Fa.ok K (.glo "is_row_of"),
  He.Fa.ok K (.glo "is_step"),
  He.Fa.ok K (.glo "state_behind"),
  He.Fa.ok K (.glo "replaced"),
  He.Fa.ok K (.glo "is_bound"),
  He.Fa.ok K (.glo "is_bounds"),
  He.Fa.ok K (.glo "is_place"),
  He.Fa.ok K (.glo "is_else"),
  He.Fa.ok K (.glo "check_lanes"),
  He.Fa.ok K (.glo "open_arms"),
  He.Fa.ok K (.glo "allowed"),
  He.Fa.ok K (.glo "allowed_at"),
  He.Fa.ok K (.glo "behind_arm"),
  He.Fa.ok K (.glo "is_kinds"),
  He.Fa.ok K (.glo "kinds_of"),
  He.Fa.ok K (.glo "needed"),
  He.Fa.ok K (.glo "_law_bag"),
  He.Fa.ok K (.glo "_law_take"),
  He.Fa.ok K (.glo "_law_alike"),
  He.Fa.ok K (.glo "_law_names"),
  He.Fa.ok K (.glo "_law_bounds"),
  He.Fa.ok K (.glo "_law_arm"),
  He.Fa.ok K (.glo "_law_program"),
  He.Fa.ok K (.glo "_law_model"),
  He.Fa.ok K (.glo "_law_made"),
  He.Fa.ok K (.glo "_law_opens"),
  He.Fa.ok K (.glo "_law_left"),
  He.Fa.ok K (.glo "_law_choices"),
  He.Fa.ok K (.glo "_law_seats"),
  He.Fa.ok K (.glo "_law_first"),
  He.Fa.ok K (.glo "_law_rows"),
  He.Fa.ok K (.glo "_law_steps"),
  He.Fa.ok K (.glo "_law_after"),
  He.Fa.ok K (.glo "_law_run"),
  He.Fa.ok K (.glo "_law_world"),
  He.Fa.ok K (.glo "_law_ends"),
  He.Fa.ok K (.glo "_law_out"),
  He.Fa.ok K (.glo "_law_needed"),
  He.Fa.ok K (.glo "_law_spoilt"),
  He.Fa.ok K (.glo "_law_due"),
  He.Fa.ok K (.glo "_law_heard"),
  He.Fa.ok K (.glo "law"),
  He.Fa.ok K (.glo "Lanes"),
  He.Fa.ok K (.glo "Program"),
  He.Fa.ok K (.glo "System"),
  He.Fa.ok K (.glo "Stopped"),
  He.Fa.ok K (.glo "LaneError"),
  He.eqO (PySem.W.findIn K (.ref (He.ga K "Lanes")) "__init__") (some (some (.ref (He.ma K (He.ga K "Lanes") "__init__")))),
  PySem.W.isFn K (.ref (He.ma K (He.ga K "Lanes") "__init__")),
  He.eqO (PySem.W.findIn K (.ref (He.ga K "Lanes")) "__contains__") (some (some (.ref (He.ma K (He.ga K "Lanes") "__contains__")))),
  PySem.W.isFn K (.ref (He.ma K (He.ga K "Lanes") "__contains__")),
  He.eqO (PySem.W.findIn K (.ref (He.ga K "Lanes")) "_spot") (some (some (.ref (He.ma K (He.ga K "Lanes") "_spot")))),
  PySem.W.isFn K (.ref (He.ma K (He.ga K "Lanes") "_spot")),
  He.eqO (PySem.W.findIn K (.ref (He.ga K "Lanes")) "_behind") (some (some (.ref (He.ma K (He.ga K "Lanes") "_behind")))),
  PySem.W.isFn K (.ref (He.ma K (He.ga K "Lanes") "_behind")),
  He.eqO (PySem.W.findIn K (.ref (He.ga K "Lanes")) "is_open") (some (some (.ref (He.ma K (He.ga K "Lanes") "is_open")))),
  PySem.W.isFn K (.ref (He.ma K (He.ga K "Lanes") "is_open")),
  He.eqO (PySem.W.findIn K (.ref (He.ga K "Lanes")) "done") (some (some (.ref (He.ma K (He.ga K "Lanes") "done")))),
  PySem.W.isFn K (.ref (He.ma K (He.ga K "Lanes") "done")),
  He.eqO (PySem.W.findIn K (.ref (He.ga K "Program")) "__init__") (some (some (.ref (He.ma K (He.ga K "Program") "__init__")))),
  PySem.W.isFn K (.ref (He.ma K (He.ga K "Program") "__init__")),
  He.eqO (PySem.W.findIn K (.ref (He.ga K "Program")) "_check") (some (some (.ref (He.ma K (He.ga K "Program") "_check")))),
  PySem.W.isFn K (.ref (He.ma K (He.ga K "Program") "_check")),
  He.eqO (PySem.W.findIn K (.ref (He.ga K "Program")) "_place") (some (some (.ref (He.ma K (He.ga K "Program") "_place")))),
  PySem.W.isFn K (.ref (He.ma K (He.ga K "Program") "_place")),
  He.eqO (PySem.W.findIn K (.ref (He.ga K "Program")) "mode") (some (some (.ref (He.ma K (He.ga K "Program") "mode")))),
  PySem.W.isFn K (.ref (He.ma K (He.ga K "Program") "mode")),
  He.eqO (PySem.W.findIn K (.ref (He.ga K "Program")) "arms") (some (some (.ref (He.ma K (He.ga K "Program") "arms")))),
  PySem.W.isFn K (.ref (He.ma K (He.ga K "Program") "arms")),
  He.eqO (PySem.W.findIn K (.ref (He.ga K "Program")) "used") (some (some (.ref (He.ma K (He.ga K "Program") "used")))),
  PySem.W.isFn K (.ref (He.ma K (He.ga K "Program") "used")),
  He.eqO (PySem.W.findIn K (.ref (He.ga K "System")) "__init__") (some (some (.ref (He.ma K (He.ga K "System") "__init__")))),
  PySem.W.isFn K (.ref (He.ma K (He.ga K "System") "__init__")),
  He.eqO (PySem.W.findIn K (.ref (He.ga K "System")) "kinds") (some (some (.ref (He.ma K (He.ga K "System") "kinds")))),
  PySem.W.isFn K (.ref (He.ma K (He.ga K "System") "kinds")),
  He.eqO (PySem.W.findIn K (.ref (He.ga K "System")) "program") (some (some (.ref (He.ma K (He.ga K "System") "program")))),
  PySem.W.isFn K (.ref (He.ma K (He.ga K "System") "program"))]
def LB1 (K : PySem.W.Frag) : List Bool := [
  He.eqO (PySem.W.findIn K (.ref (He.ga K "System")) "_is_there") (some (some (.ref (He.ma K (He.ga K "System") "_is_there")))),
  PySem.W.isFn K (.ref (He.ma K (He.ga K "System") "_is_there")),
  He.eqO (PySem.W.findIn K (.ref (He.ga K "System")) "_recounted") (some (some (.ref (He.ma K (He.ga K "System") "_recounted")))),
  PySem.W.isFn K (.ref (He.ma K (He.ga K "System") "_recounted")),
  He.eqO (PySem.W.findIn K (.ref (He.ga K "System")) "_behind") (some (some (.ref (He.ma K (He.ga K "System") "_behind")))),
  PySem.W.isFn K (.ref (He.ma K (He.ga K "System") "_behind")),
  He.eqO (PySem.W.findIn K (.ref (He.ga K "System")) "run") (some (some (.ref (He.ma K (He.ga K "System") "run")))),
  PySem.W.isFn K (.ref (He.ma K (He.ga K "System") "run")),
  He.eqO (PySem.W.findIn K (.ref (He.ga K "Stopped")) "__init__") (some (some (.ref (He.ma K (He.ga K "Stopped") "__init__")))),
  decide (PySem.W.typeIn K (.ref (He.ma K (He.ga K "Stopped") "__init__")) = some (.type "function")),
  He.eqO (PySem.W.findIn K (.ref (He.ga K "Program")) "size") (some (some (.ref (He.ma K (He.ga K "Program") "size")))),
  He.eqO (PySem.W.specialIn K (.ref (He.ma K (He.ga K "Program") "size")) "__get__") (some (some (.builtin "property.__get__"))),
  decO (PySem.W.takesIn K (.ref (He.ma K (He.ga K "Program") "size"))) (some true),
  prB K (He.ma K (He.ga K "Program") "size"),
  He.eqO (PySem.W.findIn K (.ref (He.ga K "Lanes")) "first") (some (some (.ref (He.ma K (He.ga K "Lanes") "first")))),
  He.eqO (PySem.W.specialIn K (.ref (He.ma K (He.ga K "Lanes") "first")) "__get__") (some (some (.builtin "property.__get__"))),
  decO (PySem.W.takesIn K (.ref (He.ma K (He.ga K "Lanes") "first"))) (some true),
  prB K (He.ma K (He.ga K "Lanes") "first"),
  He.eqO (PySem.W.findIn K (.ref (He.ga K "System")) "first") (some (some (.ref (He.ma K (He.ga K "System") "first")))),
  He.eqO (PySem.W.specialIn K (.ref (He.ma K (He.ga K "System") "first")) "__get__") (some (some (.builtin "property.__get__"))),
  decO (PySem.W.takesIn K (.ref (He.ma K (He.ga K "System") "first"))) (some true),
  prB K (He.ma K (He.ga K "System") "first"),
  He.eqO (PySem.W.findIn K (.ref (He.ga K "System")) "seats") (some (some (.ref (He.ma K (He.ga K "System") "seats")))),
  He.eqO (PySem.W.specialIn K (.ref (He.ma K (He.ga K "System") "seats")) "__get__") (some (some (.builtin "property.__get__"))),
  decO (PySem.W.takesIn K (.ref (He.ma K (He.ga K "System") "seats"))) (some true),
  prB K (He.ma K (He.ga K "System") "seats"),
  PySem.W.plainGet K (He.ga K "Lanes") Str.empty,
  PySem.W.hasDictIn K (He.ga K "Lanes"),
  PySem.W.plainOver K (He.ga K "Lanes"),
  PySem.W.makesIn K (He.ga K "Lanes"),
  PySem.W.keepIn K (.ref (He.ga K "Lanes")),
  He.eqO (PySem.W.findIn K (.ref (He.ga K "Lanes")) "__setattr__") (some (some (.builtin "object.__setattr__"))),
  He.eqO (PySem.W.findIn K (.ref (He.ga K "Lanes")) "__class__") (some (some (.builtin "object.__class__"))),
  He.eqO (PySem.W.findIn K (.ref (He.ga K "Lanes")) "_names") (some none),
  He.eqO (PySem.W.findIn K (.ref (He.ga K "Lanes")) "_bounds") (some none),
  He.eqO (PySem.W.findIn K (.ref (He.ga K "Lanes")) "_spots") (some none),
  decO (PySem.W.mroIn K (He.ga K "Lanes") (.type "object")) (some true),
  decO (PySem.W.kitOne K (.ref (He.ga K "Lanes")) (.ref (He.ga K "Lanes"))) (some true),
  PySem.W.plainGet K (He.ga K "Program") Str.empty,
  PySem.W.hasDictIn K (He.ga K "Program"),
  PySem.W.plainOver K (He.ga K "Program"),
  PySem.W.makesIn K (He.ga K "Program"),
  PySem.W.keepIn K (.ref (He.ga K "Program")),
  He.eqO (PySem.W.findIn K (.ref (He.ga K "Program")) "__setattr__") (some (some (.builtin "object.__setattr__"))),
  He.eqO (PySem.W.findIn K (.ref (He.ga K "Program")) "__class__") (some (some (.builtin "object.__class__"))),
  He.eqO (PySem.W.findIn K (.ref (He.ga K "Program")) "_places") (some none),
  He.eqO (PySem.W.findIn K (.ref (He.ga K "Program")) "_used") (some none),
  decO (PySem.W.mroIn K (He.ga K "Program") (.type "object")) (some true),
  decO (PySem.W.kitOne K (.ref (He.ga K "Program")) (.ref (He.ga K "Program"))) (some true),
  PySem.W.plainGet K (He.ga K "System") Str.empty,
  PySem.W.hasDictIn K (He.ga K "System"),
  PySem.W.plainOver K (He.ga K "System"),
  PySem.W.makesIn K (He.ga K "System"),
  PySem.W.keepIn K (.ref (He.ga K "System")),
  He.eqO (PySem.W.findIn K (.ref (He.ga K "System")) "__setattr__") (some (some (.builtin "object.__setattr__"))),
  He.eqO (PySem.W.findIn K (.ref (He.ga K "System")) "__class__") (some (some (.builtin "object.__class__"))),
  He.eqO (PySem.W.findIn K (.ref (He.ga K "System")) "_lanes") (some none),
  He.eqO (PySem.W.findIn K (.ref (He.ga K "System")) "_server") (some none),
  He.eqO (PySem.W.findIn K (.ref (He.ga K "System")) "_kinds") (some none),
  He.eqO (PySem.W.findIn K (.ref (He.ga K "System")) "_seats") (some none),
  He.eqO (PySem.W.findIn K (.ref (He.ga K "System")) "_spots") (some none),
  decO (PySem.W.mroIn K (He.ga K "System") (.type "object")) (some true),
  decO (PySem.W.kitOne K (.ref (He.ga K "System")) (.ref (He.ga K "System"))) (some true),
  xcB K (He.ga K "Stopped"),
  He.eqO (PySem.W.findIn K (.ref (He.ga K "Stopped")) "__setattr__") (some (some (.builtin "object.__setattr__"))),
  He.eqO (PySem.W.findIn K (.ref (He.ga K "Stopped")) "__getattribute__") (some (some (.builtin "BaseException.__getattribute__"))),
  He.eqO (PySem.W.findIn K (.ref (He.ga K "Stopped")) "__class__") (some (some (.builtin "object.__class__"))),
  He.eqO (PySem.W.findIn K (.ref (He.ga K "Stopped")) "__getattr__") (some none),
  He.eqO (PySem.W.findIn K (.ref (He.ga K "Stopped")) "index") (some none),
  decide (PySem.W.subIn K (.ref (He.ga K "Stopped")) (.type "BaseException") = some true),
  decide (PySem.W.typeIn K (.ref (He.ga K "Stopped")) = some (.type "type")),
  decide (PySem.W.mroIn K (He.ga K "Stopped") (.type "object") = some true),
  decide (PySem.W.subIn K (.ref (He.ga K "Stopped")) (.ref (He.ga K "LaneError")) = some true),
  PySem.W.keepIn K (.ref (He.ga K "Stopped")),
  PySem.W.hasDictIn K (He.ga K "Stopped"),
  decide (PySem.W.subIn K (.ref (He.ga K "LaneError")) (.type "BaseException") = some true),
  PySem.W.hasDictIn K (He.ga K "LaneError"),
  decide (PySem.W.typeIn K (.ref (He.ga K "LaneError")) = some (.type "type")),
  decide (PySem.W.kitOne K (.ref (He.ga K "Stopped")) (.ref (He.ga K "Stopped")) = some true),
  He.eqO (PySem.W.specialIn K (.builtin "object.__class__") "__get__") (some (some (.builtin "getset_descriptor.__get__"))),
  decO (PySem.W.takesIn K (.builtin "object.__class__")) (some true),
  strB K "LETTERS" abc,
  intB K "LONGEST" 8,
  He.Fa.ok K (.glo "WORDS")]
def LB2 (K : PySem.W.Frag) : List Bool := [
  He.Fa.ok K (.glo "MODES"),
  tupX K (He.ga K "WORDS") ["close", "ended", "send", "take"],
  tupX K (He.ga K "MODES") ["any", "first"],
  He.Fa.ok K (.free "len"),
  He.Fa.ok K (.free "int"),
  He.Fa.ok K (.free "abs"),
  He.Fa.ok K (.free "range"),
  He.Fa.ok K (.free "repr"),
  He.Fa.ok K (.free "isinstance"),
  He.Fa.ok K (.free "all"),
  He.Fa.ok K (.free "tuple"),
  He.Fa.ok K (.free "list"),
  He.Fa.ok K (.free "str"),
  He.Fa.ok K (.free "bool"),
  He.Fa.ok K (.free "dict"),
  He.Fa.ok K (.free "sorted"),
  He.Fa.ok K (.free "enumerate"),
  He.Fa.ok K (.free "zip"),
  He.Fa.ok K (.free "max"),
  He.Fa.ok K (.free "sum")]
def LB (K : PySem.W.Frag) : List Bool := LB0 K ++ LB1 K ++ LB2 K
def AS : (Addr → Option Obj) → List Addr := asX 4 [Dp0.ad, Dp1.ad, Dp2.ad, Dp3.ad]
abbrev hk : PySem.W.Hook := hookX AS ds LB
def ob (s : PySem.W.SharedT) : List He.FnW × Bool := obX AS ds LB s
theorem ob_eq (s : PySem.W.SharedT) : ob s = hk.obs s.abs := obX_eq AS ds LB s
abbrev RR : PySem.W.OpenRow := PySem.W.OpenLaw.row PySem.Challenge.rw_openlanes_k41_crowds_needed
def loose : List Str := (["_wall", "__name__", "LaneError", "Wrong", "NoLane", "Shut", "NoPlace", "NoArm", "TwoElse", "NoKind", "NoSeat", "Stopped", "LETTERS", "LONGEST", "WORDS", "MODES", "is_integer", "is_number", "is_name", "is_word", "is_mode", "is_arm", "is_row_of", "is_step", "state_behind", "replaced", "is_place", "is_else", "Program", "check_lanes"] : List Str) ++ (["open_arms", "allowed", "allowed_at", "behind_arm", "kinds_of", "needed", "is_bound", "is_bounds", "Lanes", "is_kinds", "System", "_law_bag", "_law_take", "_law_alike", "_law_names", "_law_bounds", "_law_arm", "_law_program", "_law_model", "_law_made", "_law_opens", "_law_left", "_law_choices", "_law_seats", "_law_first", "_law_rows", "_law_steps", "_law_after", "_law_run", "_law_world"] : List Str) ++ (["_law_ends", "_law_out", "_law_needed", "_law_spoilt", "_law_due", "_law_heard"] : List Str)
noncomputable abbrev RUN (w : World) (os : OsState) : Option PySem.W.SharedT := HandSHeadRun.endF (HandSHeadRun.stepQ (HandSHeadRun.denQ HandSHeadRun.tabQ) RR.prog w) 20000 RR.prog w os
abbrev QQ := PySem.W.view RR.prog [74]
abbrev KS (s : PySem.W.SharedT) : PySem.W.Frag := He.frG (HandSHeadRun.getT s) (AS (HandSHeadRun.getT s))
theorem runA (w : World) (os : OsState) : (RUN w os).map (fun s => HandSHeadRun.looksF RR.prog (PySem.W.boot_heap w.params) s.abs) = some true := by kernel_rfl
theorem runB (w : World) (os : OsState) : (RUN w os).map (fun s => HandSHeadRun.seenQ QQ loose (importedModules RR.prog.main.body) (fun s => PySem.W.xlAt QQ [] s && PySem.W.recOk RR.records s) s.abs) = some (PySem.W.openGood QQ loose) := by kernel_rfl
theorem runC0 (w : World) (os : OsState) : (RUN w os).map (fun s => ds0.map (DX.obs (KS s))) = some (ds0.map DX.val) := by kernel_rfl
theorem runE0 (w : World) (os : OsState) : (RUN w os).map (fun s => ds0.all (DX.ok (KS s))) = some true := by kernel_rfl
theorem runC1 (w : World) (os : OsState) : (RUN w os).map (fun s => ds1.map (DX.obs (KS s))) = some (ds1.map DX.val) := by kernel_rfl
theorem runE1 (w : World) (os : OsState) : (RUN w os).map (fun s => ds1.all (DX.ok (KS s))) = some true := by kernel_rfl
theorem runD0 (w : World) (os : OsState) : (RUN w os).map (fun s => (LB0 (KS s)).all id) = some true := by kernel_rfl
theorem runD1 (w : World) (os : OsState) : (RUN w os).map (fun s => (LB1 (KS s)).all id) = some true := by kernel_rfl
theorem runD2 (w : World) (os : OsState) : (RUN w os).map (fun s => (LB2 (KS s)).all id) = some true := by kernel_rfl
theorem run (w : World) : HandSHeadRun.RunEq RR QQ hk ob 20000 loose w := by
  intro os
  have hrunA := runA w os
  have hrunB := runB w os
  have hrunC0 := runC0 w os
  have hrunC1 := runC1 w os
  have hrunE0 := runE0 w os
  have hrunE1 := runE1 w os
  have hrunD0 := runD0 w os
  have hrunD1 := runD1 w os
  have hrunD2 := runD2 w os
  revert hrunA hrunB hrunC0 hrunC1 hrunE0 hrunE1 hrunD0 hrunD1 hrunD2
  show _
  unfold RUN
  generalize HandSHeadRun.endF (HandSHeadRun.stepQ (HandSHeadRun.denQ HandSHeadRun.tabQ) RR.prog w) 20000 RR.prog w os = o
  intro hrunA hrunB hrunC0 hrunC1 hrunE0 hrunE1 hrunD0 hrunD1 hrunD2
  cases o with
  | none => cases hrunA
  | some s =>
    have hrunA : HandSHeadRun.looksF RR.prog (PySem.W.boot_heap w.params) s.abs = true := Option.some.inj hrunA
    have hrunB : HandSHeadRun.seenQ QQ loose (importedModules RR.prog.main.body) (fun s => PySem.W.xlAt QQ [] s && PySem.W.recOk RR.records s) s.abs = PySem.W.openGood QQ loose := Option.some.inj hrunB
    have hrunC0 : ds0.map (DX.obs (KS s)) = ds0.map DX.val := Option.some.inj hrunC0
    have hrunC1 : ds1.map (DX.obs (KS s)) = ds1.map DX.val := Option.some.inj hrunC1
    have hrunE0 : ds0.all (DX.ok (KS s)) = true := Option.some.inj hrunE0
    have hrunE1 : ds1.all (DX.ok (KS s)) = true := Option.some.inj hrunE1
    have hrunD0 : (LB0 (KS s)).all id = true := Option.some.inj hrunD0
    have hrunD1 : (LB1 (KS s)).all id = true := Option.some.inj hrunD1
    have hrunD2 : (LB2 (KS s)).all id = true := Option.some.inj hrunD2
    have eo : ob s = (ds.map DX.val, true) := by
      show (ds.map (DX.obs (KS s)), (LB (KS s)).all id && ds.all (DX.ok (KS s))) = _
      have e1 : ds.map (DX.obs (KS s)) = ds.map DX.val := by unfold ds; simp only [List.map_append]; rw [hrunC0, hrunC1]
      have e2 : (LB (KS s)).all id = true := by unfold LB; simp only [List.all_append]; rw [hrunD0, hrunD1, hrunD2]; rfl
      have e3 : ds.all (DX.ok (KS s)) = true := by unfold ds; simp only [List.all_append]; rw [hrunE0, hrunE1]; rfl
      rw [e1, e2, e3]; rfl
    show some (_, _, ob s) = some (true, _, (ds.map DX.val, true))
    rw [eo, hrunA, hrunB]
theorem facts {l : PySem.W.OpenLaw} {w : World} {K : PySem.W.Frag} {h : Heap} {mg : Str → Option Value} {fa : Addr} (X : K.In h) (G : h.Ns mainGlobals mg) (hfa : mg "law" = some (.ref fa)) (hd : ds.map (DX.obs K) = ds.map DX.val) (hc0 : ((LB K).all id && ds.all (DX.ok K)) = true) :
    K.lookup sysModules = none ∧ ∃ fd : FuncData, (∀ (s : Shared) (v : Value), BindsTo s fd ⟨[v], []⟩ [("_law_script", v)]) ∧ ∀ base : Heap, K.In base → base.Ns mainGlobals mg → FnG l.prog w K mg base 12 fa fd ["_law_script"] (spLaw K) := by
  have hc : (LB K).all id = true ∧ ds.all (DX.ok K) = true := by rw [Bool.and_eq_true] at hc0; exact hc0
  obtain ⟨oc0, od0, kV0, dc0, pm0, an0, cd0, ct0, sl0, l0, c0, k0⟩ := DX.fun_ (d := D0) (funX hd hc.2 0 rfl).1 (funX hd hc.2 0 rfl).2
  obtain ⟨oc1, od1, kV1, dc1, pm1, an1, cd1, ct1, sl1, l1, c1, k1⟩ := DX.fun_ (d := D1) (funX hd hc.2 1 rfl).1 (funX hd hc.2 1 rfl).2
  obtain ⟨oc2, od2, kV2, dc2, pm2, an2, cd2, ct2, sl2, l2, c2, k2⟩ := DX.fun_ (d := D2) (funX hd hc.2 2 rfl).1 (funX hd hc.2 2 rfl).2
  obtain ⟨oc3, od3, kV3, dc3, pm3, an3, cd3, ct3, sl3, l3, c3, k3⟩ := DX.fun_ (d := D3) (funX hd hc.2 3 rfl).1 (funX hd hc.2 3 rfl).2
  obtain ⟨oc4, od4, kV4, dc4, pm4, an4, cd4, ct4, sl4, l4, c4, k4⟩ := DX.fun_ (d := D4) (funX hd hc.2 4 rfl).1 (funX hd hc.2 4 rfl).2
  obtain ⟨oc5, od5, kV5, dc5, pm5, an5, cd5, ct5, sl5, l5, c5, k5⟩ := DX.fun_ (d := D5) (funX hd hc.2 5 rfl).1 (funX hd hc.2 5 rfl).2
  obtain ⟨oc6, od6, kV6, dc6, pm6, an6, cd6, ct6, sl6, l6, c6, k6⟩ := DX.fun_ (d := D6) (funX hd hc.2 6 rfl).1 (funX hd hc.2 6 rfl).2
  obtain ⟨oc7, od7, kV7, dc7, pm7, an7, cd7, ct7, sl7, l7, c7, k7⟩ := DX.fun_ (d := D7) (funX hd hc.2 7 rfl).1 (funX hd hc.2 7 rfl).2
  obtain ⟨oc8, od8, kV8, dc8, pm8, an8, cd8, ct8, sl8, l8, c8, k8⟩ := DX.fun_ (d := D8) (funX hd hc.2 8 rfl).1 (funX hd hc.2 8 rfl).2
  obtain ⟨oc9, od9, kV9, dc9, pm9, an9, cd9, ct9, sl9, l9, c9, k9⟩ := DX.fun_ (d := D9) (funX hd hc.2 9 rfl).1 (funX hd hc.2 9 rfl).2
  obtain ⟨oc10, od10, kV10, dc10, pm10, an10, cd10, ct10, sl10, l10, c10, k10⟩ := DX.fun_ (d := D10) (funX hd hc.2 10 rfl).1 (funX hd hc.2 10 rfl).2
  obtain ⟨oc11, od11, kV11, dc11, pm11, an11, cd11, ct11, sl11, l11, c11, k11⟩ := DX.fun_ (d := D11) (funX hd hc.2 11 rfl).1 (funX hd hc.2 11 rfl).2
  obtain ⟨oc12, od12, kV12, dc12, pm12, an12, cd12, ct12, sl12, l12, c12, k12⟩ := DX.fun_ (d := D12) (funX hd hc.2 12 rfl).1 (funX hd hc.2 12 rfl).2
  obtain ⟨oc13, od13, kV13, dc13, pm13, an13, cd13, ct13, sl13, l13, c13, k13⟩ := DX.fun_ (d := D13) (funX hd hc.2 13 rfl).1 (funX hd hc.2 13 rfl).2
  obtain ⟨oc14, od14, kV14, dc14, pm14, an14, cd14, ct14, sl14, l14, c14, k14⟩ := DX.fun_ (d := D14) (funX hd hc.2 14 rfl).1 (funX hd hc.2 14 rfl).2
  obtain ⟨oc15, od15, kV15, dc15, pm15, an15, cd15, ct15, sl15, l15, c15, k15⟩ := DX.fun_ (d := D15) (funX hd hc.2 15 rfl).1 (funX hd hc.2 15 rfl).2
  obtain ⟨oc16, od16, kV16, dc16, pm16, an16, cd16, ct16, sl16, l16, c16, k16⟩ := DX.fun_ (d := D16) (funX hd hc.2 16 rfl).1 (funX hd hc.2 16 rfl).2
  obtain ⟨oc17, od17, kV17, dc17, pm17, an17, cd17, ct17, sl17, l17, c17, k17⟩ := DX.fun_ (d := D17) (funX hd hc.2 17 rfl).1 (funX hd hc.2 17 rfl).2
  obtain ⟨oc18, od18, kV18, dc18, pm18, an18, cd18, ct18, sl18, l18, c18, k18⟩ := DX.fun_ (d := D18) (funX hd hc.2 18 rfl).1 (funX hd hc.2 18 rfl).2
  obtain ⟨oc19, od19, kV19, dc19, pm19, an19, cd19, ct19, sl19, l19, c19, k19⟩ := DX.fun_ (d := D19) (funX hd hc.2 19 rfl).1 (funX hd hc.2 19 rfl).2
  obtain ⟨oc20, od20, kV20, dc20, pm20, an20, cd20, ct20, sl20, l20, c20, k20⟩ := DX.fun_ (d := D20) (funX hd hc.2 20 rfl).1 (funX hd hc.2 20 rfl).2
  obtain ⟨oc21, od21, kV21, dc21, pm21, an21, cd21, ct21, sl21, l21, c21, k21⟩ := DX.fun_ (d := D21) (funX hd hc.2 21 rfl).1 (funX hd hc.2 21 rfl).2
  obtain ⟨oc22, od22, kV22, dc22, pm22, an22, cd22, ct22, sl22, l22, c22, k22⟩ := DX.fun_ (d := D22) (funX hd hc.2 22 rfl).1 (funX hd hc.2 22 rfl).2
  obtain ⟨oc23, od23, kV23, dc23, pm23, an23, cd23, ct23, sl23, l23, c23, k23⟩ := DX.fun_ (d := D23) (funX hd hc.2 23 rfl).1 (funX hd hc.2 23 rfl).2
  obtain ⟨oc24, od24, kV24, dc24, pm24, an24, cd24, ct24, sl24, l24, c24, k24⟩ := DX.fun_ (d := D24) (funX hd hc.2 24 rfl).1 (funX hd hc.2 24 rfl).2
  obtain ⟨oc25, od25, kV25, dc25, pm25, an25, cd25, ct25, sl25, l25, c25, k25⟩ := DX.fun_ (d := D25) (funX hd hc.2 25 rfl).1 (funX hd hc.2 25 rfl).2
  obtain ⟨oc26, od26, kV26, dc26, pm26, an26, cd26, ct26, sl26, l26, c26, k26⟩ := DX.fun_ (d := D26) (funX hd hc.2 26 rfl).1 (funX hd hc.2 26 rfl).2
  obtain ⟨oc27, od27, kV27, dc27, pm27, an27, cd27, ct27, sl27, l27, c27, k27⟩ := DX.fun_ (d := D27) (funX hd hc.2 27 rfl).1 (funX hd hc.2 27 rfl).2
  obtain ⟨oc28, od28, kV28, dc28, pm28, an28, cd28, ct28, sl28, l28, c28, k28⟩ := DX.fun_ (d := D28) (funX hd hc.2 28 rfl).1 (funX hd hc.2 28 rfl).2
  obtain ⟨oc29, od29, kV29, dc29, pm29, an29, cd29, ct29, sl29, l29, c29, k29⟩ := DX.fun_ (d := D29) (funX hd hc.2 29 rfl).1 (funX hd hc.2 29 rfl).2
  obtain ⟨oc30, od30, kV30, dc30, pm30, an30, cd30, ct30, sl30, l30, c30, k30⟩ := DX.fun_ (d := D30) (funX hd hc.2 30 rfl).1 (funX hd hc.2 30 rfl).2
  obtain ⟨oc31, od31, kV31, dc31, pm31, an31, cd31, ct31, sl31, l31, c31, k31⟩ := DX.fun_ (d := D31) (funX hd hc.2 31 rfl).1 (funX hd hc.2 31 rfl).2
  obtain ⟨oc32, od32, kV32, dc32, pm32, an32, cd32, ct32, sl32, l32, c32, k32⟩ := DX.fun_ (d := D32) (funX hd hc.2 32 rfl).1 (funX hd hc.2 32 rfl).2
  obtain ⟨oc33, od33, kV33, dc33, pm33, an33, cd33, ct33, sl33, l33, c33, k33⟩ := DX.fun_ (d := D33) (funX hd hc.2 33 rfl).1 (funX hd hc.2 33 rfl).2
  obtain ⟨oc34, od34, kV34, dc34, pm34, an34, cd34, ct34, sl34, l34, c34, k34⟩ := DX.fun_ (d := D34) (funX hd hc.2 34 rfl).1 (funX hd hc.2 34 rfl).2
  obtain ⟨oc35, od35, kV35, dc35, pm35, an35, cd35, ct35, sl35, l35, c35, k35⟩ := DX.fun_ (d := D35) (funX hd hc.2 35 rfl).1 (funX hd hc.2 35 rfl).2
  obtain ⟨oc36, od36, kV36, dc36, pm36, an36, cd36, ct36, sl36, l36, c36, k36⟩ := DX.fun_ (d := D36) (funX hd hc.2 36 rfl).1 (funX hd hc.2 36 rfl).2
  obtain ⟨oc37, od37, kV37, dc37, pm37, an37, cd37, ct37, sl37, l37, c37, k37⟩ := DX.fun_ (d := D37) (funX hd hc.2 37 rfl).1 (funX hd hc.2 37 rfl).2
  obtain ⟨oc38, od38, kV38, dc38, pm38, an38, cd38, ct38, sl38, l38, c38, k38⟩ := DX.fun_ (d := D38) (funX hd hc.2 38 rfl).1 (funX hd hc.2 38 rfl).2
  obtain ⟨oc39, od39, kV39, dc39, pm39, an39, cd39, ct39, sl39, l39, c39, k39⟩ := DX.fun_ (d := D39) (funX hd hc.2 39 rfl).1 (funX hd hc.2 39 rfl).2
  obtain ⟨oc40, od40, kV40, dc40, pm40, an40, cd40, ct40, sl40, l40, c40, k40⟩ := DX.fun_ (d := D40) (funX hd hc.2 40 rfl).1 (funX hd hc.2 40 rfl).2
  obtain ⟨oc41, od41, kV41, dc41, pm41, an41, cd41, ct41, sl41, l41, c41, k41⟩ := DX.fun_ (d := D41) (funX hd hc.2 41 rfl).1 (funX hd hc.2 41 rfl).2
  obtain ⟨oc42, od42, kV42, dc42, pm42, an42, cd42, ct42, sl42, l42, c42, k42⟩ := DX.fun_ (d := D42) (funX hd hc.2 42 rfl).1 (funX hd hc.2 42 rfl).2
  obtain ⟨oc43, od43, kV43, dc43, pm43, an43, cd43, ct43, sl43, l43, c43, k43⟩ := DX.fun_ (d := D43) (funX hd hc.2 43 rfl).1 (funX hd hc.2 43 rfl).2
  obtain ⟨oc44, od44, kV44, dc44, pm44, an44, cd44, ct44, sl44, l44, c44, k44⟩ := DX.fun_ (d := D44) (funX hd hc.2 44 rfl).1 (funX hd hc.2 44 rfl).2
  obtain ⟨oc45, od45, kV45, dc45, pm45, an45, cd45, ct45, sl45, l45, c45, k45⟩ := DX.fun_ (d := D45) (funX hd hc.2 45 rfl).1 (funX hd hc.2 45 rfl).2
  obtain ⟨oc46, od46, kV46, dc46, pm46, an46, cd46, ct46, sl46, l46, c46, k46⟩ := DX.fun_ (d := D46) (funX hd hc.2 46 rfl).1 (funX hd hc.2 46 rfl).2
  obtain ⟨oc47, od47, kV47, dc47, pm47, an47, cd47, ct47, sl47, l47, c47, k47⟩ := DX.fun_ (d := D47) (funX hd hc.2 47 rfl).1 (funX hd hc.2 47 rfl).2
  obtain ⟨ocm0, odm0, kVm0, dcm0, pmm0, anm0, cdm0, ctm0, slm0, lm0, cm0, km0⟩ := DX.fun_ (d := Dm0) (funX hd hc.2 48 rfl).1 (funX hd hc.2 48 rfl).2
  obtain ⟨ocm1, odm1, kVm1, dcm1, pmm1, anm1, cdm1, ctm1, slm1, lm1, cm1, km1⟩ := DX.fun_ (d := Dm1) (funX hd hc.2 49 rfl).1 (funX hd hc.2 49 rfl).2
  obtain ⟨ocm2, odm2, kVm2, dcm2, pmm2, anm2, cdm2, ctm2, slm2, lm2, cm2, km2⟩ := DX.fun_ (d := Dm2) (funX hd hc.2 50 rfl).1 (funX hd hc.2 50 rfl).2
  obtain ⟨ocm3, odm3, kVm3, dcm3, pmm3, anm3, cdm3, ctm3, slm3, lm3, cm3, km3⟩ := DX.fun_ (d := Dm3) (funX hd hc.2 51 rfl).1 (funX hd hc.2 51 rfl).2
  obtain ⟨ocm4, odm4, kVm4, dcm4, pmm4, anm4, cdm4, ctm4, slm4, lm4, cm4, km4⟩ := DX.fun_ (d := Dm4) (funX hd hc.2 52 rfl).1 (funX hd hc.2 52 rfl).2
  obtain ⟨ocm5, odm5, kVm5, dcm5, pmm5, anm5, cdm5, ctm5, slm5, lm5, cm5, km5⟩ := DX.fun_ (d := Dm5) (funX hd hc.2 53 rfl).1 (funX hd hc.2 53 rfl).2
  obtain ⟨ocm6, odm6, kVm6, dcm6, pmm6, anm6, cdm6, ctm6, slm6, lm6, cm6, km6⟩ := DX.fun_ (d := Dm6) (funX hd hc.2 54 rfl).1 (funX hd hc.2 54 rfl).2
  obtain ⟨ocm7, odm7, kVm7, dcm7, pmm7, anm7, cdm7, ctm7, slm7, lm7, cm7, km7⟩ := DX.fun_ (d := Dm7) (funX hd hc.2 55 rfl).1 (funX hd hc.2 55 rfl).2
  obtain ⟨ocm8, odm8, kVm8, dcm8, pmm8, anm8, cdm8, ctm8, slm8, lm8, cm8, km8⟩ := DX.fun_ (d := Dm8) (funX hd hc.2 56 rfl).1 (funX hd hc.2 56 rfl).2
  obtain ⟨ocm9, odm9, kVm9, dcm9, pmm9, anm9, cdm9, ctm9, slm9, lm9, cm9, km9⟩ := DX.fun_ (d := Dm9) (funX hd hc.2 57 rfl).1 (funX hd hc.2 57 rfl).2
  obtain ⟨ocm10, odm10, kVm10, dcm10, pmm10, anm10, cdm10, ctm10, slm10, lm10, cm10, km10⟩ := DX.fun_ (d := Dm10) (funX hd hc.2 58 rfl).1 (funX hd hc.2 58 rfl).2
  obtain ⟨ocm11, odm11, kVm11, dcm11, pmm11, anm11, cdm11, ctm11, slm11, lm11, cm11, km11⟩ := DX.fun_ (d := Dm11) (funX hd hc.2 59 rfl).1 (funX hd hc.2 59 rfl).2
  obtain ⟨ocm12, odm12, kVm12, dcm12, pmm12, anm12, cdm12, ctm12, slm12, lm12, cm12, km12⟩ := DX.fun_ (d := Dm12) (funX hd hc.2 60 rfl).1 (funX hd hc.2 60 rfl).2
  obtain ⟨ocm13, odm13, kVm13, dcm13, pmm13, anm13, cdm13, ctm13, slm13, lm13, cm13, km13⟩ := DX.fun_ (d := Dm13) (funX hd hc.2 61 rfl).1 (funX hd hc.2 61 rfl).2
  obtain ⟨ocm14, odm14, kVm14, dcm14, pmm14, anm14, cdm14, ctm14, slm14, lm14, cm14, km14⟩ := DX.fun_ (d := Dm14) (funX hd hc.2 62 rfl).1 (funX hd hc.2 62 rfl).2
  obtain ⟨ocm15, odm15, kVm15, dcm15, pmm15, anm15, cdm15, ctm15, slm15, lm15, cm15, km15⟩ := DX.fun_ (d := Dm15) (funX hd hc.2 63 rfl).1 (funX hd hc.2 63 rfl).2
  obtain ⟨ocm16, odm16, kVm16, dcm16, pmm16, anm16, cdm16, ctm16, slm16, lm16, cm16, km16⟩ := DX.fun_ (d := Dm16) (funX hd hc.2 64 rfl).1 (funX hd hc.2 64 rfl).2
  obtain ⟨ocm17, odm17, kVm17, dcm17, pmm17, anm17, cdm17, ctm17, slm17, lm17, cm17, km17⟩ := DX.fun_ (d := Dm17) (funX hd hc.2 65 rfl).1 (funX hd hc.2 65 rfl).2
  obtain ⟨ocm18, odm18, kVm18, dcm18, pmm18, anm18, cdm18, ctm18, slm18, lm18, cm18, km18⟩ := DX.fun_ (d := Dm18) (funX hd hc.2 66 rfl).1 (funX hd hc.2 66 rfl).2
  obtain ⟨ocm19, odm19, kVm19, dcm19, pmm19, anm19, cdm19, ctm19, slm19, lm19, cm19, km19⟩ := DX.fun_ (d := Dm19) (funX hd hc.2 67 rfl).1 (funX hd hc.2 67 rfl).2
  obtain ⟨ocp0, odp0, kVp0, dcp0, pmp0, anp0, cdp0, ctp0, slp0, lp0, cp0, kp0⟩ := DX.fun_ (d := Dp0) (funX hd hc.2 68 rfl).1 (funX hd hc.2 68 rfl).2
  obtain ⟨ocp1, odp1, kVp1, dcp1, pmp1, anp1, cdp1, ctp1, slp1, lp1, cp1, kp1⟩ := DX.fun_ (d := Dp1) (funX hd hc.2 69 rfl).1 (funX hd hc.2 69 rfl).2
  obtain ⟨ocp2, odp2, kVp2, dcp2, pmp2, anp2, cdp2, ctp2, slp2, lp2, cp2, kp2⟩ := DX.fun_ (d := Dp2) (funX hd hc.2 70 rfl).1 (funX hd hc.2 70 rfl).2
  obtain ⟨ocp3, odp3, kVp3, dcp3, pmp3, anp3, cdp3, ctp3, slp3, lp3, cp3, kp3⟩ := DX.fun_ (d := Dp3) (funX hd hc.2 71 rfl).1 (funX hd hc.2 71 rfl).2
  have nS := noS_ok (allX hc.1 0)
  have a0 := He.eqO_ok (allX hc.1 1 (b := He.Fa.ok K (.glo "is_integer")))
  have a1 := He.eqO_ok (allX hc.1 2 (b := He.Fa.ok K (.glo "is_number")))
  have a2 := He.eqO_ok (allX hc.1 3 (b := He.Fa.ok K (.glo "is_name")))
  have a3 := He.eqO_ok (allX hc.1 4 (b := He.Fa.ok K (.glo "is_word")))
  have a4 := He.eqO_ok (allX hc.1 5 (b := He.Fa.ok K (.glo "is_mode")))
  have a5 := He.eqO_ok (allX hc.1 6 (b := He.Fa.ok K (.glo "is_arm")))
  have a6 := He.eqO_ok (allX hc.1 7 (b := He.Fa.ok K (.glo "is_row_of")))
  have a7 := He.eqO_ok (allX hc.1 8 (b := He.Fa.ok K (.glo "is_step")))
  have a8 := He.eqO_ok (allX hc.1 9 (b := He.Fa.ok K (.glo "state_behind")))
  have a9 := He.eqO_ok (allX hc.1 10 (b := He.Fa.ok K (.glo "replaced")))
  have a10 := He.eqO_ok (allX hc.1 11 (b := He.Fa.ok K (.glo "is_bound")))
  have a11 := He.eqO_ok (allX hc.1 12 (b := He.Fa.ok K (.glo "is_bounds")))
  have a12 := He.eqO_ok (allX hc.1 13 (b := He.Fa.ok K (.glo "is_place")))
  have a13 := He.eqO_ok (allX hc.1 14 (b := He.Fa.ok K (.glo "is_else")))
  have a14 := He.eqO_ok (allX hc.1 15 (b := He.Fa.ok K (.glo "check_lanes")))
  have a15 := He.eqO_ok (allX hc.1 16 (b := He.Fa.ok K (.glo "open_arms")))
  have a16 := He.eqO_ok (allX hc.1 17 (b := He.Fa.ok K (.glo "allowed")))
  have a17 := He.eqO_ok (allX hc.1 18 (b := He.Fa.ok K (.glo "allowed_at")))
  have a18 := He.eqO_ok (allX hc.1 19 (b := He.Fa.ok K (.glo "behind_arm")))
  have a19 := He.eqO_ok (allX hc.1 20 (b := He.Fa.ok K (.glo "is_kinds")))
  have a20 := He.eqO_ok (allX hc.1 21 (b := He.Fa.ok K (.glo "kinds_of")))
  have a21 := He.eqO_ok (allX hc.1 22 (b := He.Fa.ok K (.glo "needed")))
  have a22 := He.eqO_ok (allX hc.1 23 (b := He.Fa.ok K (.glo "_law_bag")))
  have a23 := He.eqO_ok (allX hc.1 24 (b := He.Fa.ok K (.glo "_law_take")))
  have a24 := He.eqO_ok (allX hc.1 25 (b := He.Fa.ok K (.glo "_law_alike")))
  have a25 := He.eqO_ok (allX hc.1 26 (b := He.Fa.ok K (.glo "_law_names")))
  have a26 := He.eqO_ok (allX hc.1 27 (b := He.Fa.ok K (.glo "_law_bounds")))
  have a27 := He.eqO_ok (allX hc.1 28 (b := He.Fa.ok K (.glo "_law_arm")))
  have a28 := He.eqO_ok (allX hc.1 29 (b := He.Fa.ok K (.glo "_law_program")))
  have a29 := He.eqO_ok (allX hc.1 30 (b := He.Fa.ok K (.glo "_law_model")))
  have a30 := He.eqO_ok (allX hc.1 31 (b := He.Fa.ok K (.glo "_law_made")))
  have a31 := He.eqO_ok (allX hc.1 32 (b := He.Fa.ok K (.glo "_law_opens")))
  have a32 := He.eqO_ok (allX hc.1 33 (b := He.Fa.ok K (.glo "_law_left")))
  have a33 := He.eqO_ok (allX hc.1 34 (b := He.Fa.ok K (.glo "_law_choices")))
  have a34 := He.eqO_ok (allX hc.1 35 (b := He.Fa.ok K (.glo "_law_seats")))
  have a35 := He.eqO_ok (allX hc.1 36 (b := He.Fa.ok K (.glo "_law_first")))
  have a36 := He.eqO_ok (allX hc.1 37 (b := He.Fa.ok K (.glo "_law_rows")))
  have a37 := He.eqO_ok (allX hc.1 38 (b := He.Fa.ok K (.glo "_law_steps")))
  have a38 := He.eqO_ok (allX hc.1 39 (b := He.Fa.ok K (.glo "_law_after")))
  have a39 := He.eqO_ok (allX hc.1 40 (b := He.Fa.ok K (.glo "_law_run")))
  have a40 := He.eqO_ok (allX hc.1 41 (b := He.Fa.ok K (.glo "_law_world")))
  have a41 := He.eqO_ok (allX hc.1 42 (b := He.Fa.ok K (.glo "_law_ends")))
  have a42 := He.eqO_ok (allX hc.1 43 (b := He.Fa.ok K (.glo "_law_out")))
  have a43 := He.eqO_ok (allX hc.1 44 (b := He.Fa.ok K (.glo "_law_needed")))
  have a44 := He.eqO_ok (allX hc.1 45 (b := He.Fa.ok K (.glo "_law_spoilt")))
  have a45 := He.eqO_ok (allX hc.1 46 (b := He.Fa.ok K (.glo "_law_due")))
  have a46 := He.eqO_ok (allX hc.1 47 (b := He.Fa.ok K (.glo "_law_heard")))
  have a47 := He.eqO_ok (allX hc.1 48 (b := He.Fa.ok K (.glo "law")))
  have aGC := He.eqO_ok (allX hc.1 49 (b := He.Fa.ok K (.glo "Lanes")))
  have aGCP := He.eqO_ok (allX hc.1 50 (b := He.Fa.ok K (.glo "Program")))
  have aGS := He.eqO_ok (allX hc.1 51 (b := He.Fa.ok K (.glo "System")))
  have aGSP := He.eqO_ok (allX hc.1 52 (b := He.Fa.ok K (.glo "Stopped")))
  have aGB := He.eqO_ok (allX hc.1 53 (b := He.Fa.ok K (.glo "LaneError")))
  have am0 := He.eqO_ok (allX hc.1 54 (b := He.eqO (PySem.W.findIn K (.ref (He.ga K "Lanes")) "__init__") (some (some (.ref (He.ma K (He.ga K "Lanes") "__init__"))))))
  have im0 := allX hc.1 55 (b := PySem.W.isFn K (.ref (He.ma K (He.ga K "Lanes") "__init__")))
  have am1 := He.eqO_ok (allX hc.1 56 (b := He.eqO (PySem.W.findIn K (.ref (He.ga K "Lanes")) "__contains__") (some (some (.ref (He.ma K (He.ga K "Lanes") "__contains__"))))))
  have im1 := allX hc.1 57 (b := PySem.W.isFn K (.ref (He.ma K (He.ga K "Lanes") "__contains__")))
  have am2 := He.eqO_ok (allX hc.1 58 (b := He.eqO (PySem.W.findIn K (.ref (He.ga K "Lanes")) "_spot") (some (some (.ref (He.ma K (He.ga K "Lanes") "_spot"))))))
  have im2 := allX hc.1 59 (b := PySem.W.isFn K (.ref (He.ma K (He.ga K "Lanes") "_spot")))
  have am3 := He.eqO_ok (allX hc.1 60 (b := He.eqO (PySem.W.findIn K (.ref (He.ga K "Lanes")) "_behind") (some (some (.ref (He.ma K (He.ga K "Lanes") "_behind"))))))
  have im3 := allX hc.1 61 (b := PySem.W.isFn K (.ref (He.ma K (He.ga K "Lanes") "_behind")))
  have am4 := He.eqO_ok (allX hc.1 62 (b := He.eqO (PySem.W.findIn K (.ref (He.ga K "Lanes")) "is_open") (some (some (.ref (He.ma K (He.ga K "Lanes") "is_open"))))))
  have im4 := allX hc.1 63 (b := PySem.W.isFn K (.ref (He.ma K (He.ga K "Lanes") "is_open")))
  have am5 := He.eqO_ok (allX hc.1 64 (b := He.eqO (PySem.W.findIn K (.ref (He.ga K "Lanes")) "done") (some (some (.ref (He.ma K (He.ga K "Lanes") "done"))))))
  have im5 := allX hc.1 65 (b := PySem.W.isFn K (.ref (He.ma K (He.ga K "Lanes") "done")))
  have am6 := He.eqO_ok (allX hc.1 66 (b := He.eqO (PySem.W.findIn K (.ref (He.ga K "Program")) "__init__") (some (some (.ref (He.ma K (He.ga K "Program") "__init__"))))))
  have im6 := allX hc.1 67 (b := PySem.W.isFn K (.ref (He.ma K (He.ga K "Program") "__init__")))
  have am7 := He.eqO_ok (allX hc.1 68 (b := He.eqO (PySem.W.findIn K (.ref (He.ga K "Program")) "_check") (some (some (.ref (He.ma K (He.ga K "Program") "_check"))))))
  have im7 := allX hc.1 69 (b := PySem.W.isFn K (.ref (He.ma K (He.ga K "Program") "_check")))
  have am8 := He.eqO_ok (allX hc.1 70 (b := He.eqO (PySem.W.findIn K (.ref (He.ga K "Program")) "_place") (some (some (.ref (He.ma K (He.ga K "Program") "_place"))))))
  have im8 := allX hc.1 71 (b := PySem.W.isFn K (.ref (He.ma K (He.ga K "Program") "_place")))
  have am9 := He.eqO_ok (allX hc.1 72 (b := He.eqO (PySem.W.findIn K (.ref (He.ga K "Program")) "mode") (some (some (.ref (He.ma K (He.ga K "Program") "mode"))))))
  have im9 := allX hc.1 73 (b := PySem.W.isFn K (.ref (He.ma K (He.ga K "Program") "mode")))
  have am10 := He.eqO_ok (allX hc.1 74 (b := He.eqO (PySem.W.findIn K (.ref (He.ga K "Program")) "arms") (some (some (.ref (He.ma K (He.ga K "Program") "arms"))))))
  have im10 := allX hc.1 75 (b := PySem.W.isFn K (.ref (He.ma K (He.ga K "Program") "arms")))
  have am11 := He.eqO_ok (allX hc.1 76 (b := He.eqO (PySem.W.findIn K (.ref (He.ga K "Program")) "used") (some (some (.ref (He.ma K (He.ga K "Program") "used"))))))
  have im11 := allX hc.1 77 (b := PySem.W.isFn K (.ref (He.ma K (He.ga K "Program") "used")))
  have am12 := He.eqO_ok (allX hc.1 78 (b := He.eqO (PySem.W.findIn K (.ref (He.ga K "System")) "__init__") (some (some (.ref (He.ma K (He.ga K "System") "__init__"))))))
  have im12 := allX hc.1 79 (b := PySem.W.isFn K (.ref (He.ma K (He.ga K "System") "__init__")))
  have am13 := He.eqO_ok (allX hc.1 80 (b := He.eqO (PySem.W.findIn K (.ref (He.ga K "System")) "kinds") (some (some (.ref (He.ma K (He.ga K "System") "kinds"))))))
  have im13 := allX hc.1 81 (b := PySem.W.isFn K (.ref (He.ma K (He.ga K "System") "kinds")))
  have am14 := He.eqO_ok (allX hc.1 82 (b := He.eqO (PySem.W.findIn K (.ref (He.ga K "System")) "program") (some (some (.ref (He.ma K (He.ga K "System") "program"))))))
  have im14 := allX hc.1 83 (b := PySem.W.isFn K (.ref (He.ma K (He.ga K "System") "program")))
  have am15 := He.eqO_ok (allX hc.1 84 (b := He.eqO (PySem.W.findIn K (.ref (He.ga K "System")) "_is_there") (some (some (.ref (He.ma K (He.ga K "System") "_is_there"))))))
  have im15 := allX hc.1 85 (b := PySem.W.isFn K (.ref (He.ma K (He.ga K "System") "_is_there")))
  have am16 := He.eqO_ok (allX hc.1 86 (b := He.eqO (PySem.W.findIn K (.ref (He.ga K "System")) "_recounted") (some (some (.ref (He.ma K (He.ga K "System") "_recounted"))))))
  have im16 := allX hc.1 87 (b := PySem.W.isFn K (.ref (He.ma K (He.ga K "System") "_recounted")))
  have am17 := He.eqO_ok (allX hc.1 88 (b := He.eqO (PySem.W.findIn K (.ref (He.ga K "System")) "_behind") (some (some (.ref (He.ma K (He.ga K "System") "_behind"))))))
  have im17 := allX hc.1 89 (b := PySem.W.isFn K (.ref (He.ma K (He.ga K "System") "_behind")))
  have am18 := He.eqO_ok (allX hc.1 90 (b := He.eqO (PySem.W.findIn K (.ref (He.ga K "System")) "run") (some (some (.ref (He.ma K (He.ga K "System") "run"))))))
  have im18 := allX hc.1 91 (b := PySem.W.isFn K (.ref (He.ma K (He.ga K "System") "run")))
  have am19 := He.eqO_ok (allX hc.1 92 (b := He.eqO (PySem.W.findIn K (.ref (He.ga K "Stopped")) "__init__") (some (some (.ref (He.ma K (He.ga K "Stopped") "__init__"))))))
  have im19 := of_decide_eq_true (allX hc.1 93 (b := decide (PySem.W.typeIn K (.ref (He.ma K (He.ga K "Stopped") "__init__")) = some (.type "function"))))
  have aF0 := He.eqO_ok (allX hc.1 94 (b := He.eqO (PySem.W.findIn K (.ref (He.ga K "Program")) "size") (some (some (.ref (He.ma K (He.ga K "Program") "size"))))))
  have gF0 := He.eqO_ok (allX hc.1 95 (b := He.eqO (PySem.W.specialIn K (.ref (He.ma K (He.ga K "Program") "size")) "__get__") (some (some (.builtin "property.__get__")))))
  have tF0 := decO_ok (allX hc.1 96 (b := decO (PySem.W.takesIn K (.ref (He.ma K (He.ga K "Program") "size"))) (some true)))
  obtain ⟨rest0, rF0⟩ := prB_ok (allX hc.1 97 (b := prB K (He.ma K (He.ga K "Program") "size")))
  have aF1 := He.eqO_ok (allX hc.1 98 (b := He.eqO (PySem.W.findIn K (.ref (He.ga K "Lanes")) "first") (some (some (.ref (He.ma K (He.ga K "Lanes") "first"))))))
  have gF1 := He.eqO_ok (allX hc.1 99 (b := He.eqO (PySem.W.specialIn K (.ref (He.ma K (He.ga K "Lanes") "first")) "__get__") (some (some (.builtin "property.__get__")))))
  have tF1 := decO_ok (allX hc.1 100 (b := decO (PySem.W.takesIn K (.ref (He.ma K (He.ga K "Lanes") "first"))) (some true)))
  obtain ⟨rest1, rF1⟩ := prB_ok (allX hc.1 101 (b := prB K (He.ma K (He.ga K "Lanes") "first")))
  have aF2 := He.eqO_ok (allX hc.1 102 (b := He.eqO (PySem.W.findIn K (.ref (He.ga K "System")) "first") (some (some (.ref (He.ma K (He.ga K "System") "first"))))))
  have gF2 := He.eqO_ok (allX hc.1 103 (b := He.eqO (PySem.W.specialIn K (.ref (He.ma K (He.ga K "System") "first")) "__get__") (some (some (.builtin "property.__get__")))))
  have tF2 := decO_ok (allX hc.1 104 (b := decO (PySem.W.takesIn K (.ref (He.ma K (He.ga K "System") "first"))) (some true)))
  obtain ⟨rest2, rF2⟩ := prB_ok (allX hc.1 105 (b := prB K (He.ma K (He.ga K "System") "first")))
  have aF3 := He.eqO_ok (allX hc.1 106 (b := He.eqO (PySem.W.findIn K (.ref (He.ga K "System")) "seats") (some (some (.ref (He.ma K (He.ga K "System") "seats"))))))
  have gF3 := He.eqO_ok (allX hc.1 107 (b := He.eqO (PySem.W.specialIn K (.ref (He.ma K (He.ga K "System") "seats")) "__get__") (some (some (.builtin "property.__get__")))))
  have tF3 := decO_ok (allX hc.1 108 (b := decO (PySem.W.takesIn K (.ref (He.ma K (He.ga K "System") "seats"))) (some true)))
  obtain ⟨rest3, rF3⟩ := prB_ok (allX hc.1 109 (b := prB K (He.ma K (He.ga K "System") "seats")))
  have pgC := allX hc.1 110 (b := PySem.W.plainGet K (He.ga K "Lanes") Str.empty)
  have hdC := allX hc.1 111 (b := PySem.W.hasDictIn K (He.ga K "Lanes"))
  have poC := allX hc.1 112 (b := PySem.W.plainOver K (He.ga K "Lanes"))
  have mkC := allX hc.1 113 (b := PySem.W.makesIn K (He.ga K "Lanes"))
  have kcC := allX hc.1 114 (b := PySem.W.keepIn K (.ref (He.ga K "Lanes")))
  have saC := He.eqO_ok (allX hc.1 115 (b := He.eqO (PySem.W.findIn K (.ref (He.ga K "Lanes")) "__setattr__") (some (some (.builtin "object.__setattr__")))))
  have iCaC := He.eqO_ok (allX hc.1 116 (b := He.eqO (PySem.W.findIn K (.ref (He.ga K "Lanes")) "__class__") (some (some (.builtin "object.__class__")))))
  have nfC_names := He.eqO_ok (allX hc.1 117 (b := He.eqO (PySem.W.findIn K (.ref (He.ga K "Lanes")) "_names") (some none)))
  have nfC_bounds := He.eqO_ok (allX hc.1 118 (b := He.eqO (PySem.W.findIn K (.ref (He.ga K "Lanes")) "_bounds") (some none)))
  have nfC_spots := He.eqO_ok (allX hc.1 119 (b := He.eqO (PySem.W.findIn K (.ref (He.ga K "Lanes")) "_spots") (some none)))
  have iCmC := decO_ok (allX hc.1 120 (b := decO (PySem.W.mroIn K (He.ga K "Lanes") (.type "object")) (some true)))
  have iCcC := decO_ok (allX hc.1 121 (b := decO (PySem.W.kitOne K (.ref (He.ga K "Lanes")) (.ref (He.ga K "Lanes"))) (some true)))
  have pgCP := allX hc.1 122 (b := PySem.W.plainGet K (He.ga K "Program") Str.empty)
  have hdCP := allX hc.1 123 (b := PySem.W.hasDictIn K (He.ga K "Program"))
  have poCP := allX hc.1 124 (b := PySem.W.plainOver K (He.ga K "Program"))
  have mkCP := allX hc.1 125 (b := PySem.W.makesIn K (He.ga K "Program"))
  have kcCP := allX hc.1 126 (b := PySem.W.keepIn K (.ref (He.ga K "Program")))
  have saCP := He.eqO_ok (allX hc.1 127 (b := He.eqO (PySem.W.findIn K (.ref (He.ga K "Program")) "__setattr__") (some (some (.builtin "object.__setattr__")))))
  have iCaCP := He.eqO_ok (allX hc.1 128 (b := He.eqO (PySem.W.findIn K (.ref (He.ga K "Program")) "__class__") (some (some (.builtin "object.__class__")))))
  have nfCP_places := He.eqO_ok (allX hc.1 129 (b := He.eqO (PySem.W.findIn K (.ref (He.ga K "Program")) "_places") (some none)))
  have nfCP_used := He.eqO_ok (allX hc.1 130 (b := He.eqO (PySem.W.findIn K (.ref (He.ga K "Program")) "_used") (some none)))
  have iCmCP := decO_ok (allX hc.1 131 (b := decO (PySem.W.mroIn K (He.ga K "Program") (.type "object")) (some true)))
  have iCcCP := decO_ok (allX hc.1 132 (b := decO (PySem.W.kitOne K (.ref (He.ga K "Program")) (.ref (He.ga K "Program"))) (some true)))
  have pgS := allX hc.1 133 (b := PySem.W.plainGet K (He.ga K "System") Str.empty)
  have hdS := allX hc.1 134 (b := PySem.W.hasDictIn K (He.ga K "System"))
  have poS := allX hc.1 135 (b := PySem.W.plainOver K (He.ga K "System"))
  have mkS := allX hc.1 136 (b := PySem.W.makesIn K (He.ga K "System"))
  have kcS := allX hc.1 137 (b := PySem.W.keepIn K (.ref (He.ga K "System")))
  have saS := He.eqO_ok (allX hc.1 138 (b := He.eqO (PySem.W.findIn K (.ref (He.ga K "System")) "__setattr__") (some (some (.builtin "object.__setattr__")))))
  have iCaS := He.eqO_ok (allX hc.1 139 (b := He.eqO (PySem.W.findIn K (.ref (He.ga K "System")) "__class__") (some (some (.builtin "object.__class__")))))
  have nfS_lanes := He.eqO_ok (allX hc.1 140 (b := He.eqO (PySem.W.findIn K (.ref (He.ga K "System")) "_lanes") (some none)))
  have nfS_server := He.eqO_ok (allX hc.1 141 (b := He.eqO (PySem.W.findIn K (.ref (He.ga K "System")) "_server") (some none)))
  have nfS_kinds := He.eqO_ok (allX hc.1 142 (b := He.eqO (PySem.W.findIn K (.ref (He.ga K "System")) "_kinds") (some none)))
  have nfS_seats := He.eqO_ok (allX hc.1 143 (b := He.eqO (PySem.W.findIn K (.ref (He.ga K "System")) "_seats") (some none)))
  have nfS_spots := He.eqO_ok (allX hc.1 144 (b := He.eqO (PySem.W.findIn K (.ref (He.ga K "System")) "_spots") (some none)))
  have iCmS := decO_ok (allX hc.1 145 (b := decO (PySem.W.mroIn K (He.ga K "System") (.type "object")) (some true)))
  have iCcS := decO_ok (allX hc.1 146 (b := decO (PySem.W.kitOne K (.ref (He.ga K "System")) (.ref (He.ga K "System"))) (some true)))
  obtain ⟨nmSP, qSP, NSP, bsSP, bmSP, snSP, subSP, abSP, colSP, ddSP, m0SP, m1SP, m2SP, m3SP, m5SP, xSP, vSP⟩ := xcB_ok (allX hc.1 147 (b := xcB K (He.ga K "Stopped")))
  have saSP := He.eqO_ok (allX hc.1 148 (b := He.eqO (PySem.W.findIn K (.ref (He.ga K "Stopped")) "__setattr__") (some (some (.builtin "object.__setattr__")))))
  have gaSP := He.eqO_ok (allX hc.1 149 (b := He.eqO (PySem.W.findIn K (.ref (He.ga K "Stopped")) "__getattribute__") (some (some (.builtin "BaseException.__getattribute__")))))
  have clSP := He.eqO_ok (allX hc.1 150 (b := He.eqO (PySem.W.findIn K (.ref (He.ga K "Stopped")) "__class__") (some (some (.builtin "object.__class__")))))
  have ggSP := He.eqO_ok (allX hc.1 151 (b := He.eqO (PySem.W.findIn K (.ref (He.ga K "Stopped")) "__getattr__") (some none)))
  have nfSPindex := He.eqO_ok (allX hc.1 152 (b := He.eqO (PySem.W.findIn K (.ref (He.ga K "Stopped")) "index") (some none)))
  have exSP := of_decide_eq_true (allX hc.1 153 (b := decide (PySem.W.subIn K (.ref (He.ga K "Stopped")) (.type "BaseException") = some true)))
  have tySP := of_decide_eq_true (allX hc.1 154 (b := decide (PySem.W.typeIn K (.ref (He.ga K "Stopped")) = some (.type "type"))))
  have moSP := of_decide_eq_true (allX hc.1 155 (b := decide (PySem.W.mroIn K (He.ga K "Stopped") (.type "object") = some true)))
  have sBSP := of_decide_eq_true (allX hc.1 156 (b := decide (PySem.W.subIn K (.ref (He.ga K "Stopped")) (.ref (He.ga K "LaneError")) = some true)))
  have kSP := allX hc.1 157 (b := PySem.W.keepIn K (.ref (He.ga K "Stopped")))
  have hdSP := allX hc.1 158 (b := PySem.W.hasDictIn K (He.ga K "Stopped"))
  have exB := of_decide_eq_true (allX hc.1 159 (b := decide (PySem.W.subIn K (.ref (He.ga K "LaneError")) (.type "BaseException") = some true)))
  have hdB := allX hc.1 160 (b := PySem.W.hasDictIn K (He.ga K "LaneError"))
  have tyB := of_decide_eq_true (allX hc.1 161 (b := decide (PySem.W.typeIn K (.ref (He.ga K "LaneError")) = some (.type "type"))))
  have kitSP := of_decide_eq_true (allX hc.1 162 (b := decide (PySem.W.kitOne K (.ref (He.ga K "Stopped")) (.ref (He.ga K "Stopped")) = some true)))
  have ocg := He.eqO_ok (allX hc.1 163 (b := He.eqO (PySem.W.specialIn K (.builtin "object.__class__") "__get__") (some (some (.builtin "getset_descriptor.__get__")))))
  have oct := decO_ok (allX hc.1 164 (b := decO (PySem.W.takesIn K (.builtin "object.__class__")) (some true)))
  obtain ⟨tl0, gLet⟩ := strB_ok (allX hc.1 165 (b := strB K "LETTERS" abc))
  obtain ⟨tn0, gLong⟩ := intB_ok (allX hc.1 166 (b := intB K "LONGEST" 8))
  have gW := He.eqO_ok (allX hc.1 167 (b := He.Fa.ok K (.glo "WORDS")))
  have gM := He.eqO_ok (allX hc.1 168 (b := He.Fa.ok K (.glo "MODES")))
  obtain ⟨odW, tsW, nW, slW, zW, lW0⟩ := tupX_ok (allX hc.1 169 (b := tupX K (He.ga K "WORDS") ["close", "ended", "send", "take"]))
  obtain ⟨t1, t2, t3, t4, rfl⟩ : ∃ a b c d, tsW = [a, b, c, d] := by match tsW, zW with | [a, b, c, d], _ => exact ⟨a, b, c, d, rfl⟩
  obtain ⟨odM, tsM, nM, slM, zM, lM0⟩ := tupX_ok (allX hc.1 170 (b := tupX K (He.ga K "MODES") ["any", "first"]))
  obtain ⟨t5, t6, rfl⟩ : ∃ a b, tsM = [a, b] := by match tsM, zM with | [a, b], _ => exact ⟨a, b, rfl⟩
  have z_len := He.eqO_ok (allX hc.1 171 (b := He.Fa.ok K (.free "len")))
  have z_int := He.eqO_ok (allX hc.1 172 (b := He.Fa.ok K (.free "int")))
  have z_abs := He.eqO_ok (allX hc.1 173 (b := He.Fa.ok K (.free "abs")))
  have z_range := He.eqO_ok (allX hc.1 174 (b := He.Fa.ok K (.free "range")))
  have z_repr := He.eqO_ok (allX hc.1 175 (b := He.Fa.ok K (.free "repr")))
  have z_isinstance := He.eqO_ok (allX hc.1 176 (b := He.Fa.ok K (.free "isinstance")))
  have z_all := He.eqO_ok (allX hc.1 177 (b := He.Fa.ok K (.free "all")))
  have z_tuple := He.eqO_ok (allX hc.1 178 (b := He.Fa.ok K (.free "tuple")))
  have z_list := He.eqO_ok (allX hc.1 179 (b := He.Fa.ok K (.free "list")))
  have z_str := He.eqO_ok (allX hc.1 180 (b := He.Fa.ok K (.free "str")))
  have z_bool := He.eqO_ok (allX hc.1 181 (b := He.Fa.ok K (.free "bool")))
  have z_dict := He.eqO_ok (allX hc.1 182 (b := He.Fa.ok K (.free "dict")))
  have z_sorted := He.eqO_ok (allX hc.1 183 (b := He.Fa.ok K (.free "sorted")))
  have z_enumerate := He.eqO_ok (allX hc.1 184 (b := He.Fa.ok K (.free "enumerate")))
  have z_zip := He.eqO_ok (allX hc.1 185 (b := He.Fa.ok K (.free "zip")))
  have z_max := He.eqO_ok (allX hc.1 186 (b := He.Fa.ok K (.free "max")))
  have z_sum := He.eqO_ok (allX hc.1 187 (b := He.Fa.ok K (.free "sum")))
  have lW : K.lookup (He.ga K "WORDS") = some ⟨.type "tuple", odW, .seq #[.str "close" t1, .str "ended" t2, .str "send" t3, .str "take" t4] nW, slW⟩ := lW0
  have lM : K.lookup (He.ga K "MODES") = some ⟨.type "tuple", odM, .seq #[.str "any" t5, .str "first" t6] nM, slM⟩ := lM0
  exact ⟨nS, all_mk X G hfa a0 l0 c0 k0 a1 l1 c1 k1 a2 l2 c2 k2 a3 l3 c3 k3 a4 l4 c4 k4 a5 l5 c5 k5 a6 l6 c6 k6 a7 l7 c7 k7 a8 l8 c8 k8 a9 l9 c9 k9 a10 l10 c10 k10 a11 l11 c11 k11 a12 l12 c12 k12 a13 l13 c13 k13 a14 l14 c14 k14 a15 l15 c15 k15 a16 l16 c16 k16 a17 l17 c17 k17 a18 l18 c18 k18 a19 l19 c19 k19 a20 l20 c20 k20 a21 l21 c21 k21 a22 l22 c22 k22 a23 l23 c23 k23 a24 l24 c24 k24 a25 l25 c25 k25 a26 l26 c26 k26 a27 l27 c27 k27 a28 l28 c28 k28 a29 l29 c29 k29 a30 l30 c30 k30 a31 l31 c31 k31 a32 l32 c32 k32 a33 l33 c33 k33 a34 l34 c34 k34 a35 l35 c35 k35 a36 l36 c36 k36 a37 l37 c37 k37 a38 l38 c38 k38 a39 l39 c39 k39 a40 l40 c40 k40 a41 l41 c41 k41 a42 l42 c42 k42 a43 l43 c43 k43 a44 l44 c44 k44 a45 l45 c45 k45 a46 l46 c46 k46 a47 l47 c47 k47 aGC aGCP aGS aGSP aGB am0 im0 lm0 cm0 km0 am1 im1 lm1 cm1 km1 am2 im2 lm2 cm2 km2 am3 im3 lm3 cm3 km3 am4 im4 lm4 cm4 km4 am5 im5 lm5 cm5 km5 am6 im6 lm6 cm6 km6 am7 im7 lm7 cm7 km7 am8 im8 lm8 cm8 km8 am9 im9 lm9 cm9 km9 am10 im10 lm10 cm10 km10 am11 im11 lm11 cm11 km11 am12 im12 lm12 cm12 km12 am13 im13 lm13 cm13 km13 am14 im14 lm14 cm14 km14 am15 im15 lm15 cm15 km15 am16 im16 lm16 cm16 km16 am17 im17 lm17 cm17 km17 am18 im18 lm18 cm18 km18 am19 im19 lm19 cm19 km19 aF0 gF0 tF0 rF0 lp0 cp0 kp0 aF1 gF1 tF1 rF1 lp1 cp1 kp1 aF2 gF2 tF2 rF2 lp2 cp2 kp2 aF3 gF3 tF3 rF3 lp3 cp3 kp3 pgC hdC poC saC mkC kcC nfC_names nfC_bounds nfC_spots iCaC iCmC iCcC pgCP hdCP poCP saCP mkCP kcCP nfCP_places nfCP_used iCaCP iCmCP iCcCP pgS hdS poS saS mkS kcS nfS_lanes nfS_server nfS_kinds nfS_seats nfS_spots iCaS iCmS iCcS ocg oct xSP vSP saSP exSP tySP kSP gaSP ggSP hdSP clSP moSP sBSP nfSPindex exB hdB tyB kitSP gLet gLong gW gM lW lM z_len z_int z_abs z_range z_repr z_isinstance z_all z_tuple z_list z_str z_bool z_dict z_sorted z_enumerate z_zip z_max z_sum⟩
end K41
open PySem PySem.W PyProof.Rows
set_option maxRecDepth 100000 in
set_option maxHeartbeats 0 in
theorem PySem.Challenge.cw_openlanes_k41_crowds_needed_holds : PySem.Challenge.rw_openlanes_k41_crowds_needed.Holds := by
  w_on; o_law
  refine HandSHeadRun.head_any (r := (OpenLaw.row PySem.Challenge.rw_openlanes_k41_crowds_needed)) (q := view (OpenLaw.row PySem.Challenge.rw_openlanes_k41_crowds_needed).prog [74]) (H := K41.hk) (ob := K41.ob) (M := 20000) (loose := K41.loose) (d := HandSHeadRun.topDef (OpenLaw.row PySem.Challenge.rw_openlanes_k41_crowds_needed).prog 74) (kwd := []) K41.ob_eq
    (by kernel_rfl) (fun s => by kernel_rfl) K41.run (by kernel_rfl) (by kernel_rfl) (by kernel_rfl) (by rfl) (by first | assumption | decide +kernel) (by decide +kernel) ⟨rfl, rfl, rfl, rfl, rfl, by decide +kernel⟩ ?hw ?hc
  case hw => w_witness2
  case hc =>
    refine Ol.walkGE (l := PySem.Challenge.rw_openlanes_k41_crowds_needed) (n := 63) (k := 12) (x := "_law_script") rfl (by rfl) (by decide) (by kernel_rfl) ⟨rfl, by decide, by decide⟩ ?F
    intro w mg fa h Y G hmg0
    obtain ⟨K, KX, hd, hc⟩ := Y
    have hmg : mg ("law" : PySem.Str) = some (.ref fa) := by
      have e : (HandSHeadRun.topDef (OpenLaw.row PySem.Challenge.rw_openlanes_k41_crowds_needed).prog 74).name = ("law" : PySem.Str) := by kernel_rfl
      rw [← e]
      exact hmg0
    obtain ⟨nS, fd, hb, hF⟩ := K41.facts (l := PySem.Challenge.rw_openlanes_k41_crowds_needed) (w := w) KX G hmg hd hc
    exact ⟨K, fd, K41.spLaw K, KX, nS, hb, fun H a ns hl hS hL => ⟨a, ns, rfl, hS, hL, hl, fun _ => rfl⟩, hF⟩

