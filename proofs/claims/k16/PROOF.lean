import PyProof.Rows.All
import Wide.All
import OpenK.AllK
import Wide.FinOn
import HandS.ForMost
import HandS.IsInst
import PyProof.ReprRoads
import HandS.Walk
import HandS.Text
import PyProof.StrOps2
import PyProof.ReprText
import HandS.Style
import HandS.More
import HandS.WordsDict
import HandS.TupAny
import KE.GoesMore
import HandS.Iter
import HandS.DictComp
import HandS.Property
import HandS.TupMul
import HandS.ExcInit
import HandS.ExcField
import HandS.WordsExc
import HandS.ExcOwn
import HandS.TryOnly
import HandS.Zip
import HandS.Deep
import HandS.ExcIs
import KE.KExcIs
import HandS.Comp
import HandS.HotCalls
import HandS.ExcCtx
import PyProof.NeData
import HandS.ExcValueHot
import PySem.Challenge.RW_openlanes_k16_errors_kept
set_option Elab.async false
set_option linter.all false
set_option maxRecDepth 100000
set_option maxHeartbeats 4000000
/-! Own rules: defs that may show data (no display is under way), and the law's end for them. -/
namespace Ol
open PySem PySem.Spec PyProof.Rows L2

/-- a def's promise where no display is under way -/
structure FnG (P : Program) (w : World) (K : PySem.W.Frag)
    (mg : Str → Option Value) (base : Heap) (k : Nat)
    (f : Addr) (fd : FuncData) (ps : List Str) (sp : Sp) : Prop where
  len : ∀ vs H Q E, sp vs H Q E → vs.length = ps.length
  go : ∀ (A : Around) (outer : List Env) (s : Shared) (H : Hp)
    (args : Args) (us : List Value) (vs : List V) (Q : VK) (E : XK),
    A.guards = some [] → Room k A → Env0 P w K mg base A outer s H →
    BindsTo s fd args (ps.zip us) → Vals vs us → sp vs H Q E →
    codeAny (model P w) A (.call (.ref f) args)
      (CR CX0 outer P w H s Q E) s

section
variable {P : Program} {w : World} {K : PySem.W.Frag}
  {mg : Str → Option Value} {base : Heap} {k : Nat}

theorem FnG.of {f : Addr} {fd : FuncData} {ps : List Str} {sp : Sp}
    (F : FnOk P w K mg base CX0 k f fd ps sp) : FnG P w K mg base k f fd ps sp :=
  ⟨F.len, fun A o s H as us vs Q E _ r => F.run A o s H as us vs Q E r⟩

/-- the rule for a def, its body's context has no display under way -/
theorem okG {x qual : Str} {st : Stmt} {f : Addr} {fd : FuncData}
    {N ps : List Str} {sp : Sp} (F : Fun K x qual st f fd)
    (S : FnScope N ps (defScope st))
    (len : ∀ vs H Q E, sp vs H Q E → vs.length = ps.length)
    (body : ∀ (cdv : Value) (A : Around) (outer : List Env) (s : Shared)
      (H : Hp) (vs : List V) (Q : VK) (E : XK),
      (A.deeper (envOfC qual (defScope st) s.heap.objs.size f cdv)).guards = some [] →
      Room k (A.deeper (envOfC qual (defScope st) s.heap.objs.size f cdv)) →
      sp vs H Q E → ∃ t,
        PSs (cxOf CX0 P w K mg base N qual (defScope st) f cdv A outer s H E).nox
          (defBody st) t ∧
        t { nx := fun _ H' => Q .non H', rt := Q } (start N vs) H) :
    FnG P w K mg base (k + 1) f fd ps sp := by
  obtain ⟨oc, od, kV, doc, pm, an, cdv, ct, osl, rfl, lk, hcd⟩ := F.ex
  refine ⟨len, ?_⟩
  intro A outer s H args us vs Q E hG room e0 hb rv hsp
  have hlen := len _ _ _ _ hsp
  have kin : K.In s.heap :=
    e0.mod.kin.keeps (fun b o e => (e0.bs b o e).1)
  have nol : s.heap.NoLimit :=
    e0.mod.nolimit.keeps (fun b o e => (e0.bs b o e).1)
  have kinds : ∀ y ∈ ps.zip us,
      (defScope st).names.lookup y.1 = some .local ∨
      ((defScope st).names.lookup y.1 = some .cell ∧
        ((cellsFrom (s.heap.objs.size + 1) (defScope st).names []).lookup y.1).isSome = true) := by
    rintro ⟨n, v⟩ hy
    cases S.par n (List.of_mem_zip hy).1 with
    | inl q => exact Or.inl q
    | inr q => exact Or.inr ⟨q, PySem.W.cellsFrom_some _ _ _ (Or.inl q)⟩
  refine codeAny_call_function room.depth (kin _ _ lk) rfl S.co S.gen rfl
    (PySem.W.codeRec_of kin hcd) (hb _ _ _ _ ?_)
  refine wpAny_newFunctionEnv_cells S.kind kinds ?_
  intro env he s1 x
  subst he
  refine ⟨nol.keeps x.toInCall.keep, codeAny_func ?_⟩
  have hG' : (A.deeper (envOfC qual (defScope st) s.heap.objs.size f cdv)).guards = some [] := by
    exact hG
  obtain ⟨t, ht0, hq⟩ := body cdv A outer s H vs Q E hG' (room.deeper _) hsp
  have ht := ht0.nox
  have I := inv_start (CX := CX0) (E := E) S room.hd e0 hlen rv x
  have out : ∀ {σ' : L2.St} {H' : Hp} {v : V} {u : Value} {s' : Shared},
      Inv (cxOf CX0 P w K mg base N qual (defScope st) f cdv A outer s H E) [] σ' H' s' →
      RelV v u → Q v H' → CE outer P w H s Q u s' :=
    fun J r q => ⟨_, _, J.os, J.bare, J.base, J.hok, r, q⟩
  refine wpAny_mono (ht.run [] s1 (start N vs) H _ I hq) ?_ (fun _ _ z => z)
  intro fl s' hs
  cases fl with
  | next =>
    obtain ⟨_, _, J, q⟩ := hs
    exact out (v := V.non) (u := Value.none) J rfl q
  | ret u =>
    obtain ⟨_, _, _, J, r, q⟩ := hs
    exact out J r q
  | brk => exact hs.choose_spec.choose_spec.2.elim
  | cont => exact hs.choose_spec.choose_spec.2.elim
end

section
variable {X : Cx} {k : Nat} {f : Addr} {fd : FuncData} {ps : List Str}
  {sp : Sp} {E : XK} {x : Str} {e : Expr} {es : List Expr} {t : TA}
  {p pos : Pos} {ds : List Value} {dvs : List V}
/-- f(..) of such a def -/
theorem pe_callG (F : FnG X.prog X.w X.K X.mg X.base k f fd ps sp)
    (hG : X.A.guards = some []) (hr : Room k X.A) (hg : Gl X x)
    (hm : X.mg x = some (.ref f)) (hk : PySem.W.keepIn X.K (.ref f) = true)
    (hb : Binds X.K fd ps []) (ha : PA X (e :: es) t)
    (hdb : (x == ("__debug__" : Str)) = false := by decide)
    (he : starEach (e :: es) X.env = (false, eval e X.env) :: starEach es X.env := by rfl)
    (hpl : (backTo pos (starEach es X.env)).any (·.1) = false := by rfl) :
    PE X (.Call (.Name x p) (e :: es) [] pos) (tCall sp [] E0 t) := by
  constructor
  intro pins s σ H Q I h
  apply wpAny_Call_Name_kw
  apply ld_glob I hg hm (hd := hdb)
  refine PySem.W.callWith_K (h₀ := X.base) I.ok.mod.kin hk ?_ he hpl
  refine thn (ha.run pos pins s σ H _ I h) ?_
  rintro us s1 ⟨vs, H1, I1, r, q⟩
  refine ⟨I1.kIn, ?_⟩
  have q' : sp vs H1 Q E0 := by
    have z : sp (vs ++ []) H1 Q E0 := q
    rwa [List.append_nil] at z
  have hl : us.length = ps.length := by
    rw [← r.length]
    exact F.len _ _ _ _ q'
  have hbs := hb s1 us I1.kIn (by simpa using hl)
  rw [List.append_nil] at hbs
  refine wpAny_call (codeAny_mono (F.go X.A X.stack s1 H1 ⟨us, []⟩ us vs Q E0 hG hr I1.env0 hbs r q') ?_)
  intro res s2 hres
  cases res with
  | error z => exact False.elim hres
  | ok fl =>
    cases fl with
    | ret u => exact I1.after hres
    | next => exact False.elim hres
    | brk => exact False.elim hres
    | cont => exact False.elim hres
end
end Ol

set_option Elab.async false
set_option linter.all false
set_option maxRecDepth 100000
set_option maxHeartbeats 4000000
namespace Ol
open PySem PySem.Spec PyProof.Rows L2

/-- the table of modules is set aside: no list stands there -/
def Sys (H : Hp) : Prop := ∃ o u, H sysModules = some (.frz o u)

/-- every tracked object is locked -/
def Lockd (H : Hp) : Prop := ∀ b u, H b = some u → ∃ o v, u = .frz o v

section
variable {P : Program} {w : World} {K : PySem.W.Frag} {mg mb : Str → Option Value}
  {k : Nat} {fa a : Addr} {fd : FuncData} {x : Str} {sp : Sp} {s1 : Shared}

/-- the call of the law from a heap in which some objects are locked -/
theorem enterG (H : Hp) (hL : Lockd H) (ok : HOk P w H s1.heap)
    (hK : ∀ b, H b ≠ none → K.lookup b = none)
    (hN : ∀ b m, s1.heap.Ns b m → (b = 0 ∨ b = 3 ∨ b = cStatics) → H b = none)
    (kin : K.In s1.heap) (hns : s1.heap.Ns mainGlobals mg) (hb : s1.heap.Ns builtinsNs mb)
    (hbb : ∀ y : Str, y ≠ "__name__" → mb y = bootBuiltins y)
    (hlim : s1.heap.NoLimit) (hg : s1.gens = #[]) (hr : Room k callerA)
    (F : ∀ base : Heap, K.In base → base.Ns mainGlobals mg → FnG P w K mg base k fa fd [x] sp)
    (bind : ∀ (s : Shared) (u : Value), BindsTo s fd ⟨[u], []⟩ [(x, u)])
    (hsp : sp [.ref a] H (fun v _ => v = .bl true) E0) :
    codeAny (model P w) callerA (.call (.ref fa) ⟨[.ref a], []⟩)
      (fun r s' => r = .ok (.ret (.bool true)) ∧ OldK s1.heap s'.heap ∧
        s'.os = s1.os ∧ AllBare s'.gens) s1 := by
  have ns : ∀ {b : Addr} {m : Str → Option Value}, s1.heap.Ns b m →
      (b = 0 ∨ b = 3 ∨ b = cStatics) → (hidT s1.heap H).Ns b m := by
    intro b m h c
    have n := hN b m h c
    obtain ⟨o, es, ep, e, r⟩ := h
    exact ⟨o, es, ep, hidT_get e n, r⟩
  have kb : K.In (hidT s1.heap H) := by
    intro b o e
    refine hidT_get (kin b o e) ?_
    cases q : H b with
    | none => rfl
    | some u =>
      have z := hK b (by rw [q]; exact fun t => nomatch t)
      rw [z] at e
      cases e
  have gl : (hidT s1.heap H).Ns mainGlobals mg := ns hns (Or.inr (Or.inl rfl))
  have md : Mod K mg (hidT s1.heap H) := by
    refine ⟨kb, gl, ⟨mb, ns hb (Or.inl rfl), hbb⟩, ?_⟩
    obtain ⟨mc, h1, h2⟩ := hlim
    exact ⟨mc, ns h1 (Or.inr (Or.inr rfl)), h2⟩
  have e0 : Env0 P w K mg (hidT s1.heap H) callerA [] s1 H := by
    refine ⟨rfl, md, fun b o e => of_hidT e, Nat.le_of_eq (hidT_size _ _), trivial, ?_, ok, .of_eq hg⟩
    intro b hb
    cases hb
  have run := (F _ kb gl).go callerA [] s1 H ⟨[.ref a], []⟩ [.ref a] [.ref a]
    (fun v _ => v = .bl true) E0 rfl hr e0 (bind s1 (.ref a)) (.cons rfl .nil) hsp
  refine codeAny_mono run ?_
  intro r s' h
  match r, h with
  | .error e, h => exact h.elim
  | .ok .next, h => exact h.elim
  | .ok .brk, h => exact h.elim
  | .ok .cont, h => exact h.elim
  | .ok (.ret u), h =>
    obtain ⟨v, H', os, bare, un, ok', rv, q⟩ := h
    have q' : v = .bl true := q
    subst q'
    have eu : u = Value.bool true := rv
    subst eu
    refine ⟨rfl, OldK.of_keep ?_, os, bare⟩
    intro b o e
    cases q : H b with
    | none => exact un.keep b o e q (fun z => nomatch z) (fun z => nomatch z)
    | some u =>
      obtain ⟨ob, v, rfl⟩ := hL b u q
      have q2 := un.frzs b ob v q
      have e1 : s1.heap.get? b = some ob := (ok b _ q).1
      have e2 : s'.heap.get? b = some ob := (ok' b _ q2).1
      rw [e] at e1
      cases e1
      exact e2

/-- the law's heap at its entry: the script locked (or of the module), the table of modules locked -/
theorem law_callG {vs : List Value} {ns : List Int}
    (kin : K.In s1.heap) (kS : K.lookup sysModules = none)
    (hS : ∃ o, s1.heap.get? sysModules = some o)
    (hns : s1.heap.Ns mainGlobals mg) (hb : s1.heap.Ns builtinsNs mb)
    (hbb : ∀ y : Str, y ≠ "__name__" → mb y = bootBuiltins y)
    (hlim : s1.heap.NoLimit) (hg : s1.gens = #[])
    (ha : s1.heap.get? a = some { cls := .type "list", data := .seq vs.toArray })
    (hi : IntsAre vs ns) (hl : ns.length ≤ sizeLine) (hr : Room k callerA)
    (F : ∀ base : Heap, K.In base → base.Ns mainGlobals mg → FnG P w K mg base k fa fd [x] sp)
    (bind : ∀ (s : Shared) (u : Value), BindsTo s fd ⟨[u], []⟩ [(x, u)])
    (hsp : ∀ H : Hp, Sys H → SqL K H a (ns.map V.int) → sp [.ref a] H (fun v _ => v = .bl true) E0) :
    codeAny (model P w) callerA (.call (.ref fa) ⟨[.ref a], []⟩)
      (fun r s' => r = .ok (.ret (.bool true)) ∧ OldK s1.heap s'.heap ∧
        s'.os = s1.os ∧ AllBare s'.gens) s1 := by
  have rv := vals_ints hi
  obtain ⟨o1, ho1⟩ := hS
  -- no namespace is locked
  have dat : ∀ b m, s1.heap.Ns b m → b ≠ a := by
    rintro b m ⟨o, es, ep, e, d, _⟩ rfl
    rw [ha] at e
    cases e
    have d' : Data.seq vs.toArray _ = Data.dict es ep := d
    cases d'
  have nsys : ∀ b : Addr, (b = 0 ∨ b = 3 ∨ b = cStatics) → b ≠ sysModules := by
    rintro b (rfl | rfl | rfl) <;> decide
  have okS : ∀ H : Hp, ObjOk P w H s1.heap sysModules (.frz o1 (.ext fun _ => True)) :=
    fun H => ⟨ho1, trivial, ⟨o1, ho1⟩, fun _ _ _ _ => trivial⟩
  cases hk : K.lookup a with
  | some o =>
    have e := kin a o hk
    rw [ha] at e
    cases e
    have hL : SqL K (fun b => if b = sysModules then some (.frz o1 (.ext fun _ => True)) else none) a (ns.map V.int) := by
      refine Or.inr ⟨_, vs.toArray, _, hk, rfl, rfl, rfl, ?_, by simpa using rv⟩
      rw [List.size_toArray, hi.length]
      exact hl
    refine enterG (fun b => if b = sysModules then some (.frz o1 (.ext fun _ => True)) else none)
      ?_ ?_ ?_ ?_ kin hns hb hbb hlim hg hr F bind (hsp _ ⟨o1, _, if_pos rfl⟩ hL)
    · intro b u q
      by_cases c : b = sysModules
      · have q' := (if_pos c).symm.trans q
        cases q'
        exact ⟨_, _, rfl⟩
      · have q' := (if_neg c).symm.trans q
        cases q'
    · intro b u q
      by_cases c : b = sysModules
      · have q' := (if_pos c).symm.trans q
        cases q'
        subst c
        exact okS _
      · have q' := (if_neg c).symm.trans q
        cases q'
    · intro b q
      by_cases c : b = sysModules
      · subst c
        exact kS
      · exact absurd (if_neg c) q
    · intro b m _ c
      exact if_neg (nsys b c)
  | none =>
    let H0 : Hp := fun b => if b = a then some (.frz { cls := .type "list", data := .seq vs.toArray } (.lst (ns.map V.int)))
      else if b = sysModules then some (.frz o1 (.ext fun _ => True)) else none
    have at_a : H0 a = some (.frz { cls := .type "list", data := .seq vs.toArray } (.lst (ns.map V.int))) := if_pos rfl
    have sysH : Sys H0 := by
      by_cases c : sysModules = a
      · exact ⟨_, _, if_pos c⟩
      · exact ⟨o1, _, (if_neg c).trans (if_pos rfl)⟩
    refine enterG H0 ?_ ?_ ?_ ?_ kin hns hb hbb hlim hg hr F bind (hsp _ sysH (Or.inl (Or.inr ⟨_, at_a⟩)))
    · intro b u q
      by_cases c : b = a
      · have q' := (if_pos c).symm.trans q
        cases q'
        exact ⟨_, _, rfl⟩
      · by_cases c2 : b = sysModules
        · have q' := ((if_neg c).trans (if_pos c2)).symm.trans q
          cases q'
          exact ⟨_, _, rfl⟩
        · have q' := ((if_neg c).trans (if_neg c2)).symm.trans q
          cases q'
    · intro b u q
      by_cases c : b = a
      · have q' := (if_pos c).symm.trans q
        cases q'
        subst c
        exact ⟨ha, by rw [List.length_map]; exact hl, vs, _, rv, ha⟩
      · by_cases c2 : b = sysModules
        · have q' := ((if_neg c).trans (if_pos c2)).symm.trans q
          cases q'
          subst c2
          exact okS _
        · have q' := ((if_neg c).trans (if_neg c2)).symm.trans q
          cases q'
    · intro b q
      by_cases c : b = a
      · rw [c]
        exact hk
      · by_cases c2 : b = sysModules
        · rw [c2]
          exact kS
        · exact absurd ((if_neg c).trans (if_neg c2)) q
    · intro b m h c
      exact (if_neg (dat b m h)).trans (if_neg (nsys b c))
end

/-- the end of a law's row, by a promise of FnG -/
theorem walkG {l : PySem.W.OpenLaw} {n k : Nat} {q : Program} {loose : List Str}
    {XP : (Str → Option Value) → Heap → Prop} {YP : World → Heap → Prop} {d : DefRec}
    {K : Params → PySem.W.Frag} {sp : World → Sp} {x : Str}
    (hn : l.most = some n) (him : importsNone q = true) (hn2 : n ≤ sizeLine) (hdf : d.params.defaults = []) (hr : Room k callerA)
    (hY : ∀ (w : World) (h : Heap), YP w h → (K w.params).In h)
    (kS : ∀ w : World, (K w.params).lookup sysModules = none)
    (F : ∀ (w : World) (mg : Str → Option Value) (fa : Addr) (h : Heap),
      (K w.params).In h → h.Ns mainGlobals mg → mg d.name = some (.ref fa) →
      ∃ fd : FuncData, (∀ (s : Shared) (u : Value), BindsTo s fd ⟨[u], []⟩ [(x, u)]) ∧
        ∀ base : Heap, (K w.params).In base → base.Ns mainGlobals mg →
          FnG l.prog w (K w.params) mg base k fa fd [x] (sp w))
    (hsp : ∀ (w : World) (H : Hp) (a : Addr) (ns : List Int), ns.length ≤ n → Sys H →
      SqL (K w.params) H a (ns.map V.int) → sp w [.ref a] H (fun v _ => v = .bl true) E0) :
    PySem.W.WalkO q loose XP YP l.row.toRowW d [] (fun f vs => PySem.call f vs) := by
  refine Att.attach_call hn hdf ?_
  intro w s0 s1 mg mb fa o pm cd doc a vs ns G Y ho hd hcd hmg hobj hints hlen hg
  have kin := hY w _ Y
  obtain ⟨fd, hb, hF⟩ := F w mg fa _ kin G.T.g hmg
  have hS : ∃ o, s1.heap.get? sysModules = some o := by
    obtain ⟨mm, ⟨o, es, ep, e, _⟩, _⟩ := (G.T.seer him).mods
    exact ⟨o, e⟩
  exact law_callG kin (kS w) hS G.T.g G.T.b G.T.builtins G.T.nolimit hg hobj hints
    (Nat.le_trans hlen hn2) hr hF hb (fun H h1 h2 => hsp w H a ns hlen h1 h2)
end Ol

set_option Elab.async false
set_option linter.all false
set_option maxRecDepth 100000
set_option maxHeartbeats 4000000
namespace Ol
open PySem PySem.Spec PyProof.Rows L2

/-- a key of a dict as data -/
def keyD : Key → PyData
  | .inl i => .int i
  | .inr x => .str x

/-! ### data of any depth, dicts with ints and texts as keys too -/
mutual
inductive Dq (H : Hp) : V → PyData → Prop
  | non : Dq H .non .none
  | bl (b : Bool) : Dq H (.bl b) (.bool b)
  | int (i : Int) : Dq H (.int i) (.int i)
  | str (x : Str) : Dq H (.str x) (.str x)
  | lst {a : Addr} {xs : List V} {ds : List PyData} :
      H a = some (.lst xs) → DqAll H xs ds → Dq H (.ref a) (.list ds)
  | tup {a : Addr} {xs : List V} {ds : List PyData} :
      H a = some (.tup xs) → DqAll H xs ds → Dq H (.ref a) (.tuple ds)
  | dct {a : Addr} {kvs : List (Key × V)} {ds : List PyData} :
      H a = some (.dK kvs) → DqAll H (kvs.map (·.2)) ds →
      Dq H (.ref a) (.dict ((kvs.map fun kv => keyD kv.1).zip ds))
inductive DqAll (H : Hp) : List V → List PyData → Prop
  | nil : DqAll H [] []
  | cons {v : V} {vs : List V} {d : PyData} {ds : List PyData} :
      Dq H v d → DqAll H vs ds → DqAll H (v :: vs) (d :: ds)
end

theorem DqAll.len {H : Hp} : ∀ {vs : List V} {ds : List PyData}, DqAll H vs ds → vs.length = ds.length
  | [], _, h => by cases h; rfl
  | v :: vs, _, h => by
    cases h with
    | cons _ t => rw [List.length_cons, List.length_cons, t.len]

/-- what is tracked in H stands in H' as well -/
def Ext (H H' : Hp) : Prop := ∀ b o, H b = some o → H' b = some o

mutual
theorem Dq.up {H H' : Hp} (e : Ext H H') : ∀ {v : V} {d : PyData}, Dq H v d → Dq H' v d
  | _, _, .non => .non
  | _, _, .bl b => .bl b
  | _, _, .int i => .int i
  | _, _, .str x => .str x
  | _, _, .lst h t => .lst (e _ _ h) (DqAll.up e t)
  | _, _, .tup h t => .tup (e _ _ h) (DqAll.up e t)
  | _, _, .dct h t => .dct (e _ _ h) (DqAll.up e t)
theorem DqAll.up {H H' : Hp} (e : Ext H H') : ∀ {vs : List V} {ds : List PyData}, DqAll H vs ds → DqAll H' vs ds
  | _, _, .nil => .nil
  | _, _, .cons h t => .cons (Dq.up e h) (DqAll.up e t)
end

section
variable {X : Cx} {pins : List (Addr × Obj)} {σ : L2.St} {H : Hp} {s : Shared}

theorem keys_reads {h : Heap} {knd : List (Key × Value)} : ∀ {kvs : List (Key × V)} {es : List DictEntry} {vs : List (Key × Value)},
    L2.KV kvs vs → Pairs (mixKind X.prog X.w) es vs →
    ReadsAll h (es.map (·.key)) (kvs.map fun kv => keyD kv.1) [] ∧ Vals (kvs.map (·.2)) (es.map (·.val))
  | [], es, _, r, p => by
    cases r
    cases p
    exact ⟨.nil, .nil⟩
  | kv :: kvs, es, _, r, p => by
    cases r with
    | cons r1 r2 =>
      cases p with
      | cons p1 p2 p3 =>
        obtain ⟨q1, q2⟩ := keys_reads (h := h) (knd := knd) r2 p3
        refine ⟨?_, .cons ?_ q2⟩
        case refine_2 =>
          have z := r1.2
          rw [← p2] at z
          exact z
        have e1 := r1.1
        rw [← e1] at p1
        rcases keyIs_shape p1 with ⟨i, t, e, e'⟩ | ⟨x, t, e, e'⟩
        · have z := ReadsAll.cons (Reads.int (h := h) i t) q1
          rw [List.map_cons, List.map_cons, e, e']
          exact z
        · have z := ReadsAll.cons (Reads.str (h := h) x t) q1
          rw [List.map_cons, List.map_cons, e, e']
          exact z

theorem zip_fst {α β : Type} : ∀ {xs : List α} {ys : List β}, xs.length = ys.length → (xs.zip ys).map (·.1) = xs
  | [], _, _ => by simp
  | x :: xs, [], h => by simp at h
  | x :: xs, y :: ys, h => by
    rw [List.zip_cons_cons, List.map_cons, zip_fst (by simpa using h)]
theorem zip_snd {α β : Type} : ∀ {xs : List α} {ys : List β}, xs.length = ys.length → (xs.zip ys).map (·.2) = ys
  | [], [], _ => by simp
  | [], y :: ys, h => by simp at h
  | x :: xs, [], h => by simp at h
  | x :: xs, y :: ys, h => by
    rw [List.zip_cons_cons, List.map_cons, zip_snd (by simpa using h)]

mutual
theorem Dq.reads (I : Inv X pins σ H s) (S : Sys H) : ∀ {v : V} {d : PyData} {u : Value}, Dq H v d → RelV v u →
    ∃ as, Reads s.heap u d as ∧ sysModules ∉ as
  | _, _, _, .non, r => by
    cases r
    exact ⟨_, Reads.none, nofun⟩
  | _, _, _, .bl b, r => by
    cases r
    exact ⟨_, Reads.bool b, nofun⟩
  | _, _, _, .int i, r => by
    obtain ⟨t, rfl⟩ := r
    exact ⟨_, Reads.int i t, nofun⟩
  | _, _, _, .str x, r => by
    obtain ⟨t, rfl⟩ := r
    exact ⟨_, Reads.str x t, nofun⟩
  | _, _, _, .lst (a := a) (xs := xs) h t, r => by
    cases r
    obtain ⟨_, its, n, rv, e⟩ := I.hok a _ h
    obtain ⟨as, q, n1⟩ := DqAll.reads I S t rv
    refine ⟨_, Reads.list e rfl rfl q, ?_⟩
    intro m
    rcases List.mem_cons.mp m with m | m
    · obtain ⟨o, u, hs⟩ := S
      rw [m, h] at hs
      cases hs
    · exact n1 m
  | _, _, _, .tup (a := a) (xs := xs) h t, r => by
    cases r
    obtain ⟨_, its, rv, o, e, c, n, d⟩ := I.hok a _ h
    obtain ⟨as, q, n1⟩ := DqAll.reads I S t rv
    exact ⟨_, Reads.tuple e c d q, n1⟩
  | _, _, _, .dct (a := a) (kvs := kvs) (ds := ds) h t, r => by
    cases r
    obtain ⟨_, na, vs, rel, o, es, ep, e, ex, hd, _, pr, _⟩ := I.hok a _ h
    obtain ⟨q1, q2⟩ := keys_reads (X := X) (h := s.heap) (knd := vs) rel pr
    obtain ⟨bs, q3, n1⟩ := DqAll.reads I S t q2
    have hl : (kvs.map fun kv => keyD kv.1).length = ds.length := by
      rw [List.length_map, ← t.len, List.length_map]
    refine ⟨_, Reads.dict (kvs := (kvs.map fun kv => keyD kv.1).zip ds) e ex.1 hd (as := []) (bs := bs) ?_ ?_, ?_⟩
    · rw [zip_fst hl]
      exact q1
    · rw [zip_snd hl]
      exact q3
    · intro m
      rcases List.mem_cons.mp m with m | m
      · rw [← m] at na
        exact absurd na (by decide)
      · exact n1 (by simpa using m)
theorem DqAll.reads (I : Inv X pins σ H s) (S : Sys H) : ∀ {vs : List V} {ds : List PyData} {us : List Value}, DqAll H vs ds → Vals vs us →
    ∃ as, ReadsAll s.heap us ds as ∧ sysModules ∉ as
  | _, _, _, .nil, r => by
    cases r
    exact ⟨_, ReadsAll.nil, nofun⟩
  | _, _, _, .cons h t, r => by
    cases r with
    | cons r1 r2 =>
      obtain ⟨as, q1, n1⟩ := Dq.reads I S h r1
      obtain ⟨bs, q2, n2⟩ := DqAll.reads I S t r2
      refine ⟨_, ReadsAll.cons q1 q2, ?_⟩
      intro m
      rcases List.mem_append.mp m with m | m
      · exact n1 m
      · exact n2 m
end
end

/-- repr(x) of data -/
def rRepr : List V → Hp → VK → Prop := fun vs H Q => ∃ v d, vs = [v] ∧ Sys H ∧ Dq H v d ∧
  d.showable = true ∧ d.depth ≤ 40 ∧ d.shown.length ≤ sizeLine ∧ Q (.str d.shown) H

theorem call_reprD {X : Cx} {k : Nat} (hG : X.A.guards = some []) (hr : Room k X.A) : CallR X (.builtin "repr") rRepr := by
  intro pins s σ H vs us Q I r h
  obtain ⟨v, d, rfl, S, hd, hs, hdp, hz, q⟩ := h
  obtain ⟨u, rfl, ru⟩ := vals1 r
  have hu := hr.units
  obtain ⟨as, rd, n1⟩ := Dq.reads I S hd ru
  have leaf : ∀ {x : Str}, x = d.shown → EP X pins σ Q (.str x s.toks) { s with toks := s.toks + 1 } := by
    rintro x rfl
    exact ⟨.str _, H, I.tok _, ⟨_, rfl⟩, q⟩
  cases hd with
  | non =>
    cases ru
    exact PySem.P.repr_of_none (leaf (by simp only [PyData.shown]))
  | bl b =>
    cases ru
    exact PySem.P.repr_of_bool (leaf (by simp only [PyData.shown]))
  | int i =>
    obtain ⟨t, rfl⟩ := ru
    exact PySem.P.repr_of_int (by simpa [PyData.showable] using hs) (leaf (by simp only [PyData.shown]))
  | str x =>
    obtain ⟨t, rfl⟩ := ru
    exact PySem.P.repr_of_str (leaf (by simp only [PyData.shown])) (by simpa only [PyData.shown] using hz)
  | lst h t =>
    cases ru
    exact repr_of_reads' rd hs (fun _ => n1) hG (by omega) (fun _ _ e => e)
      (fun h' u tk hk => ⟨.str _, H, I.kept (t' := tk) hk, ⟨u, rfl⟩, q⟩) hz
  | tup h t =>
    cases ru
    exact repr_of_reads' rd hs (fun _ => n1) hG (by omega) (fun _ _ e => e)
      (fun h' u tk hk => ⟨.str _, H, I.kept (t' := tk) hk, ⟨u, rfl⟩, q⟩) hz
  | dct h t =>
    cases ru
    exact repr_of_reads' rd hs (fun _ => n1) hG (by omega) (fun _ _ e => e)
      (fun h' u tk hk => ⟨.str _, H, I.kept (t' := tk) hk, ⟨u, rfl⟩, q⟩) hz
end Ol

set_option Elab.async false
set_option linter.all false
set_option maxRecDepth 100000
set_option maxHeartbeats 4000000
namespace Ol
open PySem PySem.Spec PyProof.Rows L2

theorem Ext.refl (H : Hp) : Ext H H := fun _ _ e => e
theorem Ext.trans {H H1 H2 : Hp} (a : Ext H H1) (b : Ext H1 H2) : Ext H H2 := fun c o e => b c o (a c o e)
theorem Ext.new {H : Hp} {p : Addr} {o : HO} (h : H p = none) : Ext H (upd H p o) := fun b u e => by
  rw [upd_ne (ne_of_none e h)]
  exact e
/-- what was not tracked at the start may change -/
theorem Ext.mut {H H' : Hp} {p : Addr} {o : HO} (e : Ext H H') (h : H p = none) : Ext H (upd H' p o) := fun b u eb => by
  rw [upd_ne (ne_of_none eb h)]
  exact e b u eb
theorem Ext.free {H H' : Hp} (e : Ext H H') {p : Addr} (h : H' p = none) : H p = none := by
  cases q : H p with
  | none => rfl
  | some o =>
    rw [e p o q] at h
    cases h

/-- xs[j] read, for xs[j] += e -/
def rGetL (K : PySem.W.Frag) : V → V → Hp → VK → Prop := fun x y H Q => ∃ (p : Addr) (xs : List V) (j : Nat) (v : V),
  x = .ref p ∧ y = .int (j : Int) ∧ SqL K H p xs ∧ xs[j]? = some v ∧ Q v H
theorem get_list {X : Cx} : PGet X (rGetL X.K) := by
  intro pins s σ H o i ov iv Q I ro ri h
  obtain ⟨p, xs, j, v, rfl, rfl, hq, hj, q⟩ := h
  cases ro
  obtain ⟨t, rfl⟩ := ri
  obtain ⟨its, r, pl, hz⟩ := I.list hq
  obtain ⟨u, eu, ru⟩ := r.get hj
  have hlt : j < xs.length := (List.getElem?_eq_some_iff.mp hj).1
  have h63 := line63
  refine wpAny_getItem_list (x := u) pl.isList (by omega) (by omega) (by simpa using eu) ?_
  exact ⟨v, H, I, ru, q⟩

/-- one statement, then the rest of a block, with what holds between -/
theorem cutB {X : Cx} {s : Stmt} {r : List Stmt} {D : Ends} {σ : L2.St} {H : Hp} (W : L2.St → Hp → Prop)
    (h2 : ∃ t2, PSs X r t2 ∧ ∀ σ' H', W σ' H' → t2 D σ' H')
    (h1 : ∃ t1, PS X s t1 ∧ ∀ nx : L2.St → Hp → Prop, (∀ σ' H', W σ' H' → nx σ' H') → t1 { D with nx := nx } σ H) :
    ∃ t, PSs X (s :: r) t ∧ t D σ H := by
  obtain ⟨t2, d2, k2⟩ := h2
  obtain ⟨t1, d1, k1⟩ := h1
  exact ⟨_, pss_cons d1 d2, k1 _ k2⟩

/-- no built-in name is taken by the module -/
structure BT (mg : Str → Option Value) : Prop where
  n_len : mg "len" = none
  n_int : mg "int" = none
  n_abs : mg "abs" = none
  n_range : mg "range" = none
  n_repr : mg "repr" = none
  n_isinstance : mg "isinstance" = none
  n_all : mg "all" = none
  n_tuple : mg "tuple" = none
  n_list : mg "list" = none
  n_str : mg "str" = none
  n_bool : mg "bool" = none
  n_dict : mg "dict" = none
  n_sorted : mg "sorted" = none

/-! ### the bag: a list of three ints and the cells; its ints are set aside -/
def bagL (b0 b1 b2 : Int) (c : Addr) : List V := [.int b0, .int b1, .int b2, .ref c]
structure BagI (b0 b1 b2 : Int) : Prop where
  h0 : 0 ≤ b0
  h1 : 0 ≤ b1
  h1' : b1 < 2147483647
  h2 : 0 ≤ b2
def bagP (a c : Addr) : Heap → Prop := fun h => ∃ (b0 b1 b2 : Int) (t0 t1 t2 : Tok) (n : Nat),
  h.get? a = some { cls := .type "list", data := .seq #[.int b0 t0, .int b1 t1, .int b2 t2, .ref c] n } ∧ BagI b0 b1 b2
def Bag (H : Hp) (a : Addr) : Prop := ∃ (c : Addr) (ns : List Int), H a = some (.ext (bagP a c)) ∧
  H c = some (.lst (ns.map V.int)) ∧ (∀ n ∈ ns, 0 ≤ n)
theorem Bag.up {H H' : Hp} {a : Addr} (e : Ext H H') : Bag H a → Bag H' a
  | ⟨c, ns, h1, h2, h3⟩ => ⟨c, ns, e _ _ h1, e _ _ h2, h3⟩

/-- a draw, the bag's ints told -/
def spTake0 : Sp := fun vs H Q _ => ∃ (a c : Addr) (b0 b1 b2 : Int) (ns : List Int) (m : Int),
  vs = [.ref a, .int m] ∧ H a = some (.lst (bagL b0 b1 b2 c)) ∧ H c = some (.lst (ns.map V.int)) ∧ (∀ n ∈ ns, 0 ≤ n) ∧
  BagI b0 b1 b2 ∧ 0 < m ∧ m < 1073741824 ∧
  ∀ (r x0 x1 x2 : Int), 0 ≤ r → r < m → BagI x0 x1 x2 → Q (.int r) (upd H a (.lst (bagL x0 x1 x2 c)))
/-- a draw, the bag set aside -/
def spTake : Sp := fun vs H Q _ => ∃ (a : Addr) (m : Int), vs = [.ref a, .int m] ∧ Bag H a ∧ 0 < m ∧ m < 1073741824 ∧
  ∀ r : Int, 0 ≤ r → r < m → Q (.int r) H

section
variable {P : Program} {w : World} {K : PySem.W.Frag} {mg : Str → Option Value} {base : Heap}

theorem hide {k : Nat} {f : Addr} {fd : FuncData} {ps : List Str} (F : FnOk P w K mg base CX0 k f fd ps spTake0) :
    FnOk P w K mg base CX0 k f fd ps spTake := by
  refine ⟨?_, ?_⟩
  · rintro vs H Q E ⟨a, m, rfl, ⟨c, ns, h1, h2, h3⟩, hm, hm2, q⟩
    have hca : c ≠ a := ne_of h2 h1 (fun z => nomatch z)
    exact F.len [.ref a, .int m] (upd H a (.lst (bagL 0 0 0 c))) (fun _ _ => True) E0
      ⟨a, c, 0, 0, 0, ns, m, rfl, upd_same, by rw [upd_ne hca]; exact h2, h3, ⟨by decide, by decide, by decide, by decide⟩, hm, hm2, fun _ _ _ _ _ _ _ => trivial⟩
  · rintro A outer s H args us vs Q E hr e0 hb rv ⟨a, m, rfl, ⟨c, ns, h1, h2, h3⟩, hm, hm2, q⟩
    have hca : c ≠ a := ne_of h2 h1 (fun z => nomatch z)
    obtain ⟨⟨b0, b1, b2, t0, t1, t2, n, eo, bi⟩, _, _⟩ := e0.hok a _ h1
    have mu : Mut (H a) := by
      rw [h1]
      trivial
    have nw : ObjOk P w (upd H a (.lst (bagL b0 b1 b2 c))) s.heap a (.lst (bagL b0 b1 b2 c)) :=
      ⟨by show 4 ≤ sizeLine; decide, [.int b0 t0, .int b1 t1, .int b2 t2, .ref c], n, .cons ⟨t0, rfl⟩ (.cons ⟨t1, rfl⟩ (.cons ⟨t2, rfl⟩ (.cons rfl .nil))), eo⟩
    have ok1 : HOk P w (upd H a (.lst (bagL b0 b1 b2 c))) s.heap := HOk.write e0.hok mu (Or.inl rfl) (fun _ _ _ z => z) ⟨_, eo⟩ nw
    have un1 : Un (frs outer) [] H (upd H a (.lst (bagL b0 b1 b2 c))) s.heap s.heap := Un.write mu (Or.inl rfl) (fun _ _ _ z => z) ⟨_, eo⟩
    have none1 : ∀ b, H b = none → upd H a (.lst (bagL b0 b1 b2 c)) b = none := fun b z => by
      rw [upd_ne (fun y => by rw [y, h1] at z; cases z)]
      exact z
    have e1 : Env0 P w K mg base A outer s (upd H a (.lst (bagL b0 b1 b2 c))) :=
      ⟨e0.frames, e0.mod, fun b o z => ⟨(e0.bs b o z).1, none1 b (e0.bs b o z).2⟩, e0.bsz, e0.funs, fun b z => none1 b (e0.frf b z), ok1, e0.bare⟩
    have run := F.run A outer s (upd H a (.lst (bagL b0 b1 b2 c))) args us [.ref a, .int m]
      (fun v H' => ∃ (r x0 x1 x2 : Int), v = .int r ∧ 0 ≤ r ∧ r < m ∧ BagI x0 x1 x2 ∧ H' = upd (upd H a (.lst (bagL b0 b1 b2 c))) a (.lst (bagL x0 x1 x2 c)))
      E hr e1 hb rv ⟨a, c, b0, b1, b2, ns, m, rfl, upd_same, by rw [upd_ne hca]; exact h2, h3, bi, hm, hm2, fun r x0 x1 x2 g1 g2 g3 => ⟨r, x0, x1, x2, rfl, g1, g2, g3, rfl⟩⟩
    refine codeAny_mono run ?_
    intro res s' h
    match res, h with
    | .error _, h => exact h.elim
    | .ok .next, h => exact h.elim
    | .ok .brk, h => exact h.elim
    | .ok .cont, h => exact h.elim
    | .ok (.ret u), h =>
      obtain ⟨v, H', os, bare, un, hok', rv', r, x0, x1, x2, rfl, g1, g2, g3, eH⟩ := h
      have hb' : H' a = some (.lst (bagL x0 x1 x2 c)) := by rw [eH, upd_same]
      have back : upd H' a (.ext (bagP a c)) = H := by
        rw [eH, upd_upd, upd_upd]
        funext b
        by_cases z : b = a
        · rw [z, upd_same, h1]
        · rw [upd_ne z]
      have mu' : Mut (H' a) := by
        rw [hb']
        trivial
      obtain ⟨_, its, n', r', eo'⟩ := hok' a _ hb'
      have shape : ∃ y0 y1 y2, its = [.int x0 y0, .int x1 y1, .int x2 y2, .ref c] := by
        cases r' with
        | cons q0 r' => cases r' with
          | cons q1 r' => cases r' with
            | cons q2 r' => cases r' with
              | cons q3 r' =>
                cases r'
                obtain ⟨y0, rfl⟩ := q0
                obtain ⟨y1, rfl⟩ := q1
                obtain ⟨y2, rfl⟩ := q2
                cases q3
                exact ⟨y0, y1, y2, rfl⟩
      obtain ⟨y0, y1, y2, rfl⟩ := shape
      have nw' : ObjOk P w (upd H' a (.ext (bagP a c))) s'.heap a (.ext (bagP a c)) := by
        refine ⟨⟨x0, x1, x2, y0, y1, y2, n', eo', g3⟩, ⟨_, eo'⟩, ?_⟩
        rintro g g' ⟨z0, z1, z2, w0, w1, w2, n2, e2, i2⟩ hk
        exact ⟨z0, z1, z2, w0, w1, w2, n2, hk _ e2, i2⟩
      have ok2 := HOk.write hok' mu' (Or.inl rfl) (fun _ _ _ z => z) ⟨_, eo'⟩ nw'
      have un2 : Un (frs outer) [] H' (upd H' a (.ext (bagP a c))) s'.heap s'.heap := Un.write mu' (Or.inl rfl) (fun _ _ _ z => z) ⟨_, eo'⟩
      rw [back] at ok2 un2
      exact ⟨.int r, H, os, bare, (un1.trans un).trans un2, ok2, rv', q r g1 g2⟩
end
end Ol

set_option Elab.async false
set_option linter.all false
set_option maxRecDepth 100000
set_option maxHeartbeats 4000000
namespace Ol
open PySem PySem.Spec PyProof.Rows L2

/-- what of H' is new over H -/
def nw (H H' : Hp) : Hp := fun b => match H b with
  | none => H' b
  | some _ => none
theorem nw_none {H H' : Hp} {b : Addr} (h : H b = none) : nw H H' b = H' b := by
  unfold nw
  rw [h]
theorem nw_some {H H' : Hp} {b : Addr} {o : HO} (h : H b = some o) : nw H H' b = none := by
  unfold nw
  rw [h]
theorem nw_ext {H H' : Hp} : Ext (nw H H') H' := fun b o e => by
  cases h : H b with
  | none => rwa [nw_none h] at e
  | some u =>
    rw [nw_some h] at e
    cases e
theorem nw_up {H H1 H2 : Hp} (e : Ext H1 H2) : Ext (nw H H1) (nw H H2) := fun b o q => by
  cases h : H b with
  | none =>
    rw [nw_none h] at q ⊢
    exact e b o q
  | some u =>
    rw [nw_some h] at q
    cases q
theorem nw_base {H0 H H' : Hp} (e : Ext H0 H) : Ext (nw H H') (nw H0 H') := fun b o q => by
  cases h : H b with
  | none => 
    rw [nw_none h] at q
    rw [nw_none (e.free h)]
    exact q
  | some u =>
    rw [nw_some h] at q
    cases q
theorem nw_dom {H0 H H' : Hp} (e : ∀ b, H b = none → H0 b = none) : Ext (nw H H') (nw H0 H') := fun b o q => by
  cases h : H b with
  | none =>
    rw [nw_none h] at q
    rw [nw_none (e b h)]
    exact q
  | some u =>
    rw [nw_some h] at q
    cases q
/-- from new over a later heap to new over an earlier one -/
theorem nw_mono {H0 H H1 H2 : Hp} (e : Ext H0 H) (f : Ext H1 H2) : Ext (nw H H1) (nw H0 H2) := (nw_base e).trans (nw_up f)
theorem nw_at {H H' : Hp} {p : Addr} {o : HO} (h : H p = none) : nw H (upd H' p o) p = some o := by rw [nw_none h, upd_same]
theorem nw_mut {H H' : Hp} {p : Addr} {o u : HO} (h : H p = some u) : Ext (nw H H') (nw H (upd H' p o)) := fun b z q => by
  cases g : H b with
  | none =>
    rw [nw_none g] at q ⊢
    rw [upd_ne (fun y => by rw [y, h] at g; cases g)]
    exact q
  | some _ =>
    rw [nw_some g] at q
    cases q

/-- a list comprehension without a test: its items are new things of which R holds -/
theorem lc_ext {J : It} {n : Nat} {G : Hp → Prop} {Y : Nat → Hp → V → Hp → Prop} (w : Walk J n G Y) {j : Nat} {te : TE} {σ : L2.St} {H1 : Hp} {D : Addr} {Qd : Hp → Prop}
    (R : Nat → V → Hp → Prop) (up : ∀ i v H H', Ext H H' → R i v H → R i v H') (hD : H1 D = none) (hn : n ≤ sizeLine) 
    (hG : ∀ H, Ext H1 H → G H)
    (hs : ∀ i x H H', i < n → Ext H1 H → Y i H x H' → Ext H H' ∧ ∀ Q : VK, (∀ y H4, Ext H' H4 → R i y (nw H' H4) → Q y H4) → te ((wipe σ [j]).set j (some x)) H' Q)
    (hd : ∀ H xs, Ext H1 H → H D = some (.lst xs) → xs.length = n → (∀ i y, xs[i]? = some y → R i y (nw H1 H)) → Qd H) :
    ∃ W : Nat → Nat → Hp → Prop, (∃ m, W 0 m (upd H1 D (.lst []))) ∧ ∀ i m H, W i m H →
      (J.stop i H ∧ Qd H) ∨ (J.go i H ∧ ∃ Nx : Hp → Prop, (∀ H', Nx H' → ∃ m', m' < m ∧ W (i + 1) m' H') ∧ ∀ x H', J.yld i H x H' → gName j x (wipe σ [j]) H' fun σ2 H2 => wipe σ2 [j] = wipe σ [j] ∧ tYes σ2 H2 fun b H3 =>
        if b = true then te σ2 H3 fun y H4 => ∃ acc, H4 D = some (.lst acc) ∧ acc.length < sizeLine ∧ Nx (upd H4 D (.lst (acc ++ [y]))) else Nx H3) := by
  let Hs : Hp := upd H1 D (.lst [])
  have hsD : Hs D = some (.lst []) := upd_same
  have e1 : Ext H1 Hs := Ext.new hD
  refine lc_it w (fun i H => ∃ xs, Ext H1 H ∧ H D = some (.lst xs) ∧ xs.length = i ∧ ∀ k y, xs[k]? = some y → R k y (nw Hs H))
    ⟨[], e1, hsD, rfl, fun k y z => by simp at z⟩ (by rintro i H _ ⟨xs, e, _⟩; exact hG H e) ?_ ?_
  · rintro i x H H' hi ⟨xs, e, hx, hl, hr⟩ y
    obtain ⟨e2, ht⟩ := hs i x H H' hi e y
    have hw : wipe ((wipe σ [j]).set j (some x)) [j] = wipe σ [j] := by
      show ((σ.set j none).set j (some x)).set j none = σ.set j none
      rw [List.set_set, List.set_set]
    refine ⟨hw, ?_⟩
    unfold tYes
    dsimp only
    rw [if_pos rfl]
    refine ht _ ?_
    intro v H4 e4 rv
    refine ⟨xs, e4 _ _ (e2 _ _ hx), by omega, xs ++ [v], ?_, upd_same, by rw [List.length_append, hl]; rfl, ?_⟩
    · exact Ext.mut ((e.trans e2).trans e4) hD
    · intro k u hk
      have toN : Ext (nw Hs H4) (nw Hs (upd H4 D (.lst (xs ++ [v])))) := nw_mut hsD
      by_cases hkl : k < xs.length
      · rw [List.getElem?_append_left hkl] at hk
        exact up _ _ _ _ ((nw_up (e2.trans e4)).trans toN) (hr k u hk)
      · have hk2 : k = xs.length := by
          have z := (List.getElem?_eq_some_iff.mp hk).1
          rw [List.length_append] at z
          simp at z
          omega
        subst hk2
        rw [List.getElem?_append_right (Nat.le_refl _), Nat.sub_self] at hk
        have hv : v = u := Option.some.inj hk
        subst hv
        rw [hl]
        have hsub : ∀ b, H' b = none → Hs b = none := by
          intro b q
          have q1 : H b = none := e2.free q
          have z : b ≠ D := fun z => by rw [z, hx] at q1; cases q1
          rw [show Hs b = H1 b from upd_ne z]
          exact e.free q1
        exact up _ _ _ _ ((nw_dom hsub).trans toN) rv
  · rintro H ⟨xs, e, hx, hl, hr⟩
    exact hd H xs e hx hl fun i y z => up _ _ _ _ (nw_base e1) (hr i y z)
end Ol

set_option Elab.async false
set_option linter.all false
set_option maxRecDepth 100000
set_option maxHeartbeats 4000000
namespace Ol
open PySem PySem.Spec PyProof.Rows L2

/-! ### comprehensions that leave the heap but for their list -/
theorem lc_det {J : It} {n : Nat} {G : Hp → Prop} {Y : Nat → Hp → V → Hp → Prop} (w : Walk J n G Y) {j : Nat} {tt : TT} {te : TE} {σ : L2.St} {H1 : Hp} {D : Addr} {Qd : Hp → Prop}
    (f : Nat → V) (p : Nat → Bool) (g : Nat → V) (hD : H1 D = none) (hn : n ≤ sizeLine)
    (hY : ∀ i H x H', i < n → Y i H x H' → H' = H ∧ x = f i) (hG : ∀ H, Ext H1 H → G H)
    (ht : ∀ i H, i < n → Ext H1 H → ∀ Q : Bool → Hp → Prop, Q (p i) H → tt ((wipe σ [j]).set j (some (f i))) H Q)
    (he : ∀ i H, i < n → p i = true → Ext H1 H → ∀ Q : VK, Q (g i) H → te ((wipe σ [j]).set j (some (f i))) H Q)
    (hd : Qd (upd H1 D (.lst (((List.range n).filter p).map g)))) :
    ∃ W : Nat → Nat → Hp → Prop, (∃ m, W 0 m (upd H1 D (.lst []))) ∧ ∀ i m H, W i m H →
      (J.stop i H ∧ Qd H) ∨ (J.go i H ∧ ∃ Nx : Hp → Prop, (∀ H', Nx H' → ∃ m', m' < m ∧ W (i + 1) m' H') ∧ ∀ x H', J.yld i H x H' → gName j x (wipe σ [j]) H' fun σ2 H2 => wipe σ2 [j] = wipe σ [j] ∧ tt σ2 H2 fun b H3 =>
        if b = true then te σ2 H3 fun y H4 => ∃ acc, H4 D = some (.lst acc) ∧ acc.length < sizeLine ∧ Nx (upd H4 D (.lst (acc ++ [y]))) else Nx H3) := by
  have ex : ∀ o, Ext H1 (upd H1 D o) := fun o => Ext.new hD
  refine lc_it w (fun i H => H = upd H1 D (.lst (((List.range i).filter p).map g))) rfl (by rintro i H _ rfl; exact hG _ (ex _)) ?_ (by rintro H rfl; exact hd)
  rintro i x H H' hi rfl y
  obtain ⟨rfl, rfl⟩ := hY i _ _ _ hi y
  have hw : wipe ((wipe σ [j]).set j (some (f i))) [j] = wipe σ [j] := by
    show ((σ.set j none).set j (some (f i))).set j none = σ.set j none
    rw [List.set_set, List.set_set]
  refine ⟨hw, ht i _ hi (ex _) _ ?_⟩
  cases hp : p i with
  | true =>
    rw [if_pos rfl]
    refine he i _ hi hp (ex _) _ ?_
    refine ⟨_, upd_same, ?_, ?_⟩
    · rw [List.length_map]
      have h1 := List.length_filter_le p (List.range i)
      rw [List.length_range] at h1
      omega
    · rw [upd_upd, List.range_succ, List.filter_append, List.map_append]
      rw [show [i].filter p = [i] by rw [List.filter_cons, if_pos hp, List.filter_nil]]
      rfl
  | false =>
    rw [if_neg Bool.false_ne_true, List.range_succ, List.filter_append]
    rw [show [i].filter p = [] by rw [List.filter_cons, if_neg (by rw [hp]; exact Bool.false_ne_true), List.filter_nil]]
    rw [List.append_nil]

/-- sign i of a text -/
def sg (x : Str) (i : Nat) : V := .str ⟨#[x.cps.toList.getD i 0]⟩
theorem its_sg {x : Str} : ∀ (i : Nat) (H : Hp) (v : V) (H' : Hp), i < x.cps.size → (H' = H ∧ ∃ c, x.cps[i]? = some c ∧ v = V.str ⟨#[c]⟩) → H' = H ∧ v = sg x i := by
  rintro i H v H' hi ⟨rfl, c, hc, rfl⟩
  refine ⟨rfl, ?_⟩
  unfold sg
  rw [List.getD_eq_getElem?_getD, Array.getElem?_toList, hc]
  rfl
theorem map_range_getD {α : Type} (h : Nat → α) : ∀ l : List Nat, (List.range l.length).map (fun i => h (l.getD i 0)) = l.map h
  | [] => rfl
  | a :: l => by
    rw [List.length_cons, List.range_succ_eq_map, List.map_cons, List.map_map, List.map_cons]
    congr 1
    exact map_range_getD h l
theorem filter_map_getD (p : Nat → Bool) : ∀ l : List Nat, ((List.range l.length).filter fun i => p (l.getD i 0)).map (fun i => l.getD i 0) = l.filter p
  | [] => rfl
  | a :: l => by
    rw [List.length_cons, List.range_succ_eq_map, List.filter_cons, List.filter_cons, List.filter_map]
    have ih := filter_map_getD p l
    by_cases h : p a = true
    · rw [if_pos h, if_pos (show p ((a :: l).getD 0 0) = true from h), List.map_cons, List.map_map]
      congr 1
    · rw [if_neg h, if_neg (show ¬ p ((a :: l).getD 0 0) = true from h), List.map_map]
      exact ih

/-! ### data, and what the package asks of any value -/
def tyD : PyData → String
  | .none => "NoneType"
  | .bool _ => "bool"
  | .int _ => "int"
  | .str _ => "str"
  | .list _ => "list"
  | .tuple _ => "tuple"
  | .dict _ => "dict"
theorem ty_of {K : PySem.W.Frag} {H : Hp} {v : V} {d : PyData} (h : Dq H v d) : TyX K H v (.type (tyD d)) := by
  cases h with
  | non => exact .base .non
  | bl b => exact .base (.bl b)
  | int i => exact .base (.int i)
  | str x => exact .base (.str x)
  | lst h _ => exact .base (.lst h)
  | tup h _ => exact .base (.tup h)
  | dct h _ => exact .base (.dK h)
def kI : PyData → Bool
  | .int _ => true
  | .bool _ => true
  | _ => false
def kB : PyData → Bool
  | .bool _ => true
  | _ => false
def kS : PyData → Bool
  | .str _ => true
  | _ => false
def kT : PyData → Bool
  | .tuple _ => true
  | _ => false
def kL : PyData → Bool
  | .list _ => true
  | _ => false
def kD : PyData → Bool
  | .dict _ => true
  | _ => false
section
variable {K : PySem.W.Frag}
theorem ki_int (d : PyData) : PySem.W.kitOne K (.type (tyD d)) (.type "int") = some (kI d) := by
  cases d <;> (simp only [tyD, kI]; exact kit_ty (by decide +kernel))
theorem ki_bool (d : PyData) : PySem.W.kitOne K (.type (tyD d)) (.type "bool") = some (kB d) := by
  cases d <;> (simp only [tyD, kB]; exact kit_ty (by decide +kernel))
theorem ki_str (d : PyData) : PySem.W.kitOne K (.type (tyD d)) (.type "str") = some (kS d) := by
  cases d <;> (simp only [tyD, kS]; exact kit_ty (by decide +kernel))
theorem ki_tuple (d : PyData) : PySem.W.kitOne K (.type (tyD d)) (.type "tuple") = some (kT d) := by
  cases d <;> (simp only [tyD, kT]; exact kit_ty (by decide +kernel))
theorem ki_list (d : PyData) : PySem.W.kitOne K (.type (tyD d)) (.type "list") = some (kL d) := by
  cases d <;> (simp only [tyD, kL]; exact kit_ty (by decide +kernel))
theorem ki_dict (d : PyData) : PySem.W.kitOne K (.type (tyD d)) (.type "dict") = some (kD d) := by
  cases d <;> (simp only [tyD, kD]; exact kit_ty (by decide +kernel))
end
def isIntD : PyData → Bool
  | .int _ => true
  | _ => false
theorem isIntD_eq (d : PyData) : isIntD d = (kI d && !kB d) := by cases d <;> rfl
def isNumD : PyData → Bool
  | .int i => decide (0 ≤ i)
  | _ => false
def abc : Str := "abcdefghijklmnopqrstuvwxyz"
def isNameS (x : Str) : Bool := decide (1 ≤ x.length ∧ x.length ≤ 8) && x.cps.toList.all fun c => decide (c ∈ abc.cps.toList)
def isNameD : PyData → Bool
  | .str x => isNameS x
  | _ => false
def isWordS (x : Str) : Bool := decide (x = "close" ∨ x = "ended" ∨ x = "send" ∨ x = "take")
def isWordD : PyData → Bool
  | .str x => isWordS x
  | _ => false
def isElseD : PyData → Bool
  | .str x => decide (x = "else")
  | _ => false
def isArmD : PyData → Bool
  | .tuple [a, b] => isElseD a && isNumD b
  | .tuple [a, b, c] => isWordD a && (isNameD b && isNumD c)
  | _ => false
theorem dq_int {H : Hp} {v : V} {d : PyData} (h : Dq H v d) (e : isIntD d = true) : ∃ i, v = .int i ∧ d = .int i := by
  cases h with
  | int i => exact ⟨i, rfl, rfl⟩
  | _ => cases e
theorem dq_str {H : Hp} {v : V} {d : PyData} (h : Dq H v d) (e : kS d = true) : ∃ x, v = .str x ∧ d = .str x := by
  cases h with
  | str x => exact ⟨x, rfl, rfl⟩
  | _ => cases e
theorem dq_tup {H : Hp} {v : V} {d : PyData} (h : Dq H v d) (e : kT d = true) : ∃ a xs ds, v = .ref a ∧ d = .tuple ds ∧ H a = some (.tup xs) ∧ DqAll H xs ds := by
  cases h with
  | tup h t => exact ⟨_, _, _, rfl, rfl, h, t⟩
  | _ => cases e

/-- a def that tells something of any data (of which C holds) -/
def spPred (C : PyData → Prop) (p : PyData → Bool) : Sp := fun vs H Q _ => ∃ v d, vs = [v] ∧ Dq H v d ∧ C d ∧
  ∀ H', Ext H H' → Q (.bl (p d)) H'
/-- a plain text of bounded length -/
def Tx (x : Str) : Prop := x.length ≤ 1000 ∧ ∀ c ∈ x.cps.toList, c < 128
def Ok1 (d : PyData) : Prop := ∀ x, d = .str x → Tx x
def OkT (d : PyData) : Prop := ∀ ds e, d = .tuple ds → e ∈ ds → Ok1 e
def Any (_ : PyData) : Prop := True

/-- the signs of a text asked one by one -/
theorem signs_all (x : Str) (p : Nat → Bool) : ((List.range x.cps.size).filter (fun _ => true)).map (fun i => V.bl (p (x.cps.toList.getD i 0))) = (x.cps.toList.map p).map V.bl := by
  rw [List.filter_eq_self.mpr (fun _ _ => rfl)]
  have h := map_range_getD (fun c => V.bl (p c)) x.cps.toList
  rw [Array.length_toList] at h
  rw [h, List.map_map]
  rfl
theorem signs_filter (x : Str) (p : Nat → Bool) : ((List.range x.cps.size).filter (fun i => p (x.cps.toList.getD i 0))).map (sg x) = (x.cps.toList.filter p).map fun c => V.str ⟨#[c]⟩ := by
  have h := filter_map_getD p x.cps.toList
  rw [Array.length_toList] at h
  rw [← h, List.map_map]
  rfl
theorem kS_not {d : PyData} (h : (!kS d) = true) : isNameD d = false := by
  cases d with
  | str x => cases h
  | _ => rfl
theorem kS_yes {d : PyData} (h : ¬ (!kS d) = true) : kS d = true := by
  cases e : kS d with
  | true => rfl
  | false => rw [e] at h; exact absurd rfl h
theorem isNameS_short {x : Str} (h : ¬ (1 ≤ x.length ∧ x.length ≤ 8)) : isNameS x = false := by
  unfold isNameS
  rw [decide_eq_false h, Bool.false_and]
theorem isNameS_long {x : Str} (h : 1 ≤ x.length ∧ x.length ≤ 8) : isNameS x = x.cps.toList.all fun c => decide (c ∈ abc.cps.toList) := by
  unfold isNameS
  rw [decide_eq_true h, Bool.true_and]
theorem all_id_map (p : Nat → Bool) : ∀ l : List Nat, (l.map p).all id = l.all p
  | [] => rfl
  | a :: l => by rw [List.map_cons, List.all_cons, List.all_cons, all_id_map p l]; rfl
theorem filter_empty_all (p : Nat → Bool) : ∀ l : List Nat, (l.filter fun c => !p c).isEmpty = l.all p
  | [] => rfl
  | a :: l => by
    rw [List.filter_cons, List.all_cons, ← filter_empty_all p l]
    cases p a <;> rfl
end Ol

set_option Elab.async false
set_option linter.all false
set_option maxRecDepth 100000
set_option maxHeartbeats 4000000
namespace Ol
open PySem PySem.Spec PyProof.Rows L2

/-- a def of the module, found by its name, and its promise -/
structure Ca (P : Program) (w : World) (K : PySem.W.Frag) (mg : Str → Option Value) (base : Heap)
    (k : Nat) (x : Str) (ps : List Str) (sp : Sp) : Prop where
  has : ∃ (f : Addr) (fd : FuncData), FnOk P w K mg base CX0 k f fd ps sp ∧ mg x = some (.ref f) ∧
    PySem.W.keepIn K (.ref f) = true ∧ Binds K fd ps []
/-- the same where no display is under way -/
structure Cg (P : Program) (w : World) (K : PySem.W.Frag) (mg : Str → Option Value) (base : Heap)
    (k : Nat) (x : Str) (ps : List Str) (sp : Sp) : Prop where
  has : ∃ (f : Addr) (fd : FuncData), FnG P w K mg base k f fd ps sp ∧ mg x = some (.ref f) ∧
    PySem.W.keepIn K (.ref f) = true ∧ Binds K fd ps []
section
variable {X : Cx} {k : Nat} {ps : List Str} {sp : Sp} {x : Str} {e : Expr} {es : List Expr} {t : TA} {p pos : Pos}
theorem pe_ca (C : Ca X.prog X.w X.K X.mg X.base k x ps sp) (hr : Room k X.A) (hg : Gl X x) (ha : PA X (e :: es) t)
    (hdb : (x == ("__debug__" : Str)) = false := by decide)
    (he : starEach (e :: es) X.env = (false, eval e X.env) :: starEach es X.env := by rfl)
    (hpl : (backTo pos (starEach es X.env)).any (·.1) = false := by rfl) :
    PE X (.Call (.Name x p) (e :: es) [] pos) (tCall sp [] E0 t) := by
  obtain ⟨f, fd, F, g, kp, b⟩ := C.has
  exact pe_call F hr hg g kp b .nil pass0 ha hdb he hpl
theorem pe_cg (C : Cg X.prog X.w X.K X.mg X.base k x ps sp) (hG : X.A.guards = some []) (hr : Room k X.A) (hg : Gl X x) (ha : PA X (e :: es) t)
    (hdb : (x == ("__debug__" : Str)) = false := by decide)
    (he : starEach (e :: es) X.env = (false, eval e X.env) :: starEach es X.env := by rfl)
    (hpl : (backTo pos (starEach es X.env)).any (·.1) = false := by rfl) :
    PE X (.Call (.Name x p) (e :: es) [] pos) (tCall sp [] E0 t) := by
  obtain ⟨f, fd, F, g, kp, b⟩ := C.has
  exact pe_callG F hG hr hg g kp b ha hdb he hpl
end

/-- == and != of data -/
def rEqQ : R2 := fun x y H Q => ∃ d e, Sys H ∧ Dq H x d ∧ Dq H y e ∧ SeqAt.shaped d = true ∧ SeqAt.shaped e = true ∧ Q (.bl (PyData.eqv d e)) H
def rNeQ : R2 := fun x y H Q => ∃ d e, Sys H ∧ Dq H x d ∧ Dq H y e ∧ SeqAt.shaped d = true ∧ SeqAt.shaped e = true ∧ Q (.bl (!PyData.eqv d e)) H
theorem op_eqQ {X : Cx} {k : Nat} (hr : Room k X.A) : OpR X (compareOp .Eq) rEqQ := by
  intro pins s σ H x y v u Q I rx ry h
  obtain ⟨d, e, S, hd, he, sd, se, q⟩ := h
  obtain ⟨as, r1, _⟩ := Dq.reads I S hd rx
  obtain ⟨bs, r2, _⟩ := Dq.reads I S he ry
  exact SeqAt.compareEq_shaped r1 r2 sd se hr.units ⟨.bl _, H, I, rfl, q⟩
theorem op_neQ {X : Cx} {k : Nat} (hr : Room k X.A) : OpR X (compareOp .NotEq) rNeQ := by
  intro pins s σ H x y v u Q I rx ry h
  obtain ⟨d, e, S, hd, he, sd, se, q⟩ := h
  obtain ⟨as, r1, _⟩ := Dq.reads I S hd rx
  obtain ⟨bs, r2, _⟩ := Dq.reads I S he ry
  exact SeqAt.compareNe_shaped r1 r2 sd se hr.units ⟨.bl _, H, I, rfl, q⟩

/-- data that may be shown -/
structure Fits (d : PyData) : Prop where
  sh : d.showable = true
  dep : d.depth ≤ 40
  len : d.shown.length ≤ sizeLine

/-- f(x, y) of two equal data gives True -/
def spAlike : Sp := fun vs H Q _ => ∃ v u d, vs = [v, u] ∧ Sys H ∧ Dq H v d ∧ Dq H u d ∧ SeqAt.shaped d = true ∧ Fits d ∧
  ∀ H', Ext H H' → Q (.bl true) H'
end Ol

set_option Elab.async false
set_option linter.all false
set_option maxRecDepth 100000
set_option maxHeartbeats 4000000
namespace Ol
open PySem PySem.Spec PyProof.Rows L2

/-- a new bag of a script's cells -/
def spBag0 (K : PySem.W.Frag) : Sp := fun vs H Q _ => ∃ (a : Addr) (ns : List Int), vs = [.ref a] ∧ SqL K H a (ns.map V.int) ∧ ns.length ≤ 1000 ∧
  ∀ (p c : Addr) (cs : List Int) (H' : Hp), H p = none → Ext H H' → H' p = some (.lst (bagL 0 1234567891 0 c)) → H' c = some (.lst (cs.map V.int)) → (∀ n ∈ cs, 0 ≤ n) → c ≠ p → Q (.ref p) H'
def spBag (K : PySem.W.Frag) : Sp := fun vs H Q _ => ∃ (a : Addr) (ns : List Int), vs = [.ref a] ∧ SqL K H a (ns.map V.int) ∧ ns.length ≤ 1000 ∧
  ∀ (p : Addr) (H' : Hp), Ext H H' → Bag H' p → Q (.ref p) H'
section
variable {P : Program} {w : World} {K : PySem.W.Frag} {mg : Str → Option Value} {base : Heap}
theorem hideBag {k : Nat} {f : Addr} {fd : FuncData} {ps : List Str} (F : FnOk P w K mg base CX0 k f fd ps (spBag0 K)) :
    FnOk P w K mg base CX0 k f fd ps (spBag K) := by
  refine ⟨?_, ?_⟩
  · rintro vs H Q E ⟨a, ns, rfl, h1, h2, q⟩
    exact F.len [.ref a] H (fun _ _ => True) E0 ⟨a, ns, rfl, h1, h2, fun _ _ _ _ _ _ _ _ _ _ => trivial⟩
  · rintro A outer s H args us vs Q E hr e0 hb rv ⟨a, ns, rfl, h1, h2, q⟩
    have run := F.run A outer s H args us [.ref a]
      (fun v H' => ∃ (p c : Addr) (cs : List Int), v = .ref p ∧ H p = none ∧ Ext H H' ∧ H' p = some (.lst (bagL 0 1234567891 0 c)) ∧ H' c = some (.lst (cs.map V.int)) ∧ (∀ n ∈ cs, 0 ≤ n) ∧ c ≠ p)
      E hr e0 hb rv ⟨a, ns, rfl, h1, h2, fun p c cs H' g1 g2 g3 g4 g5 g6 => ⟨p, c, cs, rfl, g1, g2, g3, g4, g5, g6⟩⟩
    refine codeAny_mono run ?_
    intro res s' h
    match res, h with
    | .error _, h => exact h.elim
    | .ok .next, h => exact h.elim
    | .ok .brk, h => exact h.elim
    | .ok .cont, h => exact h.elim
    | .ok (.ret u), h =>
      obtain ⟨v, H', os, bare, un, hok', rv', p, c, cs, rfl, g1, g2, g3, g4, g5, g6⟩ := h
      have mu' : Mut (H' p) := by
        rw [g3]
        trivial
      obtain ⟨_, its, n', r', eo'⟩ := hok' p _ g3
      have shape : ∃ y0 y1 y2, its = [.int 0 y0, .int 1234567891 y1, .int 0 y2, .ref c] := by
        cases r' with
        | cons q0 r' => cases r' with
          | cons q1 r' => cases r' with
            | cons q2 r' => cases r' with
              | cons q3 r' =>
                cases r'
                obtain ⟨y0, rfl⟩ := q0
                obtain ⟨y1, rfl⟩ := q1
                obtain ⟨y2, rfl⟩ := q2
                cases q3
                exact ⟨y0, y1, y2, rfl⟩
      obtain ⟨y0, y1, y2, rfl⟩ := shape
      have nw' : ObjOk P w (upd H' p (.ext (bagP p c))) s'.heap p (.ext (bagP p c)) := by
        refine ⟨⟨0, 1234567891, 0, y0, y1, y2, n', eo', by decide, by decide, by decide, by decide⟩, ⟨_, eo'⟩, ?_⟩
        rintro g g' ⟨z0, z1, z2, w0, w1, w2, n2, e2, i2⟩ hk
        exact ⟨z0, z1, z2, w0, w1, w2, n2, hk _ e2, i2⟩
      have ok2 := HOk.write hok' mu' (Or.inl rfl) (fun _ _ _ z => z) ⟨_, eo'⟩ nw'
      have un2 : Un (frs outer) [] H' (upd H' p (.ext (bagP p c))) s'.heap s'.heap := Un.write mu' (Or.inl rfl) (fun _ _ _ z => z) ⟨_, eo'⟩
      refine ⟨.ref p, upd H' p (.ext (bagP p c)), os, bare, un.trans un2, ok2, rv', q p _ (Ext.mut g2 g1) ⟨c, cs, upd_same, ?_, g5⟩⟩
      rw [upd_ne g6]
      exact g4
end

theorem map_range_getI (h : Int → V) : ∀ l : List Int, (List.range l.length).map (fun i => h (l.getD i 0)) = l.map h
  | [] => rfl
  | a :: l => by
    rw [List.length_cons, List.range_succ_eq_map, List.map_cons, List.map_map, List.map_cons]
    congr 1
    exact map_range_getI h l
theorem cut_ints (ns : List Int) (lo hi : Option Int) : ∃ cs : List Int, cutV (ns.map V.int) lo hi = cs.map V.int ∧ cs.length ≤ ns.length := by
  unfold cutV
  refine ⟨(ns.drop (HT.sIx (ns.map V.int).length 0 lo)).take (HT.sIx (ns.map V.int).length (ns.map V.int).length hi - HT.sIx (ns.map V.int).length 0 lo), ?_, ?_⟩
  · rw [List.map_take, List.map_drop]
  · rw [List.length_take, List.length_drop]
    omega
end Ol

set_option Elab.async false
set_option linter.all false
set_option maxRecDepth 100000
set_option maxHeartbeats 4000000
namespace Ol
open PySem PySem.Spec PyProof.Rows L2
open TL (tl joinL join_eq tl_join)

theorem tlen (x : Str) : x.length = (tl x).length := by
  show x.cps.size = x.cps.toList.length
  rw [Array.length_toList]
theorem tl_inj {x y : Str} (h : tl x = tl y) : x = y := by
  obtain ⟨⟨a⟩⟩ := x
  obtain ⟨⟨b⟩⟩ := y
  have h' : a = b := h
  rw [h']
theorem tl_app (x y : Str) : tl (x ++ y) = tl x ++ tl y := by
  show (x.cps ++ y.cps).toList = _
  rw [Array.toList_append]
theorem joinL_nil : ∀ ls : List (List Nat), joinL [] ls = ls.flatten
  | [] => rfl
  | [p] => by show p = [p].flatten; simp
  | p :: q :: r => by
    show p ++ ([] ++ joinL [] (q :: r)) = _
    rw [joinL_nil (q :: r), List.nil_append]
    rfl
def one (c : Nat) : Str := ⟨#[c]⟩
theorem join_signs (cs : List Nat) : tl (Txt.join "" (cs.map one)) = cs := by
  rw [join_eq, tl_join]
  show joinL [] _ = cs
  rw [joinL_nil, List.map_map]
  induction cs with
  | nil => rfl
  | cons a l ih =>
    rw [List.map_cons, List.flatten_cons, ih]
    rfl
theorem ones_len : ∀ cs : List Nat, ((cs.map one).map (·.length)).sum = cs.length
  | [] => rfl
  | a :: l => by
    rw [List.map_cons, List.map_cons, List.sum_cons, ones_len l, List.length_cons]
    show 1 + l.length = l.length + 1
    omega
theorem cut_drop (xs : List V) (t : Nat) : cutV xs (some (t : Int)) none = xs.drop t := by
  unfold cutV
  rw [HT.sIx_none, HT.sIx_nat]
  by_cases h : t ≤ xs.length
  · rw [Nat.min_eq_left h, List.take_of_length_le]
    rw [List.length_drop]
    exact Nat.le_refl _
  · rw [Nat.min_eq_right (by omega), Nat.sub_self, List.take_zero, List.drop_of_length_le (by omega)]
theorem cut_take (xs : List V) (t : Nat) : cutV xs none (some (t : Int)) = xs.take t := by
  unfold cutV
  rw [HT.sIx_none, HT.sIx_nat, Nat.sub_zero, List.drop_zero]
  by_cases h : t ≤ xs.length
  · rw [Nat.min_eq_left h]
  · rw [Nat.min_eq_right (by omega), List.take_of_length_le (Nat.le_refl _), List.take_of_length_le (by omega)]
theorem cutS_drop (z : Str) (t : Nat) : tl (cutS z (some (t : Int)) none) = (tl z).drop t := by
  unfold cutS
  rw [HT.sIx_none, HT.sIx_nat]
  have hl := tlen z
  show List.take _ _ = _
  by_cases h : t ≤ z.length
  · rw [Nat.min_eq_left h, List.take_of_length_le]
    rw [List.length_drop, hl]
    exact Nat.le_refl _
  · rw [Nat.min_eq_right (by omega), Nat.sub_self, List.take_zero, List.drop_of_length_le (by omega)]
theorem cutS_take (z : Str) (t : Nat) : tl (cutS z none (some (t : Int))) = (tl z).take t := by
  unfold cutS
  rw [HT.sIx_none, HT.sIx_nat, Nat.sub_zero]
  have hl := tlen z
  show List.take _ (List.drop 0 _) = _
  rw [List.drop_zero]
  by_cases h : t ≤ z.length
  · rw [Nat.min_eq_left h]
  · rw [Nat.min_eq_right (by omega), List.take_of_length_le (by rw [hl]; exact Nat.le_refl _), List.take_of_length_le (by omega)]

def abcL : List Nat := tl abc
theorem abc_at : ∀ r, r < 26 → abcL[r]? = some (97 + r) := by decide +kernel
theorem abc_mem {r : Nat} (h : r < 26) : 97 + r ∈ abcL := List.mem_of_getElem? (abc_at r h)
theorem abc_low : ∀ c ∈ abcL, c < 128 := by decide +kernel
theorem name_of {x : Str} (h1 : 1 ≤ (tl x).length) (h2 : (tl x).length ≤ 8) (h3 : ∀ c ∈ tl x, c ∈ abcL) : isNameS x = true := by
  rw [isNameS_long (by rw [tlen]; exact ⟨h1, h2⟩), List.all_eq_true]
  exact fun c hc => decide_eq_true (h3 c hc)
theorem name_tl {x : Str} (h : isNameS x = true) : 1 ≤ (tl x).length ∧ (tl x).length ≤ 8 ∧ ∀ c ∈ tl x, c ∈ abcL := by
  unfold isNameS at h
  rw [Bool.and_eq_true] at h
  have h1 := of_decide_eq_true h.1
  rw [tlen] at h1
  exact ⟨h1.1, h1.2, fun c hc => of_decide_eq_true (List.all_eq_true.mp h.2 c hc)⟩
theorem name_tx {x : Str} (h : isNameS x = true) : Tx x := by
  obtain ⟨_, h2, h3⟩ := name_tl h
  exact ⟨by rw [tlen]; omega, fun c hc => abc_low c (h3 c hc)⟩

/-- new names, all different -/
structure Names (ys : List Str) (m : Nat) : Prop where
  len : ys.length = m
  nd : ys.Nodup
  ok : ∀ y ∈ ys, isNameS y = true

def wordsA : Str := "send take ended close else first any step quit server back again where log a b ab ba z"
def wordsB : Str := " stuck seat sticks lane"
def wordL : List Str := ["send", "take", "ended", "close", "else", "first", "any", "step", "quit", "server", "back", "again", "where", "log", "a", "b", "ab", "ba", "z", "stuck", "seat", "sticks", "lane"]
theorem split_words : Txt.split (wordsA ++ wordsB) " " = wordL := by decide +kernel
theorem wordL_ok : ∀ y ∈ wordL, isNameS y = true := by decide +kernel
theorem wordL_rot : ∀ t, t < 20 → (wordL.drop t ++ wordL.take t).Nodup := by decide +kernel
theorem names0 (t m : Nat) (ht : t < 20) (hm : m ≤ 20) : Names ((wordL.drop t ++ wordL.take t).take m) m := by
  refine ⟨?_, (wordL_rot t ht).sublist (List.take_sublist _ _), fun y hy => ?_⟩
  · rw [List.length_take, List.length_append, List.length_drop, List.length_take]
    have e : wordL.length = 23 := rfl
    omega
  · have h := List.mem_of_mem_take hy
    rcases List.mem_append.mp h with h | h
    · exact wordL_ok y (List.mem_of_mem_drop h)
    · exact wordL_ok y (List.mem_of_mem_take h)
def let1 (t k : Nat) : Nat := 97 + (t + 3 * k) % 26
theorem names1 (t m : Nat) (hm : m ≤ 8) : Names ((List.range m).map fun k => one (let1 t k)) m := by
  refine ⟨by rw [List.length_map, List.length_range], ?_, ?_⟩
  · rw [List.nodup_iff_pairwise_ne, List.pairwise_map]
    refine (List.pairwise_lt_range (n := m)).imp_of_mem ?_
    intro a b ha hb hab e
    have ha := List.mem_range.mp ha
    have hb := List.mem_range.mp hb
    have e1 : [let1 t a] = [let1 t b] := congrArg tl e
    have e2 : let1 t a = let1 t b := by injection e1
    unfold let1 at e2
    omega
  · intro y hy
    obtain ⟨k, _, rfl⟩ := List.mem_map.mp hy
    refine name_of (Nat.le_refl 1) (by show 1 ≤ 8; decide) fun c hc => ?_
    have hc' : c ∈ [let1 t k] := hc
    rw [List.mem_singleton] at hc'
    rw [hc']
    exact abc_mem (Nat.mod_lt _ (by decide))
/-- the names of the third style, as texts with these signs -/
theorem names2 (cs : List Nat) (at_ t m : Nat) (f : Nat → Str) (hc1 : 1 ≤ cs.length) (hc7 : cs.length ≤ 7) (hc : ∀ c ∈ cs, c ∈ abcL) (hm : m ≤ 8) (ha : at_ ≤ cs.length)
    (hf : ∀ k, k < m → tl (f k) = cs.take at_ ++ [let1 t k] ++ cs.drop at_) : Names ((List.range m).map f) m := by
  refine ⟨by rw [List.length_map, List.length_range], ?_, ?_⟩
  · rw [List.nodup_iff_pairwise_ne, List.pairwise_map]
    refine (List.pairwise_lt_range (n := m)).imp_of_mem ?_
    intro a b ha hb hab e
    have ha := List.mem_range.mp ha
    have hb := List.mem_range.mp hb
    have e1 := congrArg tl e
    rw [hf a ha, hf b hb, List.append_assoc, List.append_assoc] at e1
    have e2 := List.append_cancel_left e1
    have e3 : let1 t a = let1 t b := by
      simp only [List.cons_append, List.nil_append, List.cons.injEq] at e2
      exact e2.1
    unfold let1 at e3
    omega
  · intro y hy
    obtain ⟨k, hk, rfl⟩ := List.mem_map.mp hy
    have hk := List.mem_range.mp hk
    refine name_of ?_ ?_ fun c hc' => ?_
    · rw [hf k hk]
      simp
      omega
    · rw [hf k hk]
      simp
      omega
    · rw [hf k hk] at hc'
      simp only [List.mem_append, List.mem_singleton] at hc'
      rcases hc' with (h | h) | h
      · exact hc c (List.mem_of_mem_take h)
      · rw [h]
        exact abc_mem (Nat.mod_lt _ (by decide))
      · exact hc c (List.mem_of_mem_drop h)
/-- texts of one sign each -/
theorem ones_of {n : Nat} {xs : List V} (h : xs.length = n) (hr : ∀ (i : Nat) (y : V), xs[i]? = some y → ∃ c, c ∈ abcL ∧ y = .str (one c)) :
    ∃ cs : List Nat, xs = (cs.map one).map V.str ∧ cs.length = n ∧ ∀ c ∈ cs, c ∈ abcL := by
  induction xs generalizing n with
  | nil => exact ⟨[], rfl, h, fun _ z => by cases z⟩
  | cons v xs ih =>
    obtain ⟨cs, e, hl, hc⟩ := ih (n := xs.length) rfl fun i y z => hr (i + 1) y (by rw [List.getElem?_cons_succ]; exact z)
    obtain ⟨c, hm, rfl⟩ := hr 0 v rfl
    refine ⟨c :: cs, by rw [e]; rfl, by rw [← h, List.length_cons, List.length_cons, hl], fun x hx => ?_⟩
    rcases List.mem_cons.mp hx with z | z
    · rw [z]
      exact hm
    · exact hc x z
/-- names drawn from a bag -/
def spNames : Sp := fun vs H Q _ => ∃ (a : Addr) (m : Int), vs = [.ref a, .int m] ∧ Bag H a ∧ 1 ≤ m ∧ m ≤ 8 ∧
  ∀ (p : Addr) (ys : List Str) (H' : Hp), Ext H H' → H p = none → H' p = some (.lst (ys.map V.str)) → Names ys m.toNat → Q (.ref p) H'
end Ol

set_option Elab.async false
set_option linter.all false
set_option maxRecDepth 100000
set_option maxHeartbeats 4000000
namespace Ol
open PySem PySem.Spec PyProof.Rows L2
open TL (tl)

/-! ### s * n, n small -/
def repS (z : Str) (n : Nat) : Str := if n = 0 then Str.empty else if n = 1 then z else ⟨(List.replicate n z.cps).foldl (· ++ ·) #[]⟩
def rRepS : R2 := fun x y H Q => ∃ (z : Str) (n : Nat), x = .str z ∧ y = .int (n : Int) ∧ n ≤ 1000 ∧ z.length = 1 ∧ (repS z n).length ≤ sizeLine ∧ Q (.str (repS z n)) H
theorem op_repS {X : Cx} : OpR X (binaryOp .Mult) rRepS := by
  intro pins s σ H x y v u Q I rx ry h
  obtain ⟨z, n, rfl, rfl, hn, hz, hl, q⟩ := h
  obtain ⟨t, rfl⟩ := rx
  obtain ⟨t', rfl⟩ := ry
  have tl0 : ¬ (n : Int) < 1 → ((n : Int) == 1 || z.length == 0) = false → Builtin.Str.tooLong (z.length * (n : Int).toNat) = false := by
    intro _ _
    unfold Builtin.Str.tooLong
    exact decide_eq_false (by rw [hz]; show ¬ _ > 2 ^ 24; omega)
  refine PySem.P.mul_str ?_ ?_ tl0 ?_
  · rw [decide_eq_false (by omega), decide_eq_false (by omega)]
    rfl
  · intro h1 h2 h3
    have h4 : 0 < (n : Int) := by omega
    have h5 : ((2 : Int) ^ 63 - 1) / n ≥ 1 := Int.le_ediv_of_mul_le h4 (by omega)
    rw [hz] at h3
    omega
  · by_cases h0 : n = 0
    · subst h0
      exact ⟨by decide, .str Str.empty, H, I.tok _, ⟨_, rfl⟩, q⟩
    · rw [if_neg (by omega)]
      by_cases h1 : n = 1
      · subst h1
        rw [if_pos (show (((1 : Nat) : Int) == 1 || z.length == 0) = true from rfl)]
        exact ⟨.str z, H, I, ⟨_, rfl⟩, q⟩
      · have hf : ((n : Int) == 1 || z.length == 0) = false := by
          rw [hz, Bool.or_eq_false_iff]
          exact ⟨beq_eq_false_iff_ne.mpr (by omega), rfl⟩
        rw [hf, if_neg Bool.false_ne_true]
        have e : repS z n = ⟨(List.replicate (n : Int).toNat z.cps).foldl (· ++ ·) #[]⟩ := by
          unfold repS
          rw [if_neg h0, if_neg h1]
          rfl
        rw [e] at q hl
        exact ⟨hl, .str _, H, I.tok _, ⟨_, rfl⟩, q⟩

def far (n : Nat) : Str := "1" ++ repS "0" n
theorem far_int : ∀ n, n < 40 → PySem.intText? (far n) = some (10 ^ n) := by decide +kernel
theorem far_len : ∀ n, n < 40 → (far n).length ≤ 640 ∧ (repS "0" n).length ≤ 1000 := by decide +kernel
theorem pow_fit : ∀ n, n < 40 → ((10 : Int) ^ n).natAbs.log2 < 1920 ∧ (-(10 : Int) ^ n).natAbs.log2 < 1920 := by decide +kernel
theorem pow_len : ∀ n, n < 40 → ((toString ((10 : Int) ^ n) : String) : Str).length ≤ 200 ∧ ((toString (-(10 : Int) ^ n) : String) : Str).length ≤ 200 := by decide +kernel

/-! ### sizes of what is shown -/
theorem pile_le {B : Nat} : ∀ ts : List Str, (∀ t ∈ ts, t.length ≤ B) → piled ts ≤ ts.length * (B + 2)
  | [], _ => Nat.zero_le _
  | t :: ts, h => by
    rw [piled_cons, List.length_cons, Nat.succ_mul]
    have h1 := h t List.mem_cons_self
    have h2 := pile_le ts fun x hx => h x (List.mem_cons_of_mem _ hx)
    omega
theorem join_le (ts : List Str) : (Str.join ", " ts).length ≤ piled ts := by
  by_cases h : ts = []
  · subst h
    exact Nat.zero_le _
  · have := join_length_add ts h
    omega
theorem listText_le (ts : List Str) : (listText ts).length ≤ piled ts + 2 := by
  have e1 : ((("[" : String) : Str)).length = 1 := rfl
  have e2 : ((("]" : String) : Str)).length = 1 := rfl
  rw [listText_eq_join, strLen_append, strLen_append, e1, e2]
  have := join_le ts
  omega
theorem tupleText_le (ts : List Str) : (tupleText ts).length ≤ piled ts + 3 := by
  have e3 : (((if ts.length == 1 then ",)" else ")" : String) : Str)).length ≤ 2 := by split <;> decide +kernel
  have e1 : ((("(" : String) : Str)).length = 1 := rfl
  unfold tupleText
  rw [strLen_append, strLen_append, e1]
  have := join_le ts
  omega
theorem dictText_le (ts : List Str) : (dictText ts).length ≤ piled ts + 2 := by
  have e1 : ((("{" : String) : Str)).length = 1 := rfl
  have e2 : ((("}" : String) : Str)).length = 1 := rfl
  unfold dictText
  rw [strLen_append, strLen_append, e1, e2]
  have := join_le ts
  omega

/-! ### data as a law draws it: how deep, how long when shown -/
structure Gd (n : Nat) (d : PyData) : Prop where
  sh : d.showable = true
  dep : d.depth ≤ n + 1
  len : d.shown.length ≤ 200 * 8 ^ n
  ok1 : Ok1 d
  okt : OkT d
theorem Gd.up {n m : Nat} {d : PyData} (g : Gd n d) (h : n ≤ m) : Gd m d :=
  ⟨g.sh, Nat.le_trans g.dep (by omega), Nat.le_trans g.len (Nat.mul_le_mul_left _ (Nat.pow_le_pow_right (by decide) h)), g.ok1, g.okt⟩
theorem Gd.fits {n : Nat} {d : PyData} (g : Gd n d) (h : n ≤ 5) : Fits d :=
  ⟨g.sh, Nat.le_trans g.dep (by omega), Nat.le_trans (g.up h).len (by decide)⟩
theorem nope1 {d : PyData} (h : kS d = false) : Ok1 d := fun x e => by rw [e] at h; cases h
theorem nopeT {d : PyData} (h : kT d = false) : OkT d := fun ds e z _ => by rw [z] at h; cases h
theorem gd_non : Gd 0 .none := ⟨by simp [PyData.showable], by simp [PyData.depth], by decide +kernel, nope1 rfl, nopeT rfl⟩
theorem gd_bl (b : Bool) : Gd 0 (.bool b) := ⟨by simp [PyData.showable], by simp [PyData.depth], by cases b <;> decide +kernel, nope1 rfl, nopeT rfl⟩
theorem gd_int (i : Int) (h1 : i.natAbs.log2 < 1920) (h2 : ((toString i : String) : Str).length ≤ 200) : Gd 0 (.int i) :=
  ⟨by simpa [PyData.showable] using h1, by simp [PyData.depth], by simpa [PyData.shown] using h2, nope1 rfl, nopeT rfl⟩
theorem gd_str (x : Str) (h1 : x.length ≤ 19) (h2 : ∀ c ∈ tl x, c < 128) : Gd 0 (.str x) := by
  refine ⟨by simp [PyData.showable], by simp [PyData.depth], ?_, fun y e => ?_, nopeT rfl⟩
  · simp only [PyData.shown]
    have h := StrLaws.reprText_len x fun c hc => Nat.lt_of_lt_of_le (h2 c hc) (by decide)
    omega
  · cases e
    exact ⟨by omega, h2⟩
theorem pow8 (n : Nat) : 200 ≤ 200 * 8 ^ n := Nat.le_mul_of_pos_right _ (Nat.pow_pos (by decide))
theorem all_sh {n : Nat} : ∀ {ds : List PyData}, (∀ d ∈ ds, Gd n d) → PyData.showableAll ds = true ∧ PyData.depthAll ds ≤ n + 1 ∧ (∀ t ∈ PyData.shownAll ds, t.length ≤ 200 * 8 ^ n) ∧ (PyData.shownAll ds).length = ds.length
  | [], _ => ⟨by simp [PyData.showableAll], by simp [PyData.depthAll], fun t h => by simp [PyData.shownAll] at h, by simp [PyData.shownAll]⟩
  | d :: ds, h => by
    have g := h d List.mem_cons_self
    obtain ⟨h1, h2, h3, h4⟩ := all_sh fun x hx => h x (List.mem_cons_of_mem _ hx)
    refine ⟨by simp [PyData.showableAll, g.sh, h1], ?_, fun t ht => ?_, by simp [PyData.shownAll, h4]⟩
    · simp only [PyData.depthAll]
      exact Nat.max_le.mpr ⟨g.dep, h2⟩
    · simp only [PyData.shownAll] at ht
      rcases List.mem_cons.mp ht with e | e
      · rw [e]
        exact g.len
      · exact h3 t e
theorem gd_size {n : Nat} {ds : List PyData} (h : ∀ d ∈ ds, Gd n d) (h5 : ds.length ≤ 5) : piled (PyData.shownAll ds) + 3 ≤ 200 * 8 ^ (n + 1) := by
  obtain ⟨_, _, h3, h4⟩ := all_sh h
  have z := pile_le _ h3
  have p := pow8 n
  rw [h4] at z
  have z2 : ds.length * (200 * 8 ^ n + 2) ≤ 5 * (200 * 8 ^ n + 2) := Nat.mul_le_mul_right _ h5
  rw [Nat.pow_succ]
  omega
theorem gd_list {n : Nat} {ds : List PyData} (h : ∀ d ∈ ds, Gd n d) (h5 : ds.length ≤ 5) : Gd (n + 1) (.list ds) := by
  obtain ⟨h1, h2, _, _⟩ := all_sh h
  have z := gd_size h h5
  refine ⟨by simpa [PyData.showable] using h1, by simp only [PyData.depth]; omega, ?_, nope1 rfl, nopeT rfl⟩
  simp only [PyData.shown]
  have := listText_le (PyData.shownAll ds)
  omega
theorem gd_tuple {n : Nat} {ds : List PyData} (h : ∀ d ∈ ds, Gd n d) (h5 : ds.length ≤ 5) : Gd (n + 1) (.tuple ds) := by
  obtain ⟨h1, h2, _, _⟩ := all_sh h
  have z := gd_size h h5
  refine ⟨by simpa [PyData.showable] using h1, by simp only [PyData.depth]; omega, ?_, nope1 rfl, fun es e he hm => ?_⟩
  · simp only [PyData.shown]
    have := tupleText_le (PyData.shownAll ds)
    omega
  · cases he
    exact (h e hm).ok1
theorem gd_nil : Gd 0 (.list []) := ⟨by simp [PyData.showable, PyData.showableAll], by simp [PyData.depth, PyData.depthAll], by decide +kernel, nope1 rfl, nopeT rfl⟩
theorem gd_tnil : Gd 0 (.tuple []) := ⟨by simp [PyData.showable, PyData.showableAll], by simp [PyData.depth, PyData.depthAll], by decide +kernel, nope1 rfl, fun ds e he hm => by cases he; cases hm⟩
theorem gd_dnil : Gd 0 (.dict []) := ⟨by simp [PyData.showable, PyData.showableKv], by simp [PyData.depth, PyData.depthKv], by decide +kernel, nope1 rfl, nopeT rfl⟩
theorem gd_dict1 {n : Nat} {d : PyData} (g : Gd n d) : Gd (n + 1) (.dict [(.str "a", d)]) := by
  refine ⟨by simp [PyData.showable, PyData.showableKv, g.sh], ?_, ?_, nope1 rfl, nopeT rfl⟩
  · simp only [PyData.depth, PyData.depthKv]
    have := g.dep
    omega
  · simp only [PyData.shown, PyData.shownKv]
    have h1 := dictText_le [reprText "a" ++ ": " ++ d.shown]
    have h2 : piled [reprText "a" ++ ": " ++ d.shown] = (reprText "a" ++ ": " ++ d.shown).length + 2 := by simp [piled]
    have h3 : (reprText "a" ++ ": " ++ d.shown).length = 5 + d.shown.length := by
      rw [strLen_append, strLen_append]
      have e : (reprText "a").length = 3 := by decide +kernel
      have e2 : ((": " : Str)).length = 2 := rfl
      omega
    have h4 := g.len
    have p := pow8 n
    rw [Nat.pow_succ]
    omega
/-- a value that stands for such data -/
def Th (n : Nat) (v : V) (H : Hp) : Prop := ∃ d, Dq H v d ∧ Gd n d
theorem Th.up {n m : Nat} {v : V} {H H' : Hp} (h : Th n v H) (e : Ext H H') (hn : n ≤ m) : Th m v H' := by
  obtain ⟨d, h1, h2⟩ := h
  exact ⟨d, h1.up e, h2.up hn⟩
/-- a list of such values -/
theorem th_all {n : Nat} {H : Hp} : ∀ {xs : List V}, (∀ x ∈ xs, Th n x H) → ∃ ds, DqAll H xs ds ∧ (∀ d ∈ ds, Gd n d) ∧ ds.length = xs.length
  | [], _ => ⟨[], .nil, (fun _ h => nomatch h), rfl⟩
  | x :: xs, h => by
    obtain ⟨d, h1, h2⟩ := h x List.mem_cons_self
    obtain ⟨ds, h3, h4, h5⟩ := th_all fun y hy => h y (List.mem_cons_of_mem _ hy)
    refine ⟨d :: ds, .cons h1 h3, fun e he => ?_, by rw [List.length_cons, List.length_cons, h5]⟩
    rcases List.mem_cons.mp he with z | z
    · rw [z]
      exact h2
    · exact h4 e z
theorem th_list {n : Nat} {H : Hp} {p : Addr} {xs : List V} (hp : H p = some (.lst xs)) (h : ∀ x ∈ xs, Th n x H) (h5 : xs.length ≤ 5) : Th (n + 1) (.ref p) H := by
  obtain ⟨ds, h1, h2, h3⟩ := th_all h
  exact ⟨_, .lst hp h1, gd_list h2 (by omega)⟩
theorem th_tuple {n : Nat} {H : Hp} {p : Addr} {xs : List V} (hp : H p = some (.tup xs)) (h : ∀ x ∈ xs, Th n x H) (h5 : xs.length ≤ 5) : Th (n + 1) (.ref p) H := by
  obtain ⟨ds, h1, h2, h3⟩ := th_all h
  exact ⟨_, .tup hp h1, gd_tuple h2 (by omega)⟩
/-- a text drawn from a bag -/
def spText : Sp := fun vs H Q _ => ∃ (a : Addr), vs = [.ref a] ∧ Bag H a ∧ ∀ (x : Str) (H' : Hp), Ext H H' → x.length ≤ 19 → (∀ c ∈ tl x, c < 128) → Q (.str x) H'
/-- a value drawn from a bag, so deep -/
def spPart (n : Nat) : Sp := fun vs H Q _ => ∃ (a : Addr), vs = [.ref a, .int (n : Int)] ∧ Bag H a ∧ ∀ (v : V) (H' : Hp), Ext H H' → Th (2 * n) v (nw H H') → Q v H'
def spThing : Sp := fun vs H Q _ => ∃ (a : Addr), vs = [.ref a] ∧ Bag H a ∧ ∀ (v : V) (H' : Hp), Ext H H' → Th 5 v H' → Q v H'
end Ol

set_option Elab.async false
set_option linter.all false
set_option maxRecDepth 100000
set_option maxHeartbeats 4000000
namespace Ol
open PySem PySem.Spec PyProof.Rows L2

/-- one statement of several -/
theorem cutW {X : Cx} {s : Stmt} {r : List Stmt} {D : Ends} (U W : L2.St → Hp → Prop)
    (h1 : ∃ t1, PS X s t1 ∧ ∀ nx : L2.St → Hp → Prop, (∀ σ' H', W σ' H' → nx σ' H') → ∀ σ H, U σ H → t1 { D with nx := nx } σ H)
    (h2 : ∃ t2, PSs X r t2 ∧ ∀ σ H, W σ H → t2 D σ H) : ∃ t, PSs X (s :: r) t ∧ ∀ σ H, U σ H → t D σ H := by
  obtain ⟨t2, d2, k2⟩ := h2
  obtain ⟨t1, d1, k1⟩ := h1
  exact ⟨_, pss_cons d1 d2, fun σ H u => k1 _ k2 σ H u⟩
theorem tyes {σ : L2.St} {H : Hp} {A B : Hp → Prop} (h : A H) : tYes σ H (fun b H3 => if b = true then A H3 else B H3) := by
  unfold tYes
  dsimp only
  rw [if_pos rfl]
  exact h
/-- any list comprehension of one clause: P holds of the turn, the list so far, and what is new -/
theorem lc_acc {J : It} {n : Nat} {G : Hp → Prop} {Y : Nat → Hp → V → Hp → Prop} (w : Walk J n G Y) {g : TG} {tt : TT} {te : TE} {vs : List Nat} {σ : L2.St} {H1 : Hp} {D : Addr} {Qd : Hp → Prop}
    (P : Nat → List V → Hp → Prop) (up : ∀ i xs H H', Ext H H' → P i xs H → P i xs H') (h0 : P 0 [] (fun _ => none)) (hD : H1 D = none)
    (hlen : ∀ i xs H, P i xs H → xs.length ≤ i) (hn : n ≤ sizeLine) (hG : ∀ H, Ext H1 H → G H)
    (hs : ∀ i x H H' xs, i < n → Ext H1 H → Y i H x H' → P i xs (nw (upd H1 D (.lst [])) H) →
      ∀ (QY : V → Hp → Prop) (QN : Hp → Prop),
        (∀ y H4, Ext H H4 → ((∀ Hz, Ext (nw H H4) Hz → P i xs Hz → P (i + 1) (xs ++ [y]) Hz)) → QY y H4) →
        (∀ H4, Ext H H4 → (∀ Hz, P i xs Hz → P (i + 1) xs Hz) → QN H4) →
        g x (wipe σ vs) H' fun σ2 H2 => wipe σ2 vs = wipe σ vs ∧ tt σ2 H2 fun b H3 => if b = true then te σ2 H3 QY else QN H3)
    (hd : ∀ H xs, Ext H1 H → H D = some (.lst xs) → P n xs (nw H1 H) → Qd H) :
    ∃ W : Nat → Nat → Hp → Prop, (∃ m, W 0 m (upd H1 D (.lst []))) ∧ ∀ i m H, W i m H →
      (J.stop i H ∧ Qd H) ∨ (J.go i H ∧ ∃ Nx : Hp → Prop, (∀ H', Nx H' → ∃ m', m' < m ∧ W (i + 1) m' H') ∧ ∀ x H', J.yld i H x H' → g x (wipe σ vs) H' fun σ2 H2 => wipe σ2 vs = wipe σ vs ∧ tt σ2 H2 fun b H3 =>
        if b = true then te σ2 H3 fun y H4 => ∃ acc, H4 D = some (.lst acc) ∧ acc.length < sizeLine ∧ Nx (upd H4 D (.lst (acc ++ [y]))) else Nx H3) := by
  let Hs : Hp := upd H1 D (.lst [])
  have hsD : Hs D = some (.lst []) := upd_same
  have e1 : Ext H1 Hs := Ext.new hD
  refine lc_it w (fun i H => ∃ xs, Ext H1 H ∧ H D = some (.lst xs) ∧ P i xs (nw Hs H))
    ⟨[], e1, hsD, up 0 [] _ _ (fun _ o z => by have z' : (none : Option HO) = some o := z; cases z') h0⟩ (by rintro i H _ ⟨xs, e, _⟩; exact hG H e) ?_ ?_
  · rintro i x H H' hi ⟨xs, e, hx, hp⟩ y
    have dom : ∀ b, H b = none → Hs b = none := by
      intro b q
      have z : b ≠ D := fun z => by rw [z, hx] at q; cases q
      rw [show Hs b = H1 b from upd_ne z]
      exact e.free q
    refine hs i x H H' xs hi e y hp _ _ ?_ ?_
    · intro v H4 e4 k
      refine ⟨xs, e4 _ _ hx, by have := hlen _ _ _ hp; omega, xs ++ [v], Ext.mut (e.trans e4) hD, upd_same, ?_⟩
      have toN : Ext (nw Hs H4) (nw Hs (upd H4 D (.lst (xs ++ [v])))) := nw_mut hsD
      exact k _ ((nw_dom dom).trans toN) (up _ _ _ _ ((nw_up e4).trans toN) hp)
    · intro H4 e4 k
      exact ⟨xs, e.trans e4, e4 _ _ hx, k _ (up _ _ _ _ (nw_up e4) hp)⟩
  · rintro H ⟨xs, e, hx, hp⟩
    exact hd H xs e hx (up _ _ _ _ (nw_base e1) hp)
end Ol

set_option Elab.async false
set_option linter.all false
set_option maxRecDepth 100000
set_option maxHeartbeats 4000000
namespace Ol
open PySem PySem.Spec PyProof.Rows L2

/-- x in o, o an instance of a class with its own __contains__ -/
def rInO (C : Addr) (sp : Sp) : R2 := fun x y H Q => ∃ (a dx : Addr) (fs : List (Str × V)), y = .ref a ∧ H a = some (.ins C dx fs) ∧
  sp [.ref a, x] H (fun v H' => ∃ b, v = .bl b ∧ Q (.bl b) H') E0
def rNotInO (C : Addr) (sp : Sp) : R2 := fun x y H Q => ∃ (a dx : Addr) (fs : List (Str × V)), y = .ref a ∧ H a = some (.ins C dx fs) ∧
  sp [.ref a, x] H (fun v H' => ∃ b, v = .bl b ∧ Q (.bl (!b)) H') E0
section
variable {X : Cx} {k : Nat} {C f : Addr} {fd : FuncData} {ps : List Str} {sp : Sp}
theorem op_inO (F : FnOk X.prog X.w X.K X.mg X.base CX0 k f fd ps sp) (hr : Room k X.A) (hs : PySem.W.findIn X.K (.ref C) "__contains__" = some (some (.ref f)))
    (hf : PySem.W.isFn X.K (.ref f) = true) (b : Binds X.K fd ps []) : OpR X (compareOp .In) (rInO C sp) := by
  intro pins s σ H x y v u Q I rx ry h
  obtain ⟨a, dx, fs, rfl, ho, h⟩ := h
  cases ry
  obtain ⟨mA, O, _⟩ := ins_get I.hok ho
  obtain ⟨od, J, _⟩ := O.look
  obtain ⟨m, fr⟩ := I.fr
  refine PySem.W.in_K fr I.ok.mod.kin J hs hf ?_
  refine wpAny_mono (run_fn (us := [.ref a, v]) (vs := [.ref a, x]) (E := E0) F hr b .nil pass0 I (.cons rfl (.cons rx .nil)) h) ?_ (fun _ _ z => z)
  rintro r s' ⟨w, H', I', rw', b', rfl, q⟩
  cases rw'
  exact wpAny_truthy_bool ⟨.bl b', H', I', rfl, q⟩
theorem op_notInO (F : FnOk X.prog X.w X.K X.mg X.base CX0 k f fd ps sp) (hr : Room k X.A) (hs : PySem.W.findIn X.K (.ref C) "__contains__" = some (some (.ref f)))
    (hf : PySem.W.isFn X.K (.ref f) = true) (b : Binds X.K fd ps []) : OpR X (compareOp .NotIn) (rNotInO C sp) := by
  intro pins s σ H x y v u Q I rx ry h
  obtain ⟨a, dx, fs, rfl, ho, h⟩ := h
  cases ry
  obtain ⟨mA, O, _⟩ := ins_get I.hok ho
  obtain ⟨od, J, _⟩ := O.look
  obtain ⟨m, fr⟩ := I.fr
  refine PySem.W.notIn_K fr I.ok.mod.kin J hs hf ?_
  refine wpAny_mono (run_fn (us := [.ref a, v]) (vs := [.ref a, x]) (E := E0) F hr b .nil pass0 I (.cons rfl (.cons rx .nil)) h) ?_ (fun _ _ z => z)
  rintro r s' ⟨w, H', I', rw', b', rfl, q⟩
  cases rw'
  exact wpAny_truthy_bool ⟨.bl (!b'), H', I', rfl, q⟩
end
end Ol

set_option Elab.async false
set_option linter.all false
set_option maxRecDepth 100000
set_option maxHeartbeats 4000000
namespace K16
open PySem PySem.Spec PyProof.Rows L2 Ol
open TL (tl)
def topS (i : Nat) : Stmt := PySem.Challenge.pw_openlanes_k16_errors_kept.main.body.getD i (.Pass ⟨0, 0, 0, 0⟩)
section
variable {P : Program} {w : World} {K : PySem.W.Frag} {mg : Str → Option Value} {base : Heap}
def isBoundD : PyData → Bool
  | .int i => decide (1 ≤ i)
  | _ => false
abbrev s_is_bound : Stmt := (topS 28)
theorem sc_is_bound : FnScope ["thing"] ["thing"] (defScope s_is_bound) := ⟨rfl, rfl, rfl, by decide +kernel, rfl, by decide +kernel, by decide +kernel⟩
theorem ok_is_bound {f : Addr} {fd : FuncData} (F : Fun K "is_bound" "is_bound" s_is_bound f fd) (C1 : Ca P w K mg base 1 "is_integer" ["thing"] (spPred Any isIntD)) :
    FnOk P w K mg base CX0 2 f fd ["thing"] (spPred Any isBoundD) := by
  refine F.ok sc_is_bound (fun vs H Q E h => ?_) (fun cdv A outer s H vs Q E hr h => ?_)
  · obtain ⟨v, d, rfl, _⟩ := h
    rfl
  · obtain ⟨v, d, rfl, hd, hz, q⟩ := h
    refine ⟨_, (pss_one (ps_ret (pe_and (pe_ca C1 (hr.mono (by decide)) (by rfl) (pa_cons (pv 0) pa_nil)) (pe_one (pe_cmpR op_ge (pv 0) pe_int (nomark _)))))), ?_⟩
    refine ⟨_, rfl, v, d, rfl, hd, trivial, fun H1 e1 => ⟨_, rfl, ?_⟩⟩
    refine ite2 (fun h => ?_) (fun h => ?_)
    · obtain ⟨i, rfl, rfl⟩ := dq_int hd h
      refine ⟨_, rfl, _, _, rfl, rfl, ?_⟩
      exact q H1 e1
    · have e : isBoundD d = false := by
        cases d with
        | int i => exact absurd rfl h
        | _ => rfl
      have q' := q H1 e1
      rw [e] at q'
      exact q'
/-- names with whole numbers, as a dict holds them -/
def kvI (ps : List (Str × Int)) : List (Key × V) := ps.map fun p => (.inr p.1, .int p.2)
def spIsBounds : Sp := fun vs H Q _ => ∃ (a : Addr) (ps : List (Str × Int)), vs = [.ref a] ∧ H a = some (.dK (kvI ps)) ∧ ps ≠ [] ∧ ps.length ≤ 1000 ∧
  (∀ p ∈ ps, isNameS p.1 = true ∧ 1 ≤ p.2) ∧ ∀ H', Ext H H' → Q (.bl true) H'
abbrev s_is_bounds : Stmt := (topS 29)
theorem sc_is_bounds : FnScope ["thing", "name", "bound"] ["thing"] (defScope s_is_bounds) := ⟨rfl, rfl, rfl, by decide +kernel, rfl, by decide +kernel, by decide +kernel⟩
theorem ok_is_bounds {f : Addr} {fd : FuncData} (F : Fun K "is_bounds" "is_bounds" s_is_bounds f fd) (T : BT mg)
    (C3 : Ca P w K mg base 1 "is_name" ["thing"] (spPred Ok1 isNameD)) (C4 : Ca P w K mg base 2 "is_bound" ["thing"] (spPred Any isBoundD)) :
    FnOk P w K mg base CX0 3 f fd ["thing"] spIsBounds := by
  refine F.ok sc_is_bounds (fun vs H Q E h => ?_) (fun cdv A outer s H vs Q E hr h => ?_)
  · obtain ⟨a, ps, rfl, _⟩ := h
    rfl
  · obtain ⟨a, ps, rfl, ha, hne, hl, hps, q⟩ := h
    refine ⟨_, (pss_cons (ps_if (PW.pt (pw_or (pt_not (pt_val (pe_callB call_isi (by rfl) T.n_isinstance (by decide +kernel) (pa_cons (pv 0) (pa_cons (pe_bltn (v := .ty "dict") (by rfl) T.n_dict (by decide +kernel) rfl) pa_nil))))) (pw_or1 (pt_cmpR op_eq (pe_callB call_lenD (by rfl) T.n_len (by decide +kernel) (pa_cons (pv 0) pa_nil)) pe_int (nomark _)))))
      (pss_one (ps_ret pe_bl))
      pss_nil)
    (pss_one (ps_ret (pe_callB (cr_all rfl) (by rfl) T.n_all (by decide +kernel) (pa_cons (pe_lock (pe_lc (own := [("name", 1), ("bound", 2)]) (g := gTup K 2 (gCons (gName 1) (gCons (gName 2) gNil))) (tt := tYes) rfl sc_is_bounds.nd (pi_items (pv 0)) (blkOk_by (N := ["thing", "name", "bound"]) (sc := defScope s_is_bounds) (by decide +kernel)) (fun _ _ _ _ _ => (pg_tup (by rfl) (pgs_cons (pg_name (i := 1) sc_is_bounds.nd rfl (.inl rfl)) (pgs_cons (pg_name (i := 2) sc_is_bounds.nd rfl (.inl rfl)) pgs_nil)))) (fun _ _ _ _ _ => pts_nil) (fun _ _ _ _ _ => (pe_and (pe_ca C3 (hr.mono (by decide)) (by rfl) (pa_cons (pv 1) pa_nil)) (pe_one (pe_ca C4 (hr.mono (by decide)) (by rfl) (pa_cons (pv 2) pa_nil))))))) pa_nil))))), ?_⟩
    refine ⟨_, rfl, _, _, _, _, _, rfl, .ty "dict", .base (.dK ha), ki_dict (.dict []), _, rfl, ?_⟩
    refine iteF ?_
    refine ⟨_, rfl, a, _, rfl, ha, rfl, _, rfl, ?_⟩
    have hlen : (kvI ps).length = ps.length := by unfold kvI; rw [List.length_map]
    refine ite2 (fun g => ?_) (fun _ => ?_)
    · have z := of_decide_eq_true g
      injection z with z
      rw [hlen] at z
      cases ps with
      | nil => exact absurd rfl hne
      | cons p ps => simp at z; omega
    refine ⟨a, _, ha, trivial, fun od => ⟨_, rfl, a, od, _, rfl, upd_same, fun D hD => ?_⟩⟩
    have nD : D ≠ a := fun z => by rw [z, upd_same] at hD; cases hD
    refine lc_acc walk_items (fun i xs _ => xs = List.replicate i (V.bl true)) (fun _ _ _ _ _ h => h) rfl hD (fun i xs _ h => by rw [h, List.length_replicate]; exact Nat.le_refl _) (by rw [hlen]; exact Nat.le_trans hl (by decide)) (fun H' e => e _ _ upd_same) ?_ ?_
    · rintro i x H1 H2 xs hi e1 ⟨T', y1, y2, rfl, hT, rfl, g1, g2⟩ hp QY QN kY kN
      have hi' : i < ps.length := by rw [← hlen]; exact hi
      have hk : (kvI ps)[i]? = some (.inr ps[i].1, .int ps[i].2) := by
        unfold kvI
        rw [List.getElem?_map, List.getElem?_eq_getElem hi']
        rfl
      have k1 : y1 = .str ps[i].1 := by
        have z := g1
        dsimp only at z
        rw [hk] at z
        exact (Option.some.inj z).symm
      have k2 : y2 = .int ps[i].2 := by
        have z := g2
        dsimp only at z
        rw [hk] at z
        exact (Option.some.inj z).symm
      subst k1
      subst k2
      obtain ⟨b1, b2⟩ := hps _ (List.getElem_mem hi')
      have eT := Ext.new (o := .tup [.str ps[i].1, .int ps[i].2]) hT
      refine ⟨T', _, rfl, SqT.of upd_same, rfl, _, _, rfl, _, _, rfl, rfl, rfl, ?_⟩
      refine tyes ?_
      refine ⟨_, rfl, _, _, rfl, .str _, (fun x hx => by cases hx; exact name_tx b1), fun H3 e3 => ⟨_, rfl, ?_⟩⟩
      rw [if_pos (show isNameD (.str ps[i].1) = true from b1)]
      refine ⟨_, rfl, _, _, rfl, .int _, trivial, fun H4 e4 => ?_⟩
      rw [show isBoundD (.int ps[i].2) = true from decide_eq_true b2]
      refine kY _ H4 ((eT.trans e3).trans e4) fun Hz _ hh => ?_
      rw [hh, List.replicate_succ']
    · rintro H1 xs e1 hx hp
      subst hp
      refine ⟨e1 _ _ upd_same, D, List.replicate (kvI ps).length true, rfl, SqL.of ?_, ?_⟩
      · rw [upd_ne nD, hx, List.map_replicate]
      · have e2 : Ext H (upd H1 a (.dK (kvI ps))) := fun b o z => by
          by_cases c : b = a
          · rw [c] at z ⊢
            rw [upd_same, ← ha, z]
          · rw [upd_ne c]
            exact e1 _ _ (by rw [upd_ne c]; exact z)
        have ea : (List.replicate (kvI ps).length true).all id = true := by simp
        rw [ea]
        exact q _ e2
end
end K16

set_option Elab.async false
set_option linter.all false
set_option maxRecDepth 100000
set_option maxHeartbeats 4000000
namespace K16
open PySem PySem.Spec PyProof.Rows L2 Ol
open TL (tl)
section
variable {P : Program} {w : World} {K : PySem.W.Frag} {mg : Str → Option Value} {base : Heap}
/-- the state of a lane, as data -/
def stD (c : Nat) (b : Bool) : PyData := .tuple [.int (c : Int), .bool b]
def optD : Option (Nat × Bool) → PyData
  | none => .none
  | some s => stD s.1 s.2
theorem st_inv {H : Hp} {v : V} {c : Nat} {b : Bool} (h : Dq H v (stD c b)) : ∃ a, v = .ref a ∧ H a = some (.tup [.int (c : Int), .bl b]) := by
  generalize e : stD c b = d at h
  cases h with
  | tup h t =>
    unfold stD at e
    cases e
    cases t with
    | cons t1 t2 =>
      cases t1
      cases t2 with
      | cons t3 t4 =>
        cases t3
        cases t4
        exact ⟨_, rfl, h⟩
  | _ => cases e
theorem st_new {H : Hp} {p : Addr} {c : Nat} {b : Bool} : Dq (upd H p (.tup [.int (c : Int), .bl b])) (.ref p) (stD c b) :=
  .tup upd_same (.cons (.int _) (.cons (.bl _) .nil))
def beh4 (word : Str) (c : Nat) (b : Bool) : Option (Nat × Bool) := if word = "close" ∧ b = false then some (c, true) else none
def beh3 (word : Str) (c : Nat) (b : Bool) : Option (Nat × Bool) := if word = "ended" ∧ b = true ∧ c = 0 then some (c, b) else beh4 word c b
def beh2 (word : Str) (c : Nat) (b : Bool) : Option (Nat × Bool) := if word = "take" ∧ 0 < c then some (c - 1, b) else beh3 word c b
/-- the state that an arm leaves -/
def beh (word : Str) (c : Nat) (b : Bool) (bd : Int) : Option (Nat × Bool) := if word = "send" ∧ b = false ∧ (c : Int) < bd then some (c + 1, false) else beh2 word c b
def spBehind : Sp := fun vs H Q _ => ∃ (word : Str) (v : V) (c : Nat) (b : Bool) (bd : Int), vs = [.str word, v, .int bd] ∧ Dq H v (stD c b) ∧
  ∀ (r : V) (H' : Hp), Ext H H' → Dq H' r (optD (beh word c b bd)) → Q r H'
theorem dec_word {a b : Str} : decide (V.str a = V.str b) = true ↔ a = b := by
  rw [decide_eq_true_eq]
  exact ⟨fun h => by injection h, fun h => by rw [h]⟩
abbrev s_state_behind : Stmt := (topS 25)
theorem sc_state_behind : FnScope ["word", "state", "bound", "count", "closed"] ["word", "state", "bound"] (defScope s_state_behind) := ⟨rfl, rfl, rfl, by decide +kernel, rfl, by decide +kernel, by decide +kernel⟩
theorem ok_state_behind {f : Addr} {fd : FuncData} (F : Fun K "state_behind" "state_behind" s_state_behind f fd) :
    FnOk P w K mg base CX0 1 f fd ["word", "state", "bound"] spBehind := by
  refine F.ok sc_state_behind (fun vs H Q E h => ?_) (fun cdv A outer s H vs Q E hr h => ?_)
  · obtain ⟨word, v, c, b, bd, rfl, _⟩ := h
    rfl
  · obtain ⟨word, v, c, b, bd, rfl, hv, q⟩ := h
    obtain ⟨a, rfl, ha⟩ := st_inv hv
    refine cutB (fun σ H' => σ = [some (.str word), some (.ref a), some (.int bd), some (.int (c : Int)), some (.bl b)] ∧ H' = H) ?_ ⟨_, (ps_asg (pv 1) (pg_tup (by rfl) (pgs_cons (pg_name (i := 3) sc_state_behind.nd rfl (.inl rfl)) (pgs_cons (pg_name (i := 4) sc_state_behind.nd rfl (.inl rfl)) pgs_nil)))), fun nx hn => ?_⟩
    rotate_left
    · exact ⟨_, rfl, a, _, rfl, SqT.of ha, rfl, _, _, rfl, _, _, rfl, rfl, hn _ _ ⟨rfl, rfl⟩⟩
    refine cutW _ (fun σ H' => σ = [some (.str word), some (.ref a), some (.int bd), some (.int (c : Int)), some (.bl b)] ∧ H' = H ∧ beh word c b bd = beh2 word c b) ⟨_, (ps_if (PW.pt (pw_and (pt_cmpR op_eq (pv 0) pe_str (nomark _)) (pw_and (pt_not (pt_val (pv 4))) (pw_and1 (pt_cmpR op_lt (pv 3) (pv 2) (nomark _))))))
      (pss_one (ps_ret (pe_tup (pa_cons (pe_op op_add (pv 3) pe_int) (pa_cons pe_bl pa_nil)))))
      pss_nil), ?_⟩ ?_
    · rintro nx hn σ H' ⟨rfl, rfl⟩
      refine ⟨_, rfl, rfl, _, rfl, ?_⟩
      refine ite2 (fun g0 => ?_) (fun g0 => ?_)
      · have g0' := dec_word.mp g0
        refine ⟨_, rfl, _, rfl, ?_⟩
        refine ite2 (fun g1 => ?_) (fun g1 => ?_)
        · have g1' : b = false := by cases b with | true => cases g1 | false => rfl
          refine ⟨_, rfl, _, rfl, _, _, rfl, rfl, _, rfl, ?_⟩
          refine ite2 (fun g2 => ?_) (fun g2 => ?_)
          · have g2' := of_decide_eq_true g2
            refine ⟨_, rfl, _, _, rfl, rfl, by show 2 ≤ sizeLine; decide, fun p hp => ?_⟩
            refine q _ _ (Ext.new hp) ?_
            unfold beh
            rw [if_pos ⟨g0', g1', g2'⟩]
            have e : ((c : Int) + 1) = ((c + 1 : Nat) : Int) := by omega
            show Dq (upd H' p (.tup [.int ((c : Int) + 1), .bl false])) _ _
            rw [e]
            exact st_new
          · exact hn _ _ ⟨rfl, rfl, by unfold beh; rw [if_neg (fun z => g2 (decide_eq_true z.2.2))]⟩
        · refine iteF ?_
          refine hn _ _ ⟨rfl, rfl, ?_⟩
          unfold beh
          rw [if_neg (fun z => g1 (by rw [z.2.1]; rfl))]
      · refine iteF ?_
        refine hn _ _ ⟨rfl, rfl, ?_⟩
        unfold beh
        rw [if_neg (fun z => g0 (dec_word.mpr z.1))]
    refine cutW _ (fun σ H' => σ = [some (.str word), some (.ref a), some (.int bd), some (.int (c : Int)), some (.bl b)] ∧ H' = H ∧ beh word c b bd = beh3 word c b) ⟨_, (ps_if (PW.pt (pw_and (pt_cmpR op_eq (pv 0) pe_str (nomark _)) (pw_and1 (pt_cmpR op_gt (pv 3) pe_int (nomark _)))))
      (pss_one (ps_ret (pe_tup (pa_cons (pe_op op_sub (pv 3) pe_int) (pa_cons (pv 4) pa_nil)))))
      pss_nil), ?_⟩ ?_
    · rintro nx hn σ H' ⟨rfl, rfl, eb⟩
      refine ⟨_, rfl, rfl, _, rfl, ?_⟩
      refine ite2 (fun g0 => ?_) (fun g0 => ?_)
      · have g0' := dec_word.mp g0
        refine ⟨_, rfl, _, _, rfl, rfl, _, rfl, ?_⟩
        refine ite2 (fun g2 => ?_) (fun g2 => ?_)
        · have g2' : (0 : Int) < c := of_decide_eq_true g2
          refine ⟨_, rfl, _, _, rfl, rfl, _, rfl, by show 2 ≤ sizeLine; decide, fun p hp => ?_⟩
          refine q _ _ (Ext.new hp) ?_
          rw [eb]
          unfold beh2
          rw [if_pos ⟨g0', by omega⟩]
          have e : ((c : Int) - 1) = ((c - 1 : Nat) : Int) := by omega
          show Dq (upd H' p (.tup [.int ((c : Int) - 1), .bl b])) _ _
          rw [e]
          exact st_new
        · refine hn _ _ ⟨rfl, rfl, ?_⟩
          rw [eb]
          unfold beh2
          rw [if_neg (fun z => g2 (decide_eq_true (by have := z.2; omega)))]
      · refine iteF ?_
        refine hn _ _ ⟨rfl, rfl, ?_⟩
        rw [eb]
        unfold beh2
        rw [if_neg (fun z => g0 (dec_word.mpr z.1))]
    refine cutW _ (fun σ H' => σ = [some (.str word), some (.ref a), some (.int bd), some (.int (c : Int)), some (.bl b)] ∧ H' = H ∧ beh word c b bd = beh4 word c b) ⟨_, (ps_if (PW.pt (pw_and (pt_cmpR op_eq (pv 0) pe_str (nomark _)) (pw_and (pt_val (pv 4)) (pw_and1 (pt_cmpR op_eq (pv 3) pe_int (nomark _))))))
      (pss_one (ps_ret (pv 1)))
      pss_nil), ?_⟩ ?_
    · rintro nx hn σ H' ⟨rfl, rfl, eb⟩
      refine ⟨_, rfl, rfl, _, rfl, ?_⟩
      refine ite2 (fun g0 => ?_) (fun g0 => ?_)
      · have g0' := dec_word.mp g0
        refine ⟨_, rfl, _, rfl, ?_⟩
        refine ite2 (fun g1 => ?_) (fun g1 => ?_)
        · refine ⟨_, rfl, rfl, _, rfl, ?_⟩
          refine ite2 (fun g2 => ?_) (fun g2 => ?_)
          · have g2' : c = 0 := by
              have z := of_decide_eq_true g2
              injection z with z
              omega
            refine ⟨_, rfl, q _ _ (Ext.refl _) ?_⟩
            rw [eb]
            unfold beh3
            rw [if_pos ⟨g0', g1, g2'⟩]
            exact hv
          · refine hn _ _ ⟨rfl, rfl, ?_⟩
            rw [eb]
            unfold beh3
            rw [if_neg (fun z => g2 (decide_eq_true (by rw [z.2.2]; rfl)))]
        · refine iteF ?_
          refine hn _ _ ⟨rfl, rfl, ?_⟩
          rw [eb]
          unfold beh3
          rw [if_neg (fun z => g1 z.2.1)]
      · refine iteF ?_
        refine hn _ _ ⟨rfl, rfl, ?_⟩
        rw [eb]
        unfold beh3
        rw [if_neg (fun z => g0 (dec_word.mpr z.1))]
    refine ⟨_, pss_cons (ps_if (PW.pt (pw_and (pt_cmpR op_eq (pv 0) pe_str (nomark _)) (pw_and1 (pt_not (pt_val (pv 4))))))
      (pss_one (ps_ret (pe_tup (pa_cons (pv 3) (pa_cons pe_bl pa_nil)))))
      pss_nil) (pss_one (ps_ret pe_non)), ?_⟩
    rintro σ H' ⟨rfl, rfl, eb⟩
    refine ⟨_, rfl, rfl, _, rfl, ?_⟩
    refine ite2 (fun g0 => ?_) (fun g0 => ?_)
    · have g0' := dec_word.mp g0
      refine ⟨_, rfl, _, rfl, ?_⟩
      refine ite2 (fun g1 => ?_) (fun g1 => ?_)
      · have g1' : b = false := by cases b with | true => cases g1 | false => rfl
        refine ⟨_, rfl, by show 2 ≤ sizeLine; decide, fun p hp => ?_⟩
        refine q _ _ (Ext.new hp) ?_
        rw [eb]
        unfold beh4
        rw [if_pos ⟨g0', g1'⟩]
        exact st_new
      · refine q _ _ (Ext.refl _) ?_
        rw [eb]
        unfold beh4
        rw [if_neg (fun z => g1 (by rw [z.2]; rfl))]
        exact .non
    · refine iteF ?_
      refine q _ _ (Ext.refl _) ?_
      rw [eb]
      unfold beh4
      rw [if_neg (fun z => g0 (dec_word.mpr z.1))]
      exact .non
end
end K16

set_option Elab.async false
set_option linter.all false
set_option maxRecDepth 100000
set_option maxHeartbeats 4000000
namespace K16
open PySem PySem.Spec PyProof.Rows L2 Ol
open TL (tl)
section
variable {P : Program} {w : World} {K : PySem.W.Frag} {mg : Str → Option Value} {base : Heap}
def spReplaced : Sp := fun vs H Q _ => ∃ (a : Addr) (xs : List V) (n : Nat) (v : V), vs = [.ref a, .int n, v] ∧ H a = some (.tup xs) ∧ n < xs.length ∧ xs.length ≤ 1000 ∧
  ∀ p H', Ext H H' → H' p = some (.tup (xs.set n v)) → Q (.ref p) H'
abbrev s_replaced : Stmt := (topS 26)
theorem sc_replaced : FnScope ["row", "index", "item"] ["row", "index", "item"] (defScope s_replaced) := ⟨rfl, rfl, rfl, by decide +kernel, rfl, by decide +kernel, by decide +kernel⟩
theorem sl_any {K' : PySem.W.Frag} {H : Hp} {a : Addr} {xs : List V} {lo hi : Option Int} {Q : V → Hp → Prop} (h : H a = some (.tup xs))
    (k : ∀ p H', Ext H H' → H' p = some (.tup (cutV xs lo hi)) → Q (.ref p) H') : rSlA K' (.ref a) lo hi H Q := by
  refine ⟨a, xs, rfl, SqT.of h, fun z => k _ _ (Ext.refl _) ?_, fun _ p hp => k _ _ (Ext.new hp) upd_same⟩
  rw [h]
  unfold cutV
  rw [z.1, z.2]
  simp
theorem cat_any {K' : PySem.W.Frag} {H : Hp} {a b : Addr} {xs ys : List V} {Q : V → Hp → Prop} (h : H a = some (.tup xs)) (h2 : H b = some (.tup ys)) (hl : xs.length + ys.length ≤ sizeLine)
    (k : ∀ p H', Ext H H' → H' p = some (.tup (xs ++ ys)) → Q (.ref p) H') : rCatA K' (.ref a) (.ref b) H Q := by
  refine ⟨a, b, xs, ys, rfl, rfl, SqT.of h, SqT.of h2, hl, fun z => k _ _ (Ext.refl _) ?_, fun _ z => k _ _ (Ext.refl _) ?_, fun _ _ p hp => k _ _ (Ext.new hp) upd_same⟩
  · rw [h2, z]
    rfl
  · rw [h, z, List.append_nil]
theorem ok_replaced {f : Addr} {fd : FuncData} (F : Fun K "replaced" "replaced" s_replaced f fd) :
    FnOk P w K mg base CX0 1 f fd ["row", "index", "item"] spReplaced := by
  refine F.ok sc_replaced (fun vs H Q E h => ?_) (fun cdv A outer s H vs Q E hr h => ?_)
  · obtain ⟨a, xs, n, v, rfl, _⟩ := h
    rfl
  · obtain ⟨a, xs, n, v, rfl, ha, hn, hl, q⟩ := h
    refine ⟨_, (pss_one (ps_ret (pe_op op_catA (pe_op op_catA (pe_slice sl_tupA (pv 0) po_none (po_some (pv 1))) (pe_tup (pa_cons (pv 2) pa_nil))) (pe_slice sl_tupA (pv 0) (po_some (pe_op op_add (pv 1) pe_int)) po_none)))), ?_⟩
    refine ⟨_, rfl, _, rfl, _, rfl, sl_any ha fun p1 H1 e1 h1 => ?_⟩
    refine ⟨_, rfl, by show 1 ≤ sizeLine; decide, fun p2 hp2 => ?_⟩
    have e2 := Ext.new (o := .tup [v]) hp2
    have c1 : (cutV xs none (some (n : Int))) = xs.take n := by
      unfold cutV
      rw [HT.sIx_none, HT.sIx_nat, Nat.min_eq_left (Nat.le_of_lt hn)]
      simp
    rw [c1] at h1
    refine cat_any (e2 _ _ h1) upd_same (by rw [List.length_take]; exact Nat.le_trans (show _ ≤ 1000 + 1 by simp; omega) (by decide)) fun p3 H3 e3 h3 => ?_
    have e03 := (e1.trans e2).trans e3
    refine ⟨_, rfl, _, rfl, _, _, rfl, rfl, _, rfl, ?_⟩
    dsimp only [tNoPart]

    refine sl_any (e03 _ _ ha) fun p4 H4 e4 h4 => ?_
    have c2 : (cutV xs (some ((n : Int) + 1)) none) = xs.drop (n + 1) := by
      unfold cutV
      rw [HT.sIx_none, show ((n : Int) + 1) = ((n + 1 : Nat) : Int) by omega, HT.sIx_nat, Nat.min_eq_left hn]
      rw [List.take_of_length_le (by rw [List.length_drop]; omega)]
    rw [c2] at h4
    refine cat_any (e4 _ _ h3) h4 (by rw [List.length_append, List.length_take, List.length_drop]; exact Nat.le_trans (show _ ≤ 1000 + 1 + 1000 by simp; omega) (by decide)) fun p5 H5 e5 h5 => ?_
    refine q _ _ ((e03.trans e4).trans e5) ?_
    rw [h5, List.set_eq_take_append_cons_drop, if_pos hn, List.append_assoc]
    rfl
end
end K16

set_option Elab.async false
set_option linter.all false
set_option maxRecDepth 100000
set_option maxHeartbeats 4000000
namespace Ol
open PySem PySem.Spec PyProof.Rows L2

/-! ### enumerate(t), t a tuple -/
theorem meets_enumerate_new1 {v : Value} {o : Obj} {H : Heap → Prop} (B : Begins v o H) :
    Meets (Builtin.«enumerate.__new__» ⟨[.type "enumerate", v], []⟩) (fun _ R s => H s.heap ∧
      R (.ok (.ret (.ref (s.heap.push o).objs.size))) { s with heap := (s.heap.push o).push { cls := .type "enumerate", data := .fields #[.none, .bool false, .ref s.heap.objs.size, rawInt 0, .none, .none] } }) :=
  .of_wp fun prog w A R s h => by
    obtain ⟨hp, g, d, tk, os⟩ := s
    obtain ⟨h1, h⟩ := h
    have hsub := sub_enumerate
    have q1 : ∀ {A' : Around} {E : Value → Shared → Prop} {Q : Value → Shared → Prop}, Q (.ref hp.objs.size) ⟨hp.push o, g, d, tk, os⟩ → wpAny (model prog w) A' (pyIter v) Q E ⟨hp, g, d, tk, os⟩ :=
      fun q => B.iter prog w _ _ ⟨hp, g, d, tk, os⟩ _ h1 q
    wp_walk using q1
    refine wpAny_stack_any fun st => wpAny_pure ?_
    split
    · rename_i c _ _ _ _ _
      cases (c == Value.type "enumerate")
      · wp_walk using q1
        exact ⟨_, rfl, h⟩
      · wp_walk using q1
        exact ⟨_, rfl, h⟩
    · wp_walk using q1
      exact ⟨_, rfl, h⟩
section
variable {prog : Program} {w : World} {A : Around} {E : Value → Shared → Prop} {s : Shared}
theorem enum_begins1 {v : Value} {o : Obj} {H : Heap → Prop} {Q : Value → Shared → Prop} (B : Begins v o H) (h1 : H s.heap)
    (h : ∀ h', IsEnum h' (s.heap.objs.size + 1) s.heap.objs.size 0 .none → h'.get? s.heap.objs.size = some o → h'.objs.size = s.heap.objs.size + 2 →
      (∀ b o, s.heap.get? b = some o → h'.get? b = some o) → Q (.ref (s.heap.objs.size + 1)) { s with heap := h' }) :
    wpAny (model prog w) A (call (.type "enumerate") [v]) Q E s := by
  refine callType_new F.called_enumerate (by decide) (F.typeCall_enumerate_1 _) (F.newCall_enumerate_1 _) (fun obj => F.args_object_init_2 obj _) F.entry_enumerate_new
    (meets_enumerate_new1 B) ⟨h1, ?_⟩
  have hz : (s.heap.push o).objs.size = s.heap.objs.size + 1 := Heap.size_push ..
  show _ ∧ _
  rw [hz]
  have he : IsEnum ((s.heap.push o).push { cls := .type "enumerate", data := .fields #[.none, .bool false, .ref s.heap.objs.size, rawInt 0, .none, .none] }) (s.heap.objs.size + 1) s.heap.objs.size 0 .none := by
    have := Heap.get?_push_size (s.heap.push o) (o := { cls := .type "enumerate", data := .fields #[.none, .bool false, .ref s.heap.objs.size, rawInt 0, .none, .none] }) rfl
    rw [hz] at this; exact this
  refine ⟨⟨_, he, rfl⟩, h _ he (Heap.get?_push_of_some _ (Heap.get?_push_size _ B.free)) (by rw [Heap.size_push, hz]) fun b o x => Heap.get?_push_of_some _ (Heap.get?_push_of_some _ x)⟩
end
/-- the tuple at a as it stands, each item with its place in a new pair -/
def IteT (K : PySem.W.Frag) (a : Addr) : It :=
  ⟨fun i H => ∃ (xs : List V) (x : V), SqT K H a xs ∧ xs[i]? = some x, fun i H v H' => ∃ T x, v = .ref T ∧ H T = none ∧ H' = upd H T (.tup [.int (i : Nat), x]) ∧ ∀ xs, SqT K H a xs → xs[i]? = some x, fun i H => ∃ xs : List V, SqT K H a xs ∧ xs.length ≤ i⟩
theorem turn_enumT {P : Program} {w : World} {K : PySem.W.Frag} {elts : List Expr} {kk : Nat} {tpos : Pos} (a e it : Addr) :
    Turn P w K (.Tuple elts kk tpos) (IteT K a) [e, it] e (fun i h => (∃ old, IsEnum h e it ((i : Nat) : Int) old) ∧ h.IsTupleIter it a i ∧ e ≠ it ∧ a ≠ it ∧ e ≠ a) where
  mem := by simp
  obj := fun i h st b hb => by
    obtain ⟨⟨old, he⟩, ⟨o, ho, hc, hd⟩, _⟩ := st
    have e' : b = e ∨ b = it := by simpa using hb
    rcases e' with z | z
    · rw [z]; exact ⟨_, he, fun v q => nomatch q⟩
    · rw [z]; exact ⟨o, ho, fun v q => by rw [hd] at q; cases q⟩
  keep := fun i h h' st k => let ⟨⟨old, he⟩, hi, hne⟩ := st; ⟨⟨old, k e (by simp) _ he⟩, hi.at fun o q => k it (by simp) o q, hne⟩
  item := by
    intro X hP hw hK hc i pins s σ H E I hf st hg
    subst hP hw hK
    obtain ⟨⟨old, he⟩, hit, hne, hai, hea⟩ := st
    obtain ⟨xs, x, hq, hx⟩ := hg
    obtain ⟨its, rv, p, hz⟩ := I.tuple hq
    obtain ⟨u, hu, ru⟩ := rv.get hx
    have hel : e < s.heap.objs.size := Heap.lt_size he
    have hil : it < s.heap.objs.size := by obtain ⟨_, q, _⟩ := hit; exact Heap.lt_size q
    have hlt : i < its.toArray.size := by have := rv.length; have := (List.getElem?_eq_some_iff.mp hx).1; simp; omega
    refine wpAny_pyNext_enum_itemD (Draws.tuple (A := X.A.in1) (show X.A.in1.handled = none from I.ok.hd hc) it a hai its.toArray) he ⟨hit, p⟩ hlt hne (by simp [hne, hea]) fun u' h' tk hu' ho st' hT hsz hk => ?_
    have eu : u' = u := by
      have z : its.toArray[i]? = some u := by simpa using hu
      rw [z] at hu'
      exact (Option.some.inj hu').symm
    subst eu
    refine ⟨_, rfl, wpAny_letOwnedTupleGo_enum (s := { s with heap := h', toks := tk + 1 }) ho fun h'' he' sb => ?_⟩
    have hT2 : h''.get? s.heap.objs.size = some { cls := .type "tuple", data := .seq #[.int i tk, u'] } := (sb.2 _ (Nat.ne_of_gt hel)).trans hT
    have new : ObjOk X.prog X.w (upd H s.heap.objs.size (.tup [.int (i : Nat), x])) h'' s.heap.objs.size (.tup [.int (i : Nat), x]) :=
      ⟨by show 2 ≤ sizeLine; decide, [.int i tk, u'], .cons ⟨_, rfl⟩ (.cons ru .nil), ⟨_, hT2, rfl, _, rfl⟩⟩
    have I1 : Inv X pins σ (upd H s.heap.objs.size (.tup [.int (i : Nat), x])) { s with heap := h'', toks := tk + 1 } :=
      I.turnedNew (ch := [e, it]) (fun b ob hb q => (sb.2 b (fun z => hb (by simp [z]))).trans (hk b ob (fun z => hb (by simp [z])) (fun z => hb (by simp [z])) q)) hf (Nat.le_refl _) new
    refine ⟨.ref s.heap.objs.size, _, I1, rfl, ⟨_, x, rfl, I.hok.fresh (Nat.le_refl _), rfl, fun ys hy => by rw [I.tuple_inj hy hq]; exact hx⟩, ⟨⟨u', ?_⟩, st'.1.at fun o q => (sb.2 it (Ne.symm hne)).trans q, hne, hai, hea⟩, fun b hb => ?_⟩
    · have e1 : ((i + 1 : Nat) : Int) = (i : Int) + 1 := by omega
      rw [e1]; exact he'
    · have hb' : b < s.heap.objs.size := by
        have e' : b = e ∨ b = it := by simpa using hb
        rcases e' with z | z
        · rw [z]; exact hel
        · rw [z]; exact hil
      rw [upd_ne (Nat.ne_of_lt hb')]
      exact (hf b hb).1
  done := by
    intro X hP hw hK hc i pins s σ H E I hf st hg
    subst hP hw hK
    obtain ⟨⟨old, he⟩, hit, hne, hai, hea⟩ := st
    obtain ⟨xs, hq, hx⟩ := hg
    obtain ⟨its, rv, p, hz⟩ := I.tuple hq
    obtain ⟨f0, f1, f2, f3, f4, f5⟩ := hf it (by simp)
    have hl := rv.length
    have hT : s.TypeIs (.ref e) "enumerate" := ⟨_, he, rfl⟩
    unfold pyNext
    refine wpAny_bind (wpAny_attempt (wpAny_callSpecial?_slot (name := Str.ofString "__next__") hT F.slot_enumerate_next
      (wpAny_call_entry F.slot_enumerate_next hT F.entry_enumerate_next ?_ (F.args_enumerate_next_1 _))))
    show wpAny _ _ (field (.ref e) 2 >>= _) _ _ _
    refine wpAny_bind (wpAny_field he rfl (x := .ref it) rfl ?_)
    refine wpAny_bind (wpAny_nextOf_tuple_end (I.ok.hd hc) hit p (by simp; omega) fun h' x he' hx' => ?_)
    obtain ⟨o, ho, hcl⟩ := hx'
    refine wpAny_bind (wpAny_isInstance (T := "StopIteration") (b := true) ⟨o, ho, hcl⟩ isSubtype_stop ?_)
    exact wpAny_pure ⟨rfl, I.turned (t' := s.toks) (fun b o hb q => he' b o hb q) f0 f1 f3 f4 f5⟩
  self := fun A i s Q E st h => let ⟨⟨_, he⟩, _⟩ := st; wpAny_pyIter_enum he h
def iEnumT (K : PySem.W.Frag) (ta : TA) : TI := fun σ H R => ta σ H fun vs H1 => ∃ a xs, vs = [.ref a] ∧ SqT K H1 a xs ∧ R (IteT K a) H1
theorem pi_enumT {X : Cx} {e : Expr} {ta : TA} {p pos tpos : Pos} {elts : List Expr} {kk : Nat} (hg : Gl X "enumerate") (hm : X.mg "enumerate" = none) (ha : PA X [e] ta) (hs : starEach [e] X.env = [(false, eval e X.env)] := by rfl) :
    PI X (.Tuple elts kk tpos) (.Call (.Name "enumerate" p) [e] [] pos) (iEnumT X.K ta) := by
  refine ⟨fun pins s σ H R I h => ?_⟩
  refine Call_ (ld_blt I hg hm boot_enumerate (PyProof.Rows.callWith_type1 (thn (ha.run pos pins s σ H _ I h) fun us s1 ⟨vs, H1, I1, r1, q1⟩ => ?_) hs rfl))
  obtain ⟨a, xs, ex, hq, q⟩ := q1
  subst ex
  cases r1 with
  | cons r rr =>
    cases rr
    cases r
    obtain ⟨its, rv, p', hz⟩ := I1.tuple hq
    have hal : a < s1.heap.objs.size := by obtain ⟨_, q, _⟩ := p'; exact Heap.lt_size q
    refine enum_begins1 (begins_tuple a its.toArray) p' fun h' he hit hsz hk => wpAny_pyIter_enum he ?_
    have I2 : Inv X pins σ H1 { s1 with heap := h' } := I1.kept (t' := s1.toks) hk
    refine ⟨s1.heap.objs.size + 1, [s1.heap.objs.size + 1, s1.heap.objs.size], _, _, H1, rfl, I2, turn_enumT a (s1.heap.objs.size + 1) s1.heap.objs.size, ⟨⟨.none, he⟩, ⟨_, hit, rfl, rfl⟩, Nat.succ_ne_self _, Nat.ne_of_lt hal, Nat.ne_of_gt (Nat.lt_succ_of_lt hal)⟩, fun b hb => ?_, q⟩
    have e' : b = s1.heap.objs.size + 1 ∨ b = s1.heap.objs.size := by simpa using hb
    have hle : s1.heap.objs.size ≤ b := by
      rcases e' with z | z
      · rw [z]; exact Nat.le_add_right _ _
      · rw [z]; exact Nat.le_refl _
    exact I1.fpOk hle (I1.hok.fresh hle)
theorem walk_enumT {K : PySem.W.Frag} {a : Addr} {xs : List V} : Walk (IteT K a) xs.length (fun H => SqT K H a xs) (YPair (fun i => some (.int (i : Nat))) (fun i => xs[i]?)) := by
  refine ⟨fun i _ hi q => ⟨xs, xs[i], q, by simp [hi]⟩, fun _ q => ⟨xs, q, Nat.le_refl _⟩, fun i H v H' _ q y => ?_⟩
  obtain ⟨T, x, h1, h2, h3, h4⟩ := y
  exact ⟨T, .int (i : Nat), x, h1, h2, h3, rfl, h4 xs q⟩
end Ol

set_option Elab.async false
set_option linter.all false
set_option maxRecDepth 100000
set_option maxHeartbeats 4000000
namespace Ol
open PySem PySem.Spec PyProof.Rows L2

/-- a dict comprehension over any walk -/
theorem dc_it {J : It} {n : Nat} {G : Hp → Prop} {Y : Nat → Hp → V → Hp → Prop} (w : Walk J n G Y) {g : TG} {tt : TT} {tk tv : TE} {vs : List Nat} {σ : L2.St} {H1 : Hp} {D : Addr} {Qd : Hp → Prop} (Pv : Nat → Hp → Prop)
    (h0 : Pv 0 (upd H1 D (.dK []))) (hG : ∀ i H, i ≤ n → Pv i H → G H)
    (hs : ∀ i x H H', i < n → Pv i H → Y i H x H' → g x (wipe σ vs) H' fun σ2 H2 => wipe σ2 vs = wipe σ vs ∧ tt σ2 H2 fun b H3 =>
      if b = true then tk σ2 H3 fun y H4 => tv σ2 H4 fun z H5 => ∃ kvs k, y = kV k ∧ H5 D = some (.dK kvs) ∧ kvs.length < sizeLine ∧ Pv (i + 1) (upd H5 D (.dK (putK kvs k z))) else Pv (i + 1) H3) (hd : ∀ H, Pv n H → Qd H) :
    ∃ W : Nat → Nat → Hp → Prop, (∃ m, W 0 m (upd H1 D (.dK []))) ∧ ∀ i m H, W i m H →
      (J.stop i H ∧ Qd H) ∨ (J.go i H ∧ ∃ Nx : Hp → Prop, (∀ H', Nx H' → ∃ m', m' < m ∧ W (i + 1) m' H') ∧ ∀ x H', J.yld i H x H' → g x (wipe σ vs) H' fun σ2 H2 => wipe σ2 vs = wipe σ vs ∧ tt σ2 H2 fun b H3 =>
        if b = true then tk σ2 H3 fun y H4 => tv σ2 H4 fun z H5 => ∃ kvs k, y = kV k ∧ H5 D = some (.dK kvs) ∧ kvs.length < sizeLine ∧ Nx (upd H5 D (.dK (putK kvs k z))) else Nx H3) := by
  refine ⟨fun i m H => m = n - i ∧ i ≤ n ∧ Pv i H, ⟨n, by simp, Nat.zero_le _, h0⟩, ?_⟩
  rintro i m H ⟨rfl, hi, p⟩
  have q := hG i H hi p
  by_cases hlt : i < n
  · exact .inr ⟨w.goes i H hlt q, Pv (i + 1), fun H' p' => ⟨n - (i + 1), by omega, rfl, hlt, p'⟩, fun x H' y => hs i x H H' hlt p (w.yields i H x H' hlt q y)⟩
  · have e : i = n := by omega
    subst e
    exact .inl ⟨w.stops H q, hd H p⟩

/-- names and their places, as a dict holds them -/
def spots (ns : List Str) : List (Key × V) := ns.zipIdx.map fun p => (.inr p.1, .int (p.2 : Int))
theorem spots_len (ns : List Str) : (spots ns).length = ns.length := by unfold spots; rw [List.length_map, List.length_zipIdx]
theorem spots_snoc (ns : List Str) (x : Str) : spots (ns ++ [x]) = spots ns ++ [(.inr x, .int (ns.length : Int))] := by
  unfold spots
  rw [List.zipIdx_append, List.map_append]
  simp
theorem valV_none {kvs : List (Key × V)} {k : Key} (h : ∀ p ∈ kvs, p.1 ≠ k) : valV kvs k = none := by
  induction kvs with
  | nil => rfl
  | cons p r ih => rw [valV_neg (h p List.mem_cons_self), ih fun q hq => h q (List.mem_cons_of_mem _ hq)]
theorem putK_new {kvs : List (Key × V)} {k : Key} {v : V} (h : valV kvs k = none) : putK kvs k v = kvs ++ [(k, v)] := by
  unfold putK
  rw [valV_any, h]
  rfl
theorem spots_key (ns : List Str) : (spots ns).map (·.1) = ns.map Sum.inr := by
  unfold spots
  rw [List.map_map]
  have h : ∀ (l : List Str) (k : Nat), (l.zipIdx k).map ((fun p : Key × V => p.1) ∘ fun p => (Sum.inr p.1, V.int (p.2 : Int))) = l.map Sum.inr := by
    intro l
    induction l with
    | nil => intro k; rfl
    | cons a l ih =>
      intro k
      rw [List.zipIdx_cons, List.map_cons, ih]
      rfl
  exact h ns 0
theorem spots_none {ns : List Str} {x : Str} (h : x ∉ ns) : valV (spots ns) (.inr x) = none := by
  refine valV_none fun p hp e => h ?_
  have z : p.1 ∈ (spots ns).map (·.1) := List.mem_map_of_mem hp
  rw [spots_key, e] at z
  obtain ⟨y, hy, ey⟩ := List.mem_map.mp z
  cases ey
  exact hy
theorem spots_val {ns : List Str} (hd : ns.Nodup) {i : Nat} (hi : i < ns.length) : valV (spots ns) (.inr ns[i]) = some (.int (i : Int)) := by
  unfold spots
  have h : ∀ (l : List Str) (k i : Nat) (hi : i < l.length), l.Nodup → valV ((l.zipIdx k).map fun p => ((.inr p.1, .int (p.2 : Int)) : Key × V)) (.inr l[i]) = some (.int ((k + i : Nat) : Int)) := by
    intro l
    induction l with
    | nil => intro k i hi; cases hi
    | cons a l ih =>
      intro k i hi hn
      rw [List.zipIdx_cons, List.map_cons]
      cases i with
      | zero => exact valV_pos rfl
      | succ i =>
        rw [List.nodup_cons] at hn
        have hi' : i < l.length := by simpa using hi
        rw [valV_neg]
        · show valV _ (Sum.inr l[i]) = _
          rw [ih (k + 1) i hi' hn.2]
          rw [show k + 1 + i = k + (i + 1) by omega]
        · intro z
          have z' : a = l[i] := Sum.inr.inj z
          exact hn.1 (z' ▸ List.getElem_mem hi')
  have z := h ns 0 i hi hd
  rw [Nat.zero_add] at z
  exact z
end Ol

set_option Elab.async false
set_option linter.all false
set_option maxRecDepth 100000
set_option maxHeartbeats 4000000
namespace K16
open PySem PySem.Spec PyProof.Rows L2 Ol
open TL (tl)
/-- the fields -/
def lf (n b s : Addr) : List (Str × V) := [("_names", .ref n), ("_bounds", .ref b), ("_spots", .ref s)]
theorem n_b : ¬ (("_names" : Str) = "_bounds") := by decide +kernel
theorem n_s : ¬ (("_names" : Str) = "_spots") := by decide +kernel
theorem b_s : ¬ (("_bounds" : Str) = "_spots") := by decide +kernel
theorem b_n : ¬ (("_bounds" : Str) = "_names") := by decide +kernel
theorem s_n : ¬ (("_spots" : Str) = "_names") := by decide +kernel
theorem s_b : ¬ (("_spots" : Str) = "_bounds") := by decide +kernel
theorem lf_n (n b s : Addr) : (lf n b s).lookup ("_names" : Str) = some (.ref n) := by
  unfold lf
  rw [List.lookup_cons_self]
theorem lf_b (n b s : Addr) : (lf n b s).lookup ("_bounds" : Str) = some (.ref b) := by
  unfold lf
  rw [List.lookup_cons, beq_eq_false_iff_ne.mpr b_n]
  dsimp only
  rw [List.lookup_cons_self]
theorem lf_s (n b s : Addr) : (lf n b s).lookup ("_spots" : Str) = some (.ref s) := by
  unfold lf
  rw [List.lookup_cons, beq_eq_false_iff_ne.mpr s_n]
  dsimp only
  rw [List.lookup_cons, beq_eq_false_iff_ne.mpr s_b]
  dsimp only
  rw [List.lookup_cons_self]
theorem lf_no (n b s : Addr) {m : Str} (h1 : ¬ m = "_names") (h2 : ¬ m = "_bounds") (h3 : ¬ m = "_spots") : (lf n b s).lookup m = none := by
  unfold lf
  rw [List.lookup_cons, beq_eq_false_iff_ne.mpr h1]
  dsimp only
  rw [List.lookup_cons, beq_eq_false_iff_ne.mpr h2]
  dsimp only
  rw [List.lookup_cons, beq_eq_false_iff_ne.mpr h3]
  rfl
theorem put1 (n : Addr) : putF "_names" (.ref n) [] = ([("_names", V.ref n)] : List (Str × V)) := rfl
theorem put2 (n b : Addr) : putF "_bounds" (.ref b) [("_names", V.ref n)] = ([("_names", V.ref n), ("_bounds", V.ref b)] : List (Str × V)) := by
  show (if ("_names" : Str) = "_bounds" then _ else (("_names" : Str), V.ref n) :: putF "_bounds" (V.ref b) []) = _
  rw [if_neg n_b]
  rfl
theorem put3 (n b s : Addr) : putF "_spots" (.ref s) [("_names", V.ref n), ("_bounds", V.ref b)] = lf n b s := by
  show (if ("_names" : Str) = "_spots" then _ else (("_names" : Str), V.ref n) :: (if ("_bounds" : Str) = "_spots" then _ else (("_bounds" : Str), V.ref b) :: putF "_spots" (V.ref s) [])) = _
  rw [if_neg n_s, if_neg b_s]
  rfl
/-- Lanes with these names and bounds stand at p -/
def LanesAt (C : Addr) (H : Hp) (p : Addr) (ns : List Str) (bs : List Int) : Prop :=
  ∃ dx n b s, H p = some (.ins C dx (lf n b s)) ∧ H n = some (.tup (ns.map V.str)) ∧ H b = some (.tup (bs.map V.int)) ∧ H s = some (.dK (spots ns)) ∧
    bs.length = ns.length ∧ ns.Nodup ∧ ns.length ≤ 60 ∧ (∀ x ∈ ns, isNameS x = true) ∧ (∀ i ∈ bs, 1 ≤ i)
theorem LanesAt.up {C : Addr} {H H' : Hp} {p : Addr} {ns : List Str} {bs : List Int} (e : Ext H H') : LanesAt C H p ns bs → LanesAt C H' p ns bs
  | ⟨dx, n, b, s, h1, h2, h3, h4, r⟩ => ⟨dx, n, b, s, e _ _ h1, e _ _ h2, e _ _ h3, e _ _ h4, r⟩
/-- what the text says of the class -/
structure LT (K : PySem.W.Frag) (mg : Str → Option Value) (C : Addr) : Prop where
  cl : Cls K C
  nN : NoAttr K C "_names"
  nB : NoAttr K C "_bounds"
  nS : NoAttr K C "_spots"
  gC : mg "Lanes" = some (.ref C)
  n_enum : mg "enumerate" = none
  n_zip : mg "zip" = none
abbrev cL (i : Nat) : Stmt := inClass (topS 30) i
section
variable {P : Program} {w : World} {K : PySem.W.Frag} {mg : Str → Option Value} {base : Heap} {C : Addr}
def bdOf (ps : List (Str × Int)) (x : Str) : Int := ((ps.find? fun p => decide (p.1 = x)).map (·.2)).getD 0
def spInit (C : Addr) : Sp := fun vs H Q _ => ∃ (H0 : Hp) (p dx a : Addr) (ps : List (Str × Int)), vs = [.ref p, .ref a] ∧ H0 p = none ∧ Ext H0 H ∧ H p = some (.ins C dx []) ∧ H0 a = some (.dK (kvI ps)) ∧
  ps ≠ [] ∧ ps.length ≤ 60 ∧ (∀ q ∈ ps, isNameS q.1 = true ∧ 1 ≤ q.2) ∧ (ps.map (·.1)).Nodup ∧
  ∀ H' ns, Ext H0 H' → ns.Perm (ps.map (·.1)) → sortedS ns = true → LanesAt C H' p ns (ns.map (bdOf ps)) → Q .non H'
theorem sc_init : FnScope ["self", "bounds", "name", "spot"] ["self", "bounds"] (defScope (cL 0)) := ⟨rfl, rfl, rfl, by decide +kernel, rfl, by decide +kernel, by decide +kernel⟩
theorem tyes' {σ : L2.St} {H : Hp} {Q : Bool → Hp → Prop} (h : Q true H) : tYes σ H Q := h
theorem range_getD {α β : Type} (h : α → β) (d : α) : ∀ l : List α, (List.range l.length).map (fun i => h (l.getD i d)) = l.map h
  | [] => rfl
  | a :: l => by
    rw [List.length_cons, List.range_succ_eq_map, List.map_cons, List.map_map, List.map_cons]
    congr 1
    exact range_getD h d l
theorem kvI_val {ps : List (Str × Int)} {x : Str} (h : x ∈ ps.map (·.1)) : valV (kvI ps) (.inr x) = some (.int (bdOf ps x)) := by
  induction ps with
  | nil => cases h
  | cons p ps ih =>
    unfold kvI bdOf
    rw [List.map_cons, List.find?_cons]
    by_cases c : p.1 = x
    · rw [valV_pos (by rw [c]), decide_eq_true c]
      rfl
    · rw [valV_neg (fun z => c (Sum.inr.inj z)), decide_eq_false c]
      rw [List.map_cons, List.mem_cons] at h
      exact ih (h.resolve_left fun z => c z.symm)
theorem bd_mem {ps : List (Str × Int)} {x : Str} (h : x ∈ ps.map (·.1)) : ∃ p ∈ ps, p.1 = x ∧ p.2 = bdOf ps x := by
  induction ps with
  | nil => cases h
  | cons p ps ih =>
    unfold bdOf
    rw [List.find?_cons]
    by_cases c : p.1 = x
    · rw [decide_eq_true c]
      exact ⟨p, List.mem_cons_self, c, rfl⟩
    · rw [decide_eq_false c]
      rw [List.map_cons, List.mem_cons] at h
      obtain ⟨r, h1, h2, h3⟩ := ih (h.resolve_left fun z => c z.symm)
      exact ⟨r, List.mem_cons_of_mem _ h1, h2, h3⟩
theorem ok_init {f : Addr} {fd : FuncData} (F : Fun K "__init__" "Lanes.__init__" (cL 0) f fd) (T : BT mg) (L : LT K mg C)
    (C5 : Ca P w K mg base 3 "is_bounds" ["thing"] spIsBounds) :
    FnOk P w K mg base CX0 4 f fd ["self", "bounds"] (spInit C) := by
  refine F.ok sc_init (fun vs H Q E h => ?_) (fun cdv A outer s H vs Q E hr h => ?_)
  · obtain ⟨H0, p, dx, a, ps, rfl, _⟩ := h
    rfl
  · obtain ⟨H0, p, dx, a, ps, rfl, hp0, e0, hp, ha, hne, hl, hps, hnd, q⟩ := h
    refine ⟨_, (pss_cons (ps_if (pt_not (pt_val (pe_ca C5 (hr.mono (by decide)) (by rfl) (pa_cons (pv 1) pa_nil)))) (pss_one ps_never) pss_nil)
      (pss_cons (ps_fld (pv 0) (pe_callTy call_tuple_of (by rfl) T.n_tuple (by decide +kernel) (pa_cons (pe_callB (call_sortedD rfl) (by rfl) T.n_sorted (by decide +kernel) (pa_cons (pv 1) pa_nil)) pa_nil)) rfl)
      (pss_cons (ps_fld (pv 0) (pe_callTy call_tuple_of (by rfl) T.n_tuple (by decide +kernel) (pa_cons (pe_lc (own := [("name", 2)]) (g := gName 2) (tt := tYes) rfl sc_init.nd (pi_tup (pe_fld (pv 0) rfl)) (blkOk_by (N := ["self", "bounds", "name", "spot"]) (sc := defScope (cL 0)) (by decide +kernel)) (fun _ _ _ _ _ => pg_name (i := 2) sc_init.nd rfl (.inl rfl)) (fun _ _ _ _ _ => pts_nil) (fun _ _ _ _ _ => pe_dget (hu_of hr) (pv 1) (pv 2) (fun _ _ => rfl))) pa_nil)) rfl)
      (pss_one (ps_fld (pv 0) (pe_dc (own := [("name", 2), ("spot", 3)]) (g := gTup K 2 (gCons (gName 3) (gCons (gName 2) gNil))) (tt := tYes) rfl sc_init.nd (pi_enumT (by rfl) L.n_enum (pa_cons (pe_fld (pv 0) rfl) pa_nil)) (blkOk_by (N := ["self", "bounds", "name", "spot"]) (sc := defScope (cL 0)) (by decide +kernel)) (fun _ _ _ _ _ => pg_tup (by rfl) (pgs_cons (pg_name (i := 3) sc_init.nd rfl (.inl rfl)) (pgs_cons (pg_name (i := 2) sc_init.nd rfl (.inl rfl)) pgs_nil))) (fun _ _ _ _ _ => pts_nil) (fun _ _ _ _ _ => pv 2) (fun _ _ _ _ _ => pv 3)) rfl))))), ?_⟩
    have kl : (kvI ps).map (·.1) = (ps.map (·.1)).map Sum.inr := by
      unfold kvI
      rw [List.map_map, List.map_map]
      rfl
    refine ⟨_, rfl, a, ps, rfl, e0 _ _ ha, hne, Nat.le_trans hl (by decide), hps, fun H1 e1 => ⟨_, rfl, ?_⟩⟩
    refine iteF ?_
    have e01 := e0.trans e1
    refine ⟨_, rfl, a, _, _, rfl, Rd.of (e01 _ _ ha), kl, (by rw [List.length_map]; omega), fun ns l hperm hso hl1 => ?_⟩
    have hx2 : H1 a = some (.dK (kvI ps)) := e01 _ _ ha
    have hpH : H1 p = some (.ins C dx []) := e1 _ _ hp
    have nd : ns.Nodup := hperm.nodup_iff.mpr hnd
    have len : ns.length = ps.length := by rw [hperm.length_eq, List.length_map]
    have el := Ext.new (o := .lst (ns.map V.str)) hl1
    refine ⟨l, _, rfl, .inl ⟨SqL.of upd_same, fun n hn => ?_⟩⟩
    have en := Ext.new (o := .tup (ns.map V.str)) hn
    refine ⟨_, rfl, p, C, dx, [], rfl, (el.trans en) _ _ hpH, L.cl, L.nN, (by show 0 < 1000; decide), ?_⟩
    rw [put1]
    have e4 : Ext H0 (upd (upd (upd H1 l (.lst (ns.map V.str))) n (.tup (ns.map V.str))) p (.ins C dx [("_names", .ref n)])) := Ext.mut (e01.trans (el.trans en)) hp0
    have npn : p ≠ n := fun z => by
      have := (el _ _ hpH)
      rw [z, hn] at this
      cases this
    have h4n : (upd (upd (upd H1 l (.lst (ns.map V.str))) n (.tup (ns.map V.str))) p (.ins C dx [("_names", .ref n)])) n = some (.tup (ns.map V.str)) := by
      rw [upd_ne (Ne.symm npn)]
      exact upd_same
    have h4p : (upd (upd (upd H1 l (.lst (ns.map V.str))) n (.tup (ns.map V.str))) p (.ins C dx [("_names", .ref n)])) p = some (.ins C dx [("_names", .ref n)]) := upd_same
    generalize hH4 : upd (upd (upd H1 l (.lst (ns.map V.str))) n (.tup (ns.map V.str))) p (.ins C dx [("_names", .ref n)]) = H4 at *
    refine ⟨_, rfl, p, C, dx, _, _, rfl, h4p, L.cl, L.nN, rfl, n, rfl, ⟨_, SqT.of h4n⟩, fun D hD => ?_⟩
    have nm : ∀ i, i < ns.length → ns.getD i Str.empty ∈ ps.map (·.1) := fun i hi => by
      rw [List.getD_eq_getElem?_getD, List.getElem?_eq_getElem hi]
      exact hperm.mem_iff.mp (List.getElem_mem hi)
    have ml : (ns.map V.str).length = ns.length := List.length_map ..
    refine lc_det (w := walk_tup (xs := ns.map V.str)) (fun i => V.str (ns.getD i Str.empty)) (fun _ => true) (fun i => V.int (bdOf ps (ns.getD i Str.empty))) hD (by rw [ml]; exact Nat.le_trans (by omega) (show 60 ≤ sizeLine by decide)) ?_ (fun H' e => SqT.of (e _ _ h4n)) (fun _ _ _ _ _ h => tyes' h) ?_ ?_
    · rintro i Hi x H' hi ⟨rfl, hx⟩
      refine ⟨rfl, ?_⟩
      rw [List.getElem?_map] at hx
      rw [ml] at hi
      rw [List.getElem?_eq_getElem hi] at hx
      rw [List.getD_eq_getElem?_getD, List.getElem?_eq_getElem hi]
      exact (Option.some.inj hx).symm
    · intro i Hi hi _ e Q' q'
      rw [ml] at hi
      have hai : Hi a = some (.dK (kvI ps)) := (e4.trans e) _ _ ha
      have g := DGet.k (k := .inr (ns.getD i Str.empty)) hai
      rw [kvI_val (nm i hi)] at g
      exact ⟨_, rfl, _, rfl, a, _, rfl, g, q'⟩
    have e5 := Ext.new (o := .lst ((ns.map (bdOf ps)).map V.int)) hD
    have mm : (((List.range (ns.map V.str).length).filter fun _ => true).map fun i => V.int (bdOf ps (ns.getD i Str.empty))) = (ns.map (bdOf ps)).map V.int := by
      rw [ml, List.filter_eq_self.mpr (fun _ _ => rfl), List.map_map]
      exact range_getD (V.int ∘ bdOf ps) Str.empty ns
    rw [mm]
    refine ⟨D, _, rfl, .inl ⟨SqL.of upd_same, fun b hb => ?_⟩⟩
    have e6 := Ext.new (o := .tup ((ns.map (bdOf ps)).map V.int)) hb
    have e46 := e5.trans e6
    refine ⟨_, rfl, p, C, dx, _, rfl, e46 _ _ h4p, L.cl, L.nB, (by show 1 < 1000; decide), ?_⟩
    rw [put2]
    have e7 := Ext.mut (o := .ins C dx [("_names", .ref n), ("_bounds", .ref b)]) (e4.trans e46) hp0
    have npb : p ≠ b := fun z => by
      have := e5 _ _ h4p
      rw [z, hb] at this
      cases this
    have h7n : (upd (upd (upd H4 D (.lst ((ns.map (bdOf ps)).map V.int))) b (.tup ((ns.map (bdOf ps)).map V.int))) p (.ins C dx [("_names", .ref n), ("_bounds", .ref b)])) n = some (.tup (ns.map V.str)) := by
      rw [upd_ne (Ne.symm npn)]
      exact e46 _ _ h4n
    have h7b : (upd (upd (upd H4 D (.lst ((ns.map (bdOf ps)).map V.int))) b (.tup ((ns.map (bdOf ps)).map V.int))) p (.ins C dx [("_names", .ref n), ("_bounds", .ref b)])) b = some (.tup ((ns.map (bdOf ps)).map V.int)) := by
      rw [upd_ne (Ne.symm npb)]
      exact upd_same
    have h7p : (upd (upd (upd H4 D (.lst ((ns.map (bdOf ps)).map V.int))) b (.tup ((ns.map (bdOf ps)).map V.int))) p (.ins C dx [("_names", .ref n), ("_bounds", .ref b)])) p = some (.ins C dx [("_names", .ref n), ("_bounds", .ref b)]) := upd_same
    generalize upd (upd (upd H4 D (.lst ((ns.map (bdOf ps)).map V.int))) b (.tup ((ns.map (bdOf ps)).map V.int))) p (.ins C dx [("_names", .ref n), ("_bounds", .ref b)]) = H7 at *
    refine ⟨_, rfl, p, C, dx, _, _, rfl, h7p, L.cl, L.nN, rfl, n, _, rfl, SqT.of h7n, fun D2 hD2 => ?_⟩
    refine dc_it (w := walk_enumT (xs := ns.map V.str)) (fun i Hi => Ext H7 Hi ∧ Hi D2 = some (.dK (spots (ns.take i)))) ⟨Ext.new hD2, upd_same⟩ (fun i Hi _ h => SqT.of (h.1 _ _ h7n)) ?_ ?_
    · rintro i v Hi H' hi ⟨ei, hdi⟩ ⟨T', y1, y2, rfl, hT, rfl, g1, g2⟩
      rw [ml] at hi
      cases g1
      dsimp only at g2
      rw [List.getElem?_map, List.getElem?_eq_getElem hi] at g2
      cases g2
      have eT := Ext.new (o := .tup [.int (i : Int), .str ns[i]]) hT
      refine ⟨T', _, rfl, SqT.of upd_same, rfl, _, _, rfl, _, _, rfl, rfl, rfl, ?_⟩
      refine tyes ?_
      have hns : ns[i] ∉ ns.take i := fun z => by
        obtain ⟨j, hj, ej⟩ := List.getElem_of_mem z
        rw [List.length_take] at hj
        rw [List.getElem_take] at ej
        exact List.pairwise_iff_getElem.mp nd j i (by omega) hi (by omega) ej
      refine ⟨_, rfl, _, rfl, spots (ns.take i), .inr ns[i], rfl, eT _ _ hdi, ?_, Ext.mut (ei.trans eT) hD2, ?_⟩
      · rw [spots_len, List.length_take]
        exact Nat.lt_of_le_of_lt (show _ ≤ 60 by omega) (by decide)
      · rw [upd_same, putK_new (spots_none hns), List.take_add_one, List.getElem?_eq_getElem hi]
        show _ = some (HO.dK (spots (ns.take i ++ [ns[i]])))
        rw [spots_snoc, List.length_take, Nat.min_eq_left (Nat.le_of_lt hi)]
    · rintro H8 ⟨e8, h8d⟩
      rw [ml, List.take_length] at h8d
      refine ⟨_, rfl, p, C, dx, _, rfl, e8 _ _ h7p, L.cl, L.nS, (by show 2 < 1000; decide), ?_⟩
      rw [put3]
      have npD : p ≠ D2 := fun z => by rw [← z, h7p] at hD2; cases hD2
      refine q _ ns (Ext.mut (e7.trans e8) hp0) hperm hso ⟨dx, n, b, D2, upd_same, ?_, ?_, ?_, List.length_map .., nd, by omega, ?_, ?_⟩
      · rw [upd_ne (Ne.symm npn)]; exact e8 _ _ h7n
      · rw [upd_ne (Ne.symm npb)]; exact e8 _ _ h7b
      · rw [upd_ne (Ne.symm npD)]; exact h8d
      · intro x hx
        obtain ⟨r, hr1, hr2, _⟩ := bd_mem (hperm.mem_iff.mp hx)
        rw [← hr2]
        exact (hps r hr1).1
      · intro i hi
        obtain ⟨x, hx, rfl⟩ := List.mem_map.mp hi
        obtain ⟨r, hr1, _, hr3⟩ := bd_mem (hperm.mem_iff.mp hx)
        rw [← hr3]
        exact (hps r hr1).2
end
end K16

set_option Elab.async false
set_option linter.all false
set_option maxRecDepth 100000
set_option maxHeartbeats 4000000
namespace K16
open PySem PySem.Spec PyProof.Rows L2 Ol
open TL (tl)
-- a
section
variable {P : Program} {w : World} {K : PySem.W.Frag} {mg : Str → Option Value} {base : Heap}
abbrev s__law_take : Stmt := (topS 33)
theorem sc__law_take : FnScope ["_law_bag_here", "_law_many", "_law_cell", "_law_mixed", "_law_value_here", "_law_begin", "_law_second"] ["_law_bag_here", "_law_many"] (defScope s__law_take) := ⟨rfl, rfl, rfl, by decide +kernel, rfl, by decide +kernel, by decide +kernel⟩

theorem pos_of {j : Int} (h : 0 < j) : 0 < j := h
theorem upd_self {H : Hp} {a : Addr} {o : HO} (h : H a = some o) : upd H a o = H := by
  funext b
  by_cases z : b = a
  · rw [z, upd_same, h]
  · rw [upd_ne z]
theorem ok_take {f : Addr} {fd : FuncData} (F : Fun K "_law_take" "_law_take" s__law_take f fd) (T : BT mg) :
    FnOk P w K mg base CX0 1 f fd ["_law_bag_here", "_law_many"] spTake0 := by
  refine F.ok sc__law_take (fun vs H Q E h => ?_) (fun cdv A outer s H vs Q E hr h => ?_)
  · obtain ⟨a, c, b0, b1, b2, ns, m, rfl, _⟩ := h
    rfl
  · obtain ⟨a, c, b0, b1, b2, ns, m, rfl, ha, hc, hns, bi, hm, hm2, q⟩ := h
    have hca : c ≠ a := by
      intro z
      rw [z, ha] at hc
      have e : bagL b0 b1 b2 c = ns.map V.int := by
        injection hc with hc
        injection hc
      have e3 : (bagL b0 b1 b2 c)[3]? = (ns.map V.int)[3]? := by rw [e]
      rw [List.getElem?_map] at e3
      have e4 : some (V.ref c) = (ns[3]?).map V.int := e3
      cases q3 : ns[3]? with
      | none =>
        rw [q3] at e4
        cases e4
      | some z3 =>
        rw [q3] at e4
        cases e4
    refine cutB (fun σ H' => ∃ x0 x1 x2 v2 v3, BagI x0 x1 x2 ∧ σ = [some (.ref a), some (.int m), v2, v3, none, none, none] ∧ H' = upd H a (.lst (bagL x0 x1 x2 c)))
      ⟨_, (pss_cons (ps_if (pt_cmpR op_gt (pe_ix ix_list (pv 0) pe_int (fun _ _ => rfl)) pe_int (nomark _))
      (pss_cons (ps_set (i := 4) sc__law_take.nd rfl (.inl rfl) (pe_op op_mod (pe_callTy call_int1 (by rfl) T.n_int (by decide +kernel) (pa_cons (pe_ix ix_list (pv 0) pe_int (fun _ _ => rfl)) pa_nil)) (pv 1)))
      (pss_cons (ps_asg (pe_op op_fdiv (pe_ix ix_list (pv 0) pe_int (fun _ _ => rfl)) (pv 1)) (pg_sub (pv 0) pe_int set_list))
      (pss_one (ps_ret (pv 4)))))
      pss_nil)
    (pss_cons (ps_set (i := 5) sc__law_take.nd rfl (.inl rfl) (pe_op op_mod (pe_callTy call_int1 (by rfl) T.n_int (by decide +kernel) (pa_cons (pe_op op_mul (pe_op op_add (pe_ix ix_list (pv 0) pe_int (fun _ _ => rfl)) pe_int) pe_int) pa_nil)) pe_int))
    (pss_cons (ps_set (i := 6) sc__law_take.nd rfl (.inl rfl) (pe_op op_mod (pe_callTy call_int1 (by rfl) T.n_int (by decide +kernel) (pa_cons (pe_op op_mul (pe_op op_mod (pe_callTy call_int1 (by rfl) T.n_int (by decide +kernel) (pa_cons (pe_op op_mul (pv 5) (pv 5)) pa_nil)) pe_int) pe_int) pa_nil)) pe_int))
    (pss_cons (ps_if (pt_cmpR op_gt (pv 1) pe_int (nomark _))
      (pss_one (ps_ret (pe_op op_mod (pe_callTy call_int1 (by rfl) T.n_int (by decide +kernel) (pa_cons (pe_op op_add (pe_op op_mul (pv 6) pe_int) (pv 5)) pa_nil)) (pv 1))))
      pss_nil)
    (pss_one (ps_ret (pe_op op_mod (pe_callTy call_int1 (by rfl) T.n_int (by decide +kernel) (pa_cons (pe_op op_fdiv (pv 6) pe_int) pa_nil)) (pv 1)))))))), ?_⟩
      ⟨_, (ps_if (pt_cmpR op_eq (pe_ix ix_list (pv 0) pe_int (fun _ _ => rfl)) pe_int (nomark _))
      (pss_cons (ps_set (i := 2) sc__law_take.nd rfl (.inl rfl) pe_int)
      (pss_cons (ps_if (pt_cmpR op_lt (pe_ix ix_list (pv 0) pe_int (fun _ _ => rfl)) (pe_callB call_len_seq (by rfl) T.n_len (by decide +kernel) (pa_cons (pe_ix ix_list (pv 0) pe_int (fun _ _ => rfl)) pa_nil)) (nomark _))
        (pss_one (ps_set (i := 2) sc__law_take.nd rfl (.inl rfl) (pe_ix ix_list (pe_ix ix_list (pv 0) pe_int (fun _ _ => rfl)) (pe_ix ix_list (pv 0) pe_int (fun _ _ => rfl)) (fun _ _ => rfl))))
        pss_nil)
      (pss_cons (ps_augS (pv 0) pe_int get_list pe_int ip_add set_list)
      (pss_cons (ps_if (pt_cmpR op_ge (pv 2) pe_int (nomark _))
        (pss_one (ps_asg (pv 2) (pg_sub (pv 0) pe_int set_list)))
        pss_nil)
      (pss_cons (ps_set (i := 3) sc__law_take.nd rfl (.inl rfl) (pe_op op_add (pe_op op_add (pe_op op_mul (pe_ix ix_list (pv 0) pe_int (fun _ _ => rfl)) pe_int) (pe_op op_mod (pe_callTy call_int1 (by rfl) T.n_int (by decide +kernel) (pa_cons (pv 2) pa_nil)) pe_int)) (pe_op op_mul pe_int (pe_ix ix_list (pv 0) pe_int (fun _ _ => rfl)))))
      (pss_one (ps_asg (pe_op op_mod (pe_callTy call_int1 (by rfl) T.n_int (by decide +kernel) (pa_cons (pv 3) pa_nil)) pe_int) (pg_sub (pv 0) pe_int set_list))))))))
      pss_nil), fun nx hn => ?_⟩
    · rintro σ H' ⟨x0, x1, x2, v2, v3, xi, rfl, rfl⟩
      have hL : SqL K (upd H a (.lst (bagL x0 x1 x2 c))) a (bagL x0 x1 x2 c) := SqL.of upd_same
      have p0 := xi.h0
      have p1 := xi.h1
      have p1' := xi.h1'
      -- if bag[0] > 0
      refine ⟨_, rfl, a, _, _, _, rfl, rfl, hL, rfl, _, _, rfl, rfl, _, rfl, ?_⟩
      refine ite2 (fun h0 => ?_) (fun h0 => ?_)
      · refine ⟨_, rfl, a, _, _, _, rfl, rfl, hL, rfl, .inl ⟨_, rfl, _, rfl, _, _, rfl, rfl, hm, ?_⟩⟩
        refine ⟨_, rfl, a, _, _, _, rfl, rfl, hL, rfl, _, rfl, _, _, rfl, rfl, ⟨hm, hm2⟩, _, rfl, a, _, _, 0, rfl, rfl, upd_same, rfl, ?_⟩
        refine ⟨_, rfl, ?_⟩
        have z := q (x0 % m) (x0 / m) x1 x2 (Int.emod_nonneg _ (by omega)) (Int.emod_lt_of_pos _ hm) ⟨Int.ediv_nonneg p0 (by omega), xi.h1, xi.h1', xi.h2⟩
        have e : upd (upd H a (.lst (bagL x0 x1 x2 c))) a (.lst ((bagL x0 x1 x2 c).set 0 (.int (x0 / m)))) = upd H a (.lst (bagL (x0 / m) x1 x2 c)) := upd_upd
        rw [e]
        exact z
      · -- begin, second
        refine ⟨_, rfl, a, _, _, _, rfl, rfl, hL, rfl, _, _, rfl, rfl, _, _, rfl, rfl, .inl ⟨by omega, by omega⟩, .inl ⟨_, rfl, _, _, rfl, rfl, pos_of (by decide), ?_⟩⟩
        have g1 : 0 ≤ ((x1 + 1) * 39373) % 1000000007 := Int.emod_nonneg _ (by decide)
        have g2 : ((x1 + 1) * 39373) % 1000000007 < 1000000007 := Int.emod_lt_of_pos _ (by decide)
        generalize ((x1 + 1) * 39373) % 1000000007 = bg at g1 g2 ⊢
        refine ⟨_, rfl, _, rfl, _, _, rfl, rfl, .inl ⟨by omega, by omega⟩, .inl ⟨_, rfl, _, _, rfl, rfl, pos_of (by decide), ?_⟩⟩
        have g3 : 0 ≤ (bg * bg) % 998244353 := Int.emod_nonneg _ (by decide)
        have g4 : (bg * bg) % 998244353 < 998244353 := Int.emod_lt_of_pos _ (by decide)
        generalize (bg * bg) % 998244353 = sq at g3 g4 ⊢
        refine ⟨_, _, rfl, rfl, .inl ⟨by omega, by omega⟩, .inl ⟨_, rfl, _, _, rfl, rfl, pos_of (by decide), ?_⟩⟩
        have g5 : 0 ≤ (sq * 30011) % 998244353 := Int.emod_nonneg _ (by decide)
        have g6 : (sq * 30011) % 998244353 < 998244353 := Int.emod_lt_of_pos _ (by decide)
        generalize (sq * 30011) % 998244353 = sc at g5 g6 ⊢
        refine ⟨_, rfl, _, _, rfl, rfl, _, rfl, ?_⟩
        refine ite2 (fun h1 => ?_) (fun h1 => ?_)
        · refine ⟨_, rfl, _, _, rfl, rfl, .inl ⟨by omega, by omega⟩, _, rfl, _, _, rfl, rfl, .inl ⟨_, rfl, _, rfl, _, _, rfl, rfl, hm, ?_⟩⟩
          exact q _ x0 x1 x2 (Int.emod_nonneg _ (by omega)) (Int.emod_lt_of_pos _ hm) xi
        · refine ⟨_, rfl, _, _, rfl, rfl, ⟨by decide, by decide⟩, .inl ⟨_, rfl, _, rfl, _, _, rfl, rfl, hm, ?_⟩⟩
          exact q _ x0 x1 x2 (Int.emod_nonneg _ (by omega)) (Int.emod_lt_of_pos _ hm) xi
    · -- the cell
      have sa : SqL K H a (bagL b0 b1 b2 c) := SqL.of ha
      have p1 := bi.h1
      have p1' := bi.h1'
      have p2 := bi.h2
      refine ⟨_, rfl, a, _, _, _, rfl, rfl, sa, rfl, rfl, _, rfl, ?_⟩
      refine ite2 (fun h0 => ?_) (fun h0 => ?_)
      · refine ⟨_, rfl, a, _, _, _, rfl, rfl, sa, rfl, _, rfl, a, _, _, _, rfl, rfl, sa, rfl, c, _, rfl, .inl (SqL.of hc), _, _, rfl, rfl, _, rfl, ?_⟩
        refine ite2 (fun h1 => ?_) (fun h1 => ?_)
        · have h1' : b2 < (ns.length : Int) := by
            have z := of_decide_eq_true h1
            rwa [List.length_map] at z
          obtain ⟨j, ej⟩ : ∃ j : Nat, b2 = (j : Int) := ⟨b2.toNat, by omega⟩
          have hj : j < ns.length := by omega
          have hz : 0 ≤ ns[j] := hns _ (List.getElem_mem hj)
          refine ⟨_, rfl, a, _, _, _, rfl, rfl, sa, rfl, _, rfl, a, _, _, _, rfl, rfl, sa, rfl, c, _, _, V.int ns[j], rfl, rfl, SqL.of hc, at_of (j := j) ej (by rw [List.getElem?_map, List.getElem?_eq_getElem hj]; rfl), ?_⟩
          refine ⟨_, rfl, a, _, 2, _, rfl, rfl, sa, rfl, _, _, rfl, rfl, a, _, _, 2, rfl, rfl, ha, rfl, ?_⟩
          refine ⟨_, rfl, _, _, rfl, rfl, _, rfl, ?_⟩
          refine ite2 (fun h2 => ?_) (fun h2 => ?_)
          · refine ⟨_, rfl, _, rfl, a, _, _, 0, rfl, rfl, upd_same, rfl, ?_⟩
            refine ⟨_, rfl, a, _, _, _, rfl, rfl, SqL.of upd_same, rfl, _, _, rfl, rfl, .inl ⟨by omega, by omega⟩, _, rfl, .inl ⟨_, rfl, _, _, rfl, rfl, pos_of (by decide), _, _, rfl, rfl, _, rfl, a, _, _, _, rfl, rfl, SqL.of upd_same, rfl, _, _, rfl, rfl, .inl ⟨by decide, by decide⟩, _, _, rfl, rfl, ?_⟩⟩
            refine ⟨_, rfl, .inl ⟨_, rfl, _, _, rfl, rfl, pos_of (by decide), _, rfl, a, _, _, 1, rfl, rfl, upd_same, rfl, ?_⟩⟩
            exact hn _ _ ⟨_, _, b2 + 1, _, _, ⟨hz, Int.emod_nonneg _ (by decide), Int.emod_lt_of_pos _ (by decide), by omega⟩, rfl, by rw [upd_upd, upd_upd]; rfl⟩
          · refine ⟨_, rfl, a, _, _, _, rfl, rfl, SqL.of upd_same, rfl, _, _, rfl, rfl, .inl ⟨by omega, by omega⟩, _, rfl, .inl ⟨_, rfl, _, _, rfl, rfl, pos_of (by decide), _, _, rfl, rfl, _, rfl, a, _, _, _, rfl, rfl, SqL.of upd_same, rfl, _, _, rfl, rfl, .inl ⟨by decide, by decide⟩, _, _, rfl, rfl, ?_⟩⟩
            refine ⟨_, rfl, .inl ⟨_, rfl, _, _, rfl, rfl, pos_of (by decide), _, rfl, a, _, _, 1, rfl, rfl, upd_same, rfl, ?_⟩⟩
            exact hn _ _ ⟨_, _, b2 + 1, _, _, ⟨bi.h0, Int.emod_nonneg _ (by decide), Int.emod_lt_of_pos _ (by decide), by omega⟩, rfl, by rw [upd_upd]; rfl⟩
        · refine ⟨_, rfl, a, _, 2, _, rfl, rfl, sa, rfl, _, _, rfl, rfl, a, _, _, 2, rfl, rfl, ha, rfl, ?_⟩
          refine ⟨_, rfl, _, _, rfl, rfl, _, rfl, ?_⟩
          refine ite2 (fun h2 => ?_) (fun h2 => ?_)
          · exact absurd (of_decide_eq_true h2) (by decide)
          · refine ⟨_, rfl, a, _, _, _, rfl, rfl, SqL.of upd_same, rfl, _, _, rfl, rfl, .inl ⟨by omega, by omega⟩, _, rfl, .inl ⟨_, rfl, _, _, rfl, rfl, pos_of (by decide), _, _, rfl, rfl, _, rfl, a, _, _, _, rfl, rfl, SqL.of upd_same, rfl, _, _, rfl, rfl, .inl ⟨by decide, by decide⟩, _, _, rfl, rfl, ?_⟩⟩
            refine ⟨_, rfl, .inl ⟨_, rfl, _, _, rfl, rfl, pos_of (by decide), _, rfl, a, _, _, 1, rfl, rfl, upd_same, rfl, ?_⟩⟩
            exact hn _ _ ⟨_, _, b2 + 1, _, _, ⟨bi.h0, Int.emod_nonneg _ (by decide), Int.emod_lt_of_pos _ (by decide), by omega⟩, rfl, by rw [upd_upd]; rfl⟩
      · exact hn _ _ ⟨b0, b1, b2, none, none, bi, rfl, (upd_self ha).symm⟩
end

-- b
section
variable {P : Program} {w : World} {K : PySem.W.Frag} {mg : Str → Option Value} {base : Heap}

abbrev s_is_integer : Stmt := (topS 22)
theorem sc_is_integer : FnScope ["thing"] ["thing"] (defScope s_is_integer) := ⟨rfl, rfl, rfl, by decide +kernel, rfl, by decide +kernel, by decide +kernel⟩
theorem ok_is_integer {f : Addr} {fd : FuncData} (F : Fun K "is_integer" "is_integer" s_is_integer f fd) (T : BT mg) :
    FnOk P w K mg base CX0 1 f fd ["thing"] (spPred Any isIntD) := by
  refine F.ok sc_is_integer (fun vs H Q E h => ?_) (fun cdv A outer s H vs Q E hr h => ?_)
  · obtain ⟨v, d, rfl, _⟩ := h
    rfl
  · obtain ⟨v, d, rfl, hd, hz, q⟩ := h
    have q' := q H (Ext.refl H)
    rw [isIntD_eq] at q'
    refine ⟨_, (pss_one (ps_ret (pe_and (pe_callB call_isi (by rfl) T.n_isinstance (by decide +kernel) (pa_cons (pv 0) (pa_cons (pe_bltn (v := .ty "int") (by rfl) T.n_int (by decide +kernel) rfl) pa_nil))) (pe_one (pe_not (pe_callB call_isi (by rfl) T.n_isinstance (by decide +kernel) (pa_cons (pv 0) (pa_cons (pe_bltn (v := .ty "bool") (by rfl) T.n_bool (by decide +kernel) rfl) pa_nil)))))))), ?_⟩
    refine ⟨_, rfl, _, _, _, _, _, rfl, .ty "int", ty_of hd, ki_int d, _, rfl, ?_⟩
    refine ite2 (fun h => ?_) (fun h => ?_)
    · refine ⟨_, rfl, _, _, _, _, _, rfl, .ty "bool", ty_of hd, ki_bool d, _, rfl, ?_⟩
      rw [h, Bool.true_and] at q'
      exact q'
    · rw [Bool.eq_false_iff.mpr h, Bool.false_and] at q'
      exact q'

abbrev s_is_name : Stmt := (topS 23)
theorem sc_is_name : FnScope ["thing", "letter"] ["thing"] (defScope s_is_name) := ⟨rfl, rfl, rfl, by decide +kernel, rfl, by decide +kernel, by decide +kernel⟩
theorem ok_is_name {f : Addr} {fd : FuncData} (F : Fun K "is_name" "is_name" s_is_name f fd) (T : BT mg) {tl : Tok} {tn : Tok} (gLet : mg "LETTERS" = some (.str abc tl)) (gLong : mg "LONGEST" = some (.int 8 tn)) :
    FnOk P w K mg base CX0 1 f fd ["thing"] (spPred Ok1 isNameD) := by
  refine F.ok sc_is_name (fun vs H Q E h => ?_) (fun cdv A outer s H vs Q E hr h => ?_)
  · obtain ⟨v, d, rfl, _⟩ := h
    rfl
  · obtain ⟨v, d, rfl, hd, hz, q⟩ := h
    refine ⟨_, (pss_cons (ps_if (PW.pt (pw_or (pt_not (pt_val (pe_callB call_isi (by rfl) T.n_isinstance (by decide +kernel) (pa_cons (pv 0) (pa_cons (pe_bltn (v := .ty "str") (by rfl) T.n_str (by decide +kernel) rfl) pa_nil))))) (pw_or1 (pt_not (pt_chain op_le op_le pe_int (pe_callB call_len_str (by rfl) T.n_len (by decide +kernel) (pa_cons (pv 0) pa_nil)) (pe_glob (v := .int 8) rfl gLong ⟨_, rfl⟩))))))
      (pss_one (ps_ret pe_bl))
      pss_nil)
    (pss_one (ps_ret (pe_callB (cr_all rfl) (by rfl) T.n_all (by decide +kernel) (pa_cons (pe_lc (own := [("letter", 1)]) (g := gName 1) (tt := tYes) rfl sc_is_name.nd (pi_str (pv 0)) (blkOk_by (N := ["thing", "letter"]) (sc := defScope s_is_name) (by decide +kernel)) (fun _ _ _ _ _ => (pg_name (i := 1) sc_is_name.nd rfl (.inl rfl))) (fun _ _ _ _ _ => pts_nil) (fun _ _ _ _ _ => (pe_cmpR op_in_sign (pv 1) (pe_glob (v := .str abc) rfl gLet ⟨_, rfl⟩) (by rfl)))) pa_nil))))), ?_⟩
    refine ⟨_, rfl, _, _, _, _, _, rfl, .ty "str", ty_of hd, ki_str d, _, rfl, ?_⟩
    refine ite2 (fun h => ?_) (fun h => ?_)
    · have q' := q H (Ext.refl H)
      rw [kS_not h] at q'
      exact iteT q'
    · obtain ⟨x, rfl, rfl⟩ := dq_str hd (kS_yes h)
      have hx : x.length ≤ 1000 := (hz x rfl).1
      have hx2 : x.length ≤ sizeLine := Nat.le_trans hx (by decide)
      have qx : Q (.bl (isNameS x)) H := q H (Ext.refl H)
      refine ⟨_, rfl, _, rfl, hx2, _, _, rfl, rfl, _, rfl, ?_⟩
      refine ite2 (fun h1 => ?_) (fun h1 => ?_)
      · refine ⟨_, _, rfl, rfl, _, rfl, ?_⟩
        have h1' : (1 : Int) ≤ (x.length : Int) := of_decide_eq_true h1
        refine ite2 (fun h2 => ?_) (fun h2 => ?_)
        · have h2' : ¬ (x.length : Int) ≤ 8 := by simpa using h2
          rw [isNameS_short (by omega)] at qx
          exact qx
        · have h2' : (x.length : Int) ≤ 8 := by simpa using h2
          rw [isNameS_long (by omega)] at qx
          refine ⟨_, rfl, x, rfl, fun D hD => ?_⟩
          refine lc_det walk_str (sg x) (fun _ => true) (fun i => V.bl (decide (x.cps.toList.getD i 0 ∈ abc.cps.toList))) hD hx2 its_sg (fun _ _ => trivial)
            (fun i H' _ _ Q' q' => q') (fun i H' _ _ _ Q' q' => ⟨_, rfl, _, abc, rfl, rfl, q'⟩) ?_
          rw [signs_all x fun c => decide (c ∈ abc.cps.toList)]
          refine ⟨D, _, rfl, SqL.of upd_same, ?_⟩
          rw [all_id_map]
          have q2 := q (upd H D (.lst ((x.cps.toList.map fun c => decide (c ∈ abc.cps.toList)).map V.bl))) (Ext.new hD)
          have e2 : isNameD (.str x) = x.cps.toList.all fun c => decide (c ∈ abc.cps.toList) := isNameS_long (by omega)
          rw [e2] at q2
          exact q2
      · have h1' : ¬ (1 : Int) ≤ (x.length : Int) := by simpa using h1
        rw [isNameS_short (by omega)] at qx
        exact ⟨_, rfl, iteT qx⟩
end

-- d
section
variable {P : Program} {w : World} {K : PySem.W.Frag} {mg : Str → Option Value} {base : Heap}
abbrev s__law_alike : Stmt := (topS 34)
theorem sc__law_alike : FnScope ["_law_found", "_law_due"] ["_law_found", "_law_due"] (defScope s__law_alike) := ⟨rfl, rfl, rfl, by decide +kernel, rfl, by decide +kernel, by decide +kernel⟩
theorem ok_alike {f : Addr} {fd : FuncData} (F : Fun K "_law_alike" "_law_alike" s__law_alike f fd) (T : BT mg) :
    FnG P w K mg base 1 f fd ["_law_found", "_law_due"] spAlike := by
  refine okG F sc__law_alike (fun vs H Q E h => ?_) (fun cdv A outer s H vs Q E hG hr h => ?_)
  · obtain ⟨v, u, d, rfl, _⟩ := h
    rfl
  · obtain ⟨v, u, d, rfl, S, h1, h2, hs, ft, q⟩ := h
    refine ⟨_, (pss_one (ps_ret (pe_and (pe_cmpR (op_eqQ hr) (pv 0) (pv 1) (nomark _)) (pe_one (pe_cmpR op_eq (pe_callB (call_reprD hG hr) (by rfl) T.n_repr (by decide +kernel) (pa_cons (pv 0) pa_nil)) (pe_callB (call_reprD hG hr) (by rfl) T.n_repr (by decide +kernel) (pa_cons (pv 1) pa_nil)) (nomark _)))))), ?_⟩
    refine ⟨_, rfl, _, rfl, d, d, S, h1, h2, hs, hs, _, rfl, ?_⟩
    rw [SeqAt.eqv_refl d (SeqAt.canLay_of_shaped hs)]
    refine iteT ?_
    refine ⟨_, rfl, v, d, rfl, S, h1, ft.sh, ft.dep, ft.len, _, rfl, u, d, rfl, S, h2, ft.sh, ft.dep, ft.len, rfl, ?_⟩
    have e : decide (V.str d.shown = V.str d.shown) = true := decide_eq_true rfl
    rw [e]
    exact q H (Ext.refl H)
end

-- f
section
variable {P : Program} {w : World} {K : PySem.W.Frag} {mg : Str → Option Value} {base : Heap}

abbrev s__law_bag : Stmt := (topS 32)
theorem sc__law_bag : FnScope ["_law_script", "_law_cell"] ["_law_script"] (defScope s__law_bag) := ⟨rfl, rfl, rfl, by decide +kernel, rfl, by decide +kernel, by decide +kernel⟩
theorem ok_bag {f : Addr} {fd : FuncData} (F : Fun K "_law_bag" "_law_bag" s__law_bag f fd) (T : BT mg) :
    FnOk P w K mg base CX0 1 f fd ["_law_script"] (spBag0 K) := by
  refine F.ok sc__law_bag (fun vs H Q E h => ?_) (fun cdv A outer s H vs Q E hr h => ?_)
  · obtain ⟨a, ns, rfl, _⟩ := h
    rfl
  · obtain ⟨a, ns, rfl, hs, hl, q⟩ := h
    refine ⟨_, (pss_one (ps_ret (pe_lst (pa_cons pe_int (pa_cons pe_int (pa_cons pe_int (pa_cons (pe_lc (own := [("_law_cell", 1)]) (g := gName 1) (tt := tYes) rfl sc__law_bag.nd (pi_list (pe_slice sl_list (pv 0) po_none (po_some pe_int))) (blkOk_by (N := ["_law_script", "_law_cell"]) (sc := defScope s__law_bag) (by decide +kernel)) (fun _ _ _ _ _ => (pg_name (i := 1) sc__law_bag.nd rfl (.inl rfl))) (fun _ _ _ _ _ => pts_nil) (fun _ _ _ _ _ => (pe_callB call_abs (by rfl) T.n_abs (by decide +kernel) (pa_cons (pv 1) pa_nil)))) pa_nil))))))), ?_⟩
    obtain ⟨cs, ec, hc⟩ := cut_ints ns none (some 63)
    refine ⟨_, rfl, _, rfl, a, _, rfl, hs, fun p hp => ?_⟩
    rw [ec]
    have e1 : Ext H (upd H p (.lst (cs.map V.int))) := Ext.new hp
    refine ⟨p, rfl, ⟨_, SqL.of upd_same⟩, fun D hD => ?_⟩
    have e2 : Ext (upd H p (.lst (cs.map V.int))) (upd (upd H p (.lst (cs.map V.int))) D (.lst ((cs.map fun i => if i < 0 then -i else i).map V.int))) := Ext.new hD
    refine lc_det (walk_list (K := K) (a := p) (xs := cs.map V.int)) (fun i => .int (cs.getD i 0)) (fun _ => true) (fun i => .int (if cs.getD i 0 < 0 then -(cs.getD i 0) else cs.getD i 0)) hD (by rw [List.length_map]; exact Nat.le_trans hc (Nat.le_trans hl (by decide)))
      ?_ (fun H' e => SqL.of (e _ _ upd_same)) (fun i H' _ _ Q' q' => q') (fun i H' _ _ _ Q' q' => ⟨_, rfl, _, rfl, q'⟩) ?_
    · rintro i H' x H'' hi ⟨rfl, hx⟩
      refine ⟨rfl, ?_⟩
      rw [List.getElem?_map] at hx
      rw [List.getD_eq_getElem?_getD]
      cases e : cs[i]? with
      | none => rw [e] at hx; cases hx
      | some z => rw [e] at hx; exact (Option.some.inj hx).symm
    · rw [List.filter_eq_self.mpr (fun _ _ => rfl), List.length_map, map_range_getI (fun i => V.int (if i < 0 then -i else i)) cs]
      have em : (cs.map fun i => V.int (if i < 0 then -i else i)) = (cs.map fun i => if i < 0 then -i else i).map V.int := by
        rw [List.map_map]
        rfl
      rw [em]
      refine ⟨by show 4 ≤ sizeLine; decide, fun r hr' => ?_⟩
      have e3 := Ext.new (o := .lst (bagL 0 1234567891 0 D)) hr'
      have nDr : D ≠ r := fun z => by rw [← z, upd_same] at hr'; cases hr'
      refine q r D (cs.map fun i => if i < 0 then -i else i) _ ((e1.trans e2).free hr') ((e1.trans e2).trans e3) upd_same (by rw [upd_ne nDr, upd_same]) ?_ nDr
      intro n hn
      obtain ⟨i, _, rfl⟩ := List.mem_map.mp hn
      split <;> omega
end

-- g
def zs8 : List Nat := [122, 122, 122, 122, 122, 122, 122, 122]
def qs8 : List Nat := [113, 113, 113, 113, 113, 113, 113, 113]
/-- not both of two texts -/
def NoZ (ys : List Str) : Prop := ∀ y ∈ ys, ∀ y' ∈ ys, tl y = zs8 → tl y' = qs8 → False
theorem noz0 (t m : Nat) : NoZ ((wordL.drop t ++ wordL.take t).take m) := fun y hy y' hy' e => by
  have h := List.mem_of_mem_take hy
  have hm : y ∈ wordL := by
    rcases List.mem_append.mp h with h | h
    · exact List.mem_of_mem_drop h
    · exact List.mem_of_mem_take h
  have z : ∀ y ∈ wordL, (tl y).length < 8 := by decide +kernel
  have := z y hm
  rw [e] at this
  exact absurd this (by decide)
theorem noz1 (t m : Nat) : NoZ ((List.range m).map fun k => one (let1 t k)) := fun y hy y' hy' e => by
  obtain ⟨k, _, rfl⟩ := List.mem_map.mp hy
  have e' : [let1 t k] = zs8 := e
  have := congrArg List.length e'
  exact absurd this (by show ¬ (1 = 8); decide)
theorem noz2 (cs : List Nat) (at_ t m : Nat) (f : Nat → Str) (hc1 : 1 ≤ cs.length)
    (hf : ∀ k, k < m → tl (f k) = cs.take at_ ++ [let1 t k] ++ cs.drop at_) : NoZ ((List.range m).map f) := fun y hy y' hy' e e' => by
  obtain ⟨k, hk, rfl⟩ := List.mem_map.mp hy
  obtain ⟨k', hk', rfl⟩ := List.mem_map.mp hy'
  rw [hf k (List.mem_range.mp hk)] at e
  rw [hf k' (List.mem_range.mp hk')] at e'
  cases cs with
  | nil => simp at hc1
  | cons c cs =>
    cases at_ with
    | zero =>
      have e1 := congrArg (fun l => l[1]?) e
      have e2 := congrArg (fun l => l[1]?) e'
      have z1 : c = 122 := Option.some.inj e1
      have z2 : c = 113 := Option.some.inj e2
      omega
    | succ n =>
      have e1 := congrArg (fun l => l[0]?) e
      have e2 := congrArg (fun l => l[0]?) e'
      have z1 : c = 122 := Option.some.inj e1
      have z2 : c = 113 := Option.some.inj e2
      omega
def spNamesZ : Sp := fun vs H Q _ => ∃ (a : Addr) (m : Int), vs = [.ref a, .int m] ∧ Bag H a ∧ 1 ≤ m ∧ m ≤ 8 ∧
  ∀ (p : Addr) (ys : List Str) (H' : Hp), Ext H H' → H p = none → H' p = some (.lst (ys.map V.str)) → Names ys m.toNat → NoZ ys → Q (.ref p) H'

section
variable {P : Program} {w : World} {K : PySem.W.Frag} {mg : Str → Option Value} {base : Heap}
abbrev s__law_names : Stmt := (topS 35)
theorem sc__law_names : FnScope ["_law_bag_here", "_law_many", "_law_letters", "_law_words", "_law_style", "_law_turn", "_law_base", "_law_at", "_law_k"] ["_law_bag_here", "_law_many"] (defScope s__law_names) := ⟨rfl, rfl, rfl, by decide +kernel, rfl, by decide +kernel, by decide +kernel⟩
theorem ok_names {f : Addr} {fd : FuncData} (F : Fun K "_law_names" "_law_names" s__law_names f fd) (T : BT mg)
    (CT : Ca P w K mg base 1 "_law_take" ["_law_bag_here", "_law_many"] spTake) :
    FnOk P w K mg base CX0 2 f fd ["_law_bag_here", "_law_many"] spNamesZ := by
  refine F.ok sc__law_names (fun vs H Q E h => ?_) (fun cdv A outer s H vs Q E hr h => ?_)
  · obtain ⟨a, m, rfl, _⟩ := h
    rfl
  · obtain ⟨a, m, rfl, hb, hm1, hm8, q⟩ := h
    refine ⟨_, (pss_cons (ps_set (i := 2) sc__law_names.nd rfl (.inr rfl) pe_str)
    (pss_cons (ps_set (i := 3) sc__law_names.nd rfl (.inl rfl) pe_str)
    (pss_cons (ps_set (i := 3) sc__law_names.nd rfl (.inl rfl) (pe_split (pe_op op_add_str (pv 3) pe_str) pe_str))
    (pss_cons (ps_asg (pe_tup (pa_cons (pe_ca CT (hr.mono (by decide)) (by rfl) (pa_cons (pv 0) (pa_cons pe_int pa_nil))) (pa_cons (pe_ca CT (hr.mono (by decide)) (by rfl) (pa_cons (pv 0) (pa_cons pe_int pa_nil))) pa_nil))) (pg_tup (by rfl) (pgs_cons (pg_name (i := 4) sc__law_names.nd rfl (.inl rfl)) (pgs_cons (pg_name (i := 5) sc__law_names.nd rfl (.inr rfl)) pgs_nil))))
    (pss_cons (ps_set (i := 6) sc__law_names.nd rfl (.inr rfl) (pe_join pe_str (pe_lc (own := [("_law_k", 8)]) (g := gName 8) (tt := tYes) rfl sc__law_names.nd (pi_range1 (by rfl) T.n_range (pa_cons (pe_op op_add pe_int (pe_ca CT (hr.mono (by decide)) (by rfl) (pa_cons (pv 0) (pa_cons pe_int pa_nil)))) pa_nil)) (blkOk_by (N := ["_law_bag_here", "_law_many", "_law_letters", "_law_words", "_law_style", "_law_turn", "_law_base", "_law_at", "_law_k"]) (sc := defScope s__law_names) (by decide +kernel)) (fun _ _ _ _ _ => (pg_name (i := 8) sc__law_names.nd rfl (.inl rfl))) (fun _ _ _ _ _ => pts_nil) (fun _ _ _ _ _ => (pe_ix ix_str (pv 2) (pe_ca CT (hr.mono (by decide)) (by rfl) (pa_cons (pv 0) (pa_cons pe_int pa_nil))) (fun _ _ => rfl))))))
    (pss_cons (ps_set (i := 7) sc__law_names.nd rfl (.inr rfl) (pe_ca CT (hr.mono (by decide)) (by rfl) (pa_cons (pv 0) (pa_cons (pe_op op_add (pe_callB call_len_str (by rfl) T.n_len (by decide +kernel) (pa_cons (pv 6) pa_nil)) pe_int) pa_nil))))
    (pss_cons (ps_if (pt_cmpR op_eq (pv 4) pe_int (nomark _))
      (pss_one (ps_ret (pe_slice sl_list (pe_op op_cat (pe_slice sl_list (pv 3) (po_some (pv 5)) po_none) (pe_slice sl_list (pv 3) po_none (po_some (pv 5)))) po_none (po_some (pv 1)))))
      pss_nil)
    (pss_cons (ps_if (pt_cmpR op_eq (pv 4) pe_int (nomark _))
      (pss_one (ps_ret (pe_lc (own := [("_law_k", 8)]) (g := gName 8) (tt := tYes) rfl sc__law_names.nd (pi_range1 (by rfl) T.n_range (pa_cons (pv 1) pa_nil)) (blkOk_by (N := ["_law_bag_here", "_law_many", "_law_letters", "_law_words", "_law_style", "_law_turn", "_law_base", "_law_at", "_law_k"]) (sc := defScope s__law_names) (by decide +kernel)) (fun _ _ _ _ _ => (pg_name (i := 8) sc__law_names.nd rfl (.inl rfl))) (fun _ _ _ _ _ => pts_nil) (fun _ _ _ _ _ => (pe_ix ix_str (pv 2) (pe_op op_mod (pe_callTy call_int1 (by rfl) T.n_int (by decide +kernel) (pa_cons (pe_op op_add (pv 5) (pe_op op_mul pe_int (pv 8))) pa_nil)) pe_int) (fun _ _ => rfl))))))
      pss_nil)
    (pss_one (ps_ret (pe_lc (own := [("_law_k", 8)]) (g := gName 8) (tt := tYes) rfl sc__law_names.nd (pi_range1 (by rfl) T.n_range (pa_cons (pv 1) pa_nil)) (blkOk_by (N := ["_law_bag_here", "_law_many", "_law_letters", "_law_words", "_law_style", "_law_turn", "_law_base", "_law_at", "_law_k"]) (sc := defScope s__law_names) (by decide +kernel)) (fun _ _ _ _ _ => (pg_name (i := 8) sc__law_names.nd rfl (.inl rfl))) (fun _ _ _ _ _ => pts_nil) (fun _ _ _ _ _ => (pe_op op_add_str (pe_op op_add_str (pe_slice sl_str (pv 6) po_none (po_some (pv 7))) (pe_ix ix_str (pv 2) (pe_op op_mod (pe_callTy call_int1 (by rfl) T.n_int (by decide +kernel) (pa_cons (pe_op op_add (pv 5) (pe_op op_mul pe_int (pv 8))) pa_nil)) pe_int) (fun _ _ => rfl))) (pe_slice sl_str (pv 6) (po_some (pv 7)) po_none)))))))))))))), ?_⟩
    -- the words
    refine ⟨_, rfl, _, _, rfl, rfl, by decide +kernel, ⟨_, rfl⟩, _, _, rfl, rfl, by decide +kernel, by decide +kernel, fun pw hpw => ?_⟩
    rw [show Txt.split (Str.ofString "send take ended close else first any step quit server back again where log a b ab ba z" ++ Str.ofString " stuck seat sticks lane") (Str.ofString " ") = wordL from split_words]
    have e1 := Ext.new (o := .lst (wordL.map V.str)) hpw
    have hw1 : upd H pw (.lst (wordL.map V.str)) pw = some (.lst (wordL.map V.str)) := upd_same
    generalize upd H pw (.lst (wordL.map V.str)) = H1 at e1 hw1 ⊢
    -- style, turn
    refine ⟨_, rfl, a, 4, rfl, hb.up e1, by decide, by decide, fun r0 l0 u0 => ⟨_, rfl, a, 20, rfl, hb.up e1, by decide, by decide, fun r1 l1 u1 => ⟨by show 2 ≤ sizeLine; decide, fun pt hpt => ?_⟩⟩⟩
    have e2 := e1.trans (Ext.new (o := .tup [.int r0, .int r1]) hpt)
    have hw2 := Ext.new (o := .tup [.int r0, .int r1]) hpt _ _ hw1
    refine ⟨pt, _, rfl, SqT.of upd_same, rfl, _, _, rfl, _, _, rfl, rfl, ?_⟩
    generalize upd H1 pt (.tup [.int r0, .int r1]) = H2 at e2 hw2 ⊢
    -- the base
    refine ⟨⟨_, rfl⟩, _, rfl, a, 7, rfl, hb.up e2, by decide, by decide, fun r2 l2 u2 => ⟨_, _, rfl, rfl, _, rfl, by omega, by omega, fun D hD => ?_⟩⟩
    refine lc_ext walk_range (fun _ v _ => ∃ c, c ∈ abcL ∧ v = .str (one c)) (fun _ _ _ _ _ h => h) hD (by show (1 + r2).toNat ≤ 2 ^ 24; omega) (fun _ _ => trivial) ?_ ?_
    · rintro i x H' H'' hi e ⟨rfl, rfl⟩
      refine ⟨Ext.refl _, fun Q' q' => ?_⟩
      refine ⟨_, rfl, _, rfl, a, 26, rfl, hb.up (e2.trans e), by decide, by decide, fun r l u => ?_⟩
      obtain ⟨j, rfl⟩ : ∃ j : Nat, r = (j : Int) := ⟨r.toNat, by omega⟩
      have hj : j < 26 := by omega
      exact ⟨_, _, 97 + j, rfl, rfl, by decide +kernel, atI_nat (abc_at j hj), q' _ _ (Ext.refl _) ⟨_, abc_mem hj, rfl⟩⟩
    intro H3 xs e3 hD3 hl hR
    obtain ⟨cs, rfl, hcl, hcm⟩ := ones_of hl hR
    have hcs1 : 1 ≤ cs.length := by rw [hcl]; omega
    have hcs7 : cs.length ≤ 7 := by rw [hcl]; omega
    refine ⟨_, D, cs.map one, rfl, rfl, .inl (SqL.of hD3), by rw [ones_len, List.length_map]; show cs.length + cs.length * 0 ≤ _; omega, ?_⟩
    have hj := join_signs cs
    have ej : Txt.join (Str.ofString "") (cs.map one) = Txt.join "" (cs.map one) := rfl
    rw [ej]
    generalize Txt.join "" (cs.map one) = b at hj ⊢
    have hbl : b.length = cs.length := by rw [tlen, hj]
    have e23 := e2.trans e3
    have hw3 := e3 _ _ hw2
    -- the place
    refine ⟨_, rfl, _, rfl, _, rfl, by rw [hbl]; show _ ≤ 2 ^ 24; omega, _, _, rfl, rfl, a, _, rfl, hb.up e23, by omega, by omega, fun r3 l3 u3 => ?_⟩
    obtain ⟨t, rfl⟩ : ∃ j : Nat, r1 = (j : Int) := ⟨r1.toNat, by omega⟩
    obtain ⟨at_, rfl⟩ : ∃ j : Nat, r3 = (j : Int) := ⟨r3.toNat, by omega⟩
    obtain ⟨k, rfl⟩ : ∃ j : Nat, m = (j : Int) := ⟨m.toNat, by omega⟩
    have hk8 : k ≤ 8 := by omega
    have ha : at_ ≤ cs.length := by omega
    refine ⟨_, rfl, rfl, _, rfl, ?_⟩
    refine ite2 (fun g0 => ?_) (fun g0 => ?_)
    · refine ⟨_, rfl, _, rfl, _, rfl, pw, _, rfl, SqL.of hw3, fun p1 h1 => ?_⟩
      have f1 := Ext.new (o := .lst (cutV (wordL.map V.str) (some (t : Int)) none)) h1
      refine ⟨_, rfl, _, rfl, _, rfl, pw, _, rfl, SqL.of (f1 _ _ hw3), fun p2 h2 => ?_⟩
      have f2 := Ext.new (o := .lst (cutV (wordL.map V.str) none (some (t : Int)))) h2
      refine ⟨p1, p2, _, _, rfl, rfl, f2 _ _ upd_same, upd_same, ?_, fun p3 h3 => ?_⟩
      · have z1 := cutV_length (wordL.map V.str) (some (t : Int)) none
        have z2 := cutV_length (wordL.map V.str) none (some (t : Int))
        have z3 : (wordL.map V.str).length = 23 := rfl
        show _ ≤ 2 ^ 24
        omega
      · have f3 := Ext.new (o := .lst (cutV (wordL.map V.str) (some (t : Int)) none ++ cutV (wordL.map V.str) none (some (t : Int)))) h3
        refine ⟨_, rfl, _, rfl, p3, _, rfl, SqL.of upd_same, fun p4 h4 => ?_⟩
        have el : cutV (cutV (wordL.map V.str) (some (t : Int)) none ++ cutV (wordL.map V.str) none (some (t : Int))) none (some (k : Int)) = ((wordL.drop t ++ wordL.take t).take k).map V.str := by
          rw [cut_drop, cut_take, cut_take, List.map_take, List.map_append, List.map_drop, List.map_take]
        rw [el]
        have e4 := ((e23.trans f1).trans f2).trans f3
        exact q p4 _ _ (e4.trans (Ext.new h4)) (e4.free h4) upd_same (names0 t k (by omega) (by omega)) (noz0 t k)
    · refine ⟨_, rfl, rfl, _, rfl, ?_⟩
      refine ite2 (fun g1 => ?_) (fun g1 => ?_)
      · refine ⟨_, rfl, _, rfl, by omega, by omega, fun D4 hD4 => ?_⟩
        refine lc_det walk_range (fun i => .int (0 + (i : Int))) (fun _ => true) (fun i => .str (one (let1 t i))) hD4 (by show _ ≤ 2 ^ 24; omega) (fun i H x H' _ y => y) (fun _ _ => trivial) (fun i H' _ _ Q' q' => q') (fun i H' hi _ _ Q' q' => ?_) ?_
        · refine ⟨_, rfl, _, rfl, _, rfl, _, _, rfl, rfl, .inl ⟨by decide, by decide⟩, _, _, rfl, rfl, .inl ⟨_, rfl, _, _, rfl, rfl, pos_of (by decide), _, _, let1 t i, rfl, rfl, by decide +kernel, ?_, q'⟩⟩
          have ev : ((t : Int) + 3 * (0 + (i : Int))) % 26 = (((t + 3 * i) % 26 : Nat) : Int) := by omega
          show atI _ (((t : Int) + 3 * (0 + (i : Int))) % 26) = _
          rw [ev]
          exact atI_nat (abc_at _ (Nat.mod_lt _ (by decide)))
        · rw [List.filter_eq_self.mpr (fun _ _ => rfl)]
          have em : ((List.range (k : Int).toNat).map fun i => V.str (one (let1 t i))) = ((List.range k).map fun i => one (let1 t i)).map V.str := by
            rw [List.map_map]
            rfl
          rw [em]
          exact q D4 _ _ (e23.trans (Ext.new hD4)) (e23.free hD4) upd_same (names1 t k hk8) (noz1 t k)
      · refine ⟨_, rfl, _, rfl, by omega, by omega, fun D4 hD4 => ?_⟩
        refine lc_det walk_range (fun i => .int (0 + (i : Int))) (fun _ => true) (fun i => .str (cutS b none (some (at_ : Int)) ++ one (let1 t i) ++ cutS b (some (at_ : Int)) none)) hD4 (by show _ ≤ 2 ^ 24; omega) (fun i H x H' _ y => y) (fun _ _ => trivial) (fun i H' _ _ Q' q' => q') (fun i H' hi _ _ Q' q' => ?_) ?_
        · have hb2 : b.length ≤ 2 ^ 24 := by omega
          have c1 := cutS_length b none (some (at_ : Int))
          have c2 := cutS_length b (some (at_ : Int)) none
          refine ⟨_, rfl, _, rfl, _, rfl, b, rfl, hb2, ?_⟩
          refine ⟨_, rfl, _, rfl, _, rfl, _, _, rfl, rfl, .inl ⟨by decide, by decide⟩, _, _, rfl, rfl, .inl ⟨_, rfl, _, _, rfl, rfl, pos_of (by decide), _, _, let1 t i, rfl, rfl, by decide +kernel, ?_, ?_⟩⟩
          · have ev : ((t : Int) + 3 * (0 + (i : Int))) % 26 = (((t + 3 * i) % 26 : Nat) : Int) := by omega
            show atI _ (((t : Int) + 3 * (0 + (i : Int))) % 26) = _
            rw [ev]
            exact atI_nat (abc_at _ (Nat.mod_lt _ (by decide)))
          · refine ⟨_, _, rfl, rfl, by show _ + 1 ≤ 2 ^ 24; omega, ?_⟩
            refine ⟨_, rfl, _, rfl, _, rfl, b, rfl, hb2, _, _, rfl, rfl, ?_, q'⟩
            have c3 : (cutS b none (some (at_ : Int)) ++ one (let1 t i)).length = (cutS b none (some (at_ : Int))).length + 1 := by
              rw [tlen, tlen, tl_app, List.length_append]
              rfl
            show (cutS b none (some (at_ : Int)) ++ one (let1 t i)).length + _ ≤ 2 ^ 24
            omega
        · rw [List.filter_eq_self.mpr (fun _ _ => rfl)]
          have em : ((List.range (k : Int).toNat).map fun i => V.str (cutS b none (some (at_ : Int)) ++ one (let1 t i) ++ cutS b (some (at_ : Int)) none)) = ((List.range k).map fun i => cutS b none (some (at_ : Int)) ++ one (let1 t i) ++ cutS b (some (at_ : Int)) none).map V.str := by
            rw [List.map_map]
            rfl
          rw [em]
          have hff : ∀ i, i < k → tl (cutS b none (some (at_ : Int)) ++ one (let1 t i) ++ cutS b (some (at_ : Int)) none) = cs.take at_ ++ [let1 t i] ++ cs.drop at_ := fun i _ => by
            rw [tl_app, tl_app, cutS_take, cutS_drop, hj]
            rfl
          exact q D4 _ _ (e23.trans (Ext.new hD4)) (e23.free hD4) upd_same (names2 cs at_ t k _ hcs1 hcs7 hcm hk8 ha hff) (noz2 cs at_ t k _ hcs1 hff)
end

end K16

set_option Elab.async false
set_option linter.all false
set_option maxRecDepth 100000
set_option maxHeartbeats 4000000
namespace Ol
open PySem PySem.Spec PyProof.Rows L2

/-- a method of class C and its promise -/
structure Cm (P : Program) (w : World) (K : PySem.W.Frag) (mg : Str → Option Value) (base : Heap)
    (C : Addr) (k : Nat) (m : Str) (ps : List Str) (sp : Sp) : Prop where
  has : ∃ (f : Addr) (fd : FuncData), FnOk P w K mg base CX0 k f fd ps sp ∧ Meth K C m f ∧ Binds K fd ps []
section
variable {X : Cx} {k : Nat} {C : Addr} {ps : List Str} {sp : Sp} {m : Str} {o e : Expr} {es : List Expr} {ta : TE} {t : TA} {apos pos : Pos}
theorem pe_cm {pl : Sem Bool} (M : Cm X.prog X.w X.K X.mg X.base C k m ps sp) (c : Cls X.K C) (hr : Room k X.A) (he : PE X o ta) (ha : PA X (e :: es) t)
    (hst : starEach (e :: es) X.env = (false, eval e X.env) :: starEach es X.env := by rfl) (hpl : (backTo pos (starEach es X.env)).any (·.1) = false := by rfl)
    (ht : eval (.Call (.Attribute o m apos) (e :: es) [] pos) X.env = (do
      let ov ← eval o X.env
      standAt apos.atName
      let (f, first) ← holding [ov] (getMethod ov m pl)
      callWith pos f first (backTo pos (starEach (e :: es) X.env)) (backToKw pos (keywordEach [] X.env))) := by rfl) :
    PE X (.Call (.Attribute o m apos) (e :: es) [] pos) (tMeth C m sp [] E0 ta t) := by
  obtain ⟨f, fd, F, hm, b⟩ := M.has
  exact pe_meth he c hm F hr b .nil pass0 ha hst hpl ht
theorem op_notInM (M : Cm X.prog X.w X.K X.mg X.base C k "__contains__" ps sp) (hr : Room k X.A) : OpR X (compareOp .NotIn) (rNotInO C sp) := by
  obtain ⟨f, fd, F, hm, b⟩ := M.has
  exact op_notInO F hr hm.at_ hm.fn b
end

/-! ### t * 1 -/
theorem tuple_mul1 (l : Addr) (items : Array Value) (n : Nat) (dd : Option Addr) (sl : Array (Option Value)) (u : Tok) (hi : items.isEmpty = false) :
    Meets (Builtin.«tuple.__mul__» ⟨[.ref l, .int 1 u], []⟩) (fun _ R s => s.heap.get? l = some { cls := .type "tuple", dict := dd, data := .seq items n, slots := sl } ∧
      R (.ok (.ret (Value.ref l))) s) :=
  .of_wp fun prog w A R s h => by
    obtain ⟨hp, g, d, tk, os⟩ := s
    obtain ⟨hl, h⟩ := h
    have f1 := AutoSeq1.idx_int
    wp_walk using wpAny_loadPart' hl
    exact ⟨_, rfl, h⟩
/-- t * k, 1 ≤ k -/
def rRepA (K : PySem.W.Frag) : R2 := fun x y H Q => ∃ l k xs, x = .ref l ∧ y = .int k ∧ SqT K H l xs ∧ xs ≠ [] ∧ 1 ≤ k ∧ k ≤ 1000 ∧ xs.length ≤ 1000 ∧
  (k = 1 → Q (.ref l) H) ∧ (2 ≤ k → ∀ p, H p = none → Q (.ref p) (upd H p (.tup (List.replicate k.toNat xs).flatten)))
theorem op_repA {X : Cx} : OpR X (binaryOp .Mult) (rRepA X.K) := by
  intro pins s σ H x y v u Q I rx ry h
  obtain ⟨l, k, xs, ex, ey, hT, hne, h1, h2, hz, q1, q2⟩ := h
  by_cases hk : 2 ≤ k
  · exact op_repT pins s σ H x y v u Q I rx ry ⟨l, k, xs, ex, ey, hT, hne, hk, h2, hz, q2 hk⟩
  · have e1 : k = 1 := by omega
    subst ex ey e1
    cases rx
    obtain ⟨t, rfl⟩ := ry
    obtain ⟨its, r, ⟨⟨cls, dd, data, sl⟩, ho, hc, n, hd⟩, hs⟩ := I.tuple hT
    simp only at hc hd
    subst hc hd
    have hle : its.length = xs.length := r.length.symm
    have hn : its ≠ [] := fun e => hne (by
      rw [e] at hle
      exact List.eq_nil_of_length_eq_zero hle.symm)
    have hi : its.toArray.isEmpty = false := by
      cases its with
      | nil => exact absurd rfl hn
      | cons a b => rfl
    exact wpAny_binaryOp_repeat_ref (T := "tuple") (U := "int") (by decide) ⟨_, ho, rfl⟩ (fun s' => typeIs_int s' 1 t) noFill_tuple_mul F.fills_int_mul F.slot_int_rmul repeat_tuple F.slot_int_index.lookup
      (call_meets F.slot_int_rmul (typeIs_int s 1 t) F.entry_int_rmul (F.args_int_rmul_2 _ _) (int_rmul_tuple 1 t l its.toArray n dd sl)
        ⟨ho, rfl, ⟨_, ho, rfl⟩, call_meets F.slot_tuple_mul ⟨_, ho, rfl⟩ F.entry_tuple_mul (F.args_tuple_mul_2 _ _) (tuple_mul1 l its.toArray n dd sl t hi) ⟨ho, .ref l, H, I, rfl, q1 rfl⟩⟩)
end Ol

set_option Elab.async false
set_option linter.all false
set_option maxRecDepth 100000
set_option maxHeartbeats 4000000
namespace Ol
open PySem PySem.Spec PyProof.Rows L2

/-- a method that may raise, within a try -/
def tMethX (C : Addr) (m : Str) (sp : Sp) (E : L2.St → XK) (ta : TE) (t : TA) : TE := fun σ H Q => ta σ H fun x H1 => ∃ a dx fs, x = .ref a ∧ H1 a = some (.ins C dx fs) ∧ fs.lookup m = none ∧
  t σ H1 fun vs H2 => sp (x :: vs) H2 Q (E σ)
/-- a method that may raise, and its promise -/
structure CmX (P : Program) (w : World) (K : PySem.W.Frag) (mg : Str → Option Value) (base : Heap)
    (C : Addr) (k : Nat) (m : Str) (ps : List Str) (sp : Sp) : Prop where
  has : ∃ (f : Addr) (fd : FuncData), FnOk P w K mg base (L2.CX P w) k f fd ps sp ∧ Meth K C m f ∧ Binds K fd ps []
section
variable {X : Cx} {k : Nat} {C : Addr} {ps : List Str} {sp : Sp} {m : Str} {o e : Expr} {es : List Expr} {ta : TE} {t : TA} {apos pos : Pos} {E : L2.St → XK}
theorem pe_cmX {pl : Sem Bool} (M : CmX X.prog X.w X.K X.mg X.base C k m ps sp) (c : Cls X.K C) (hr : Room k X.A) (hx : ∀ σ, PassesAt (L2.CX X.prog X.w) X σ (E σ)) (he : PE X o ta) (ha : PA X (e :: es) t)
    (hst : starEach (e :: es) X.env = (false, eval e X.env) :: starEach es X.env := by rfl) (hpl : (backTo pos (starEach es X.env)).any (·.1) = false := by rfl)
    (ht : eval (.Call (.Attribute o m apos) (e :: es) [] pos) X.env = (do
      let ov ← eval o X.env
      standAt apos.atName
      let (f, first) ← holding [ov] (getMethod ov m pl)
      callWith pos f first (backTo pos (starEach (e :: es) X.env)) (backToKw pos (keywordEach [] X.env))) := by rfl) :
    PE X (.Call (.Attribute o m apos) (e :: es) [] pos) (tMethX C m sp E ta t) := by
  obtain ⟨f, fd, F, hm, b⟩ := M.has
  refine ⟨fun pins s σ H Q I h => ?_⟩
  refine PySem.W.methodCall_KW (pl := pl) (thn (he.run pins s σ H _ I h) fun u s1 ⟨x, H1, I1, rx, a, dx, fs, ex, ea, l, q⟩ => ?_) ht
  subst ex
  obtain rfl : u = Value.ref a := rx
  refine getmeth_ok I1 ea c hm l ?_
  refine PySem.W.callWith_K (first := [.ref a]) (h₀ := X.base) I.ok.mod.kin hm.kp (thn (ha.run pos pins s1 σ H1 _ I1 q) fun us s2 ⟨vs, H2, I2, r, q2⟩ => ⟨I2.kIn, ?_⟩) hst hpl
  exact run_fnS (us := .ref a :: us) (vs := .ref a :: vs) F hr b (hx σ) I2 (.cons rfl r) q2
end
end Ol

set_option Elab.async false
set_option linter.all false
set_option maxRecDepth 100000
set_option maxHeartbeats 4000000
namespace Ol
open PySem PySem.Spec PyProof.Rows L2 RZ

theorem walk_zipT {K : PySem.W.Frag} {a b : Addr} {xs ys : List V} {n : Nat} (hn : n = min xs.length ys.length) : Walk (ItzT K a b) n (fun H => SqT K H a xs ∧ SqT K H b ys) (YPair (fun i => xs[i]?) (fun i => ys[i]?)) := by
  subst hn
  refine ⟨fun i _ hi q => ?_, fun _ q => ⟨xs, ys, q.1, q.2, by omega⟩, fun i H v H' _ q y => ?_⟩
  · have h1 : i < xs.length := by omega
    have h2 : i < ys.length := by omega
    exact ⟨xs, ys, xs[i], ys[i], q.1, q.2, by simp [h1], by simp [h2]⟩
  · obtain ⟨T, x, z, h1, h2, h3, h4, h5⟩ := y
    exact ⟨T, x, z, h1, h2, h3, h4 xs q.1, h5 ys q.2⟩

theorem ext_del {H H' : Hp} {D : Addr} (e : Ext H H') : Ext (del H D) (del H' D) := fun b o z => by
  by_cases c : b = D
  · rw [c, del_same] at z; cases z
  · rw [del_ne c] at z ⊢
    exact e _ _ z
theorem del_ext {H : Hp} {D : Addr} : Ext (del H D) H := fun b o z => by
  by_cases c : b = D
  · rw [c, del_same] at z; cases z
  · rw [del_ne c] at z
    exact z
theorem ext_to {H H' : Hp} {D : Addr} (e : Ext H H') (h : H D = none) : Ext H (del H' D) := fun b o z => by
  rw [del_ne (fun c => by rw [c, h] at z; cases z)]
  exact e _ _ z
theorem del_upd {H : Hp} {D : Addr} {o : HO} : del (upd H D o) D = del H D := by
  funext b
  by_cases c : b = D
  · rw [c, del_same, del_same]
  · rw [del_ne c, del_ne c, upd_ne c]
theorem del_at {H : Hp} {D p : Addr} {o u : HO} (h : H p = none) (hD : H D = some u) {H' : Hp} (h' : H' p = some o) : del H' D p = some o := by
  rw [del_ne (fun c => by rw [c, hD] at h; cases h)]
  exact h'
/-- what the second clause is to do in turn i of the first one -/
def Inner (P : Nat → Nat → List V → Hp → Prop) (D : Addr) (H : Hp) (g1 : TG) (tt1 : TT) (te : TE) (vs1 : List Nat) (i : Nat) (σ2 : L2.St) (J1 : It) (H4 : Hp) : Prop :=
  Ext H H4 ∧ ∃ n1 G1 Y1, Walk J1 n1 G1 Y1 ∧
    (∀ Hz, Ext (del H4 D) Hz → G1 Hz) ∧
    (∀ ys Hz, P i n1 ys Hz → P (i + 1) 0 ys Hz) ∧
    ∀ j y Ha Hb ys, j < n1 → Ext (del H4 D) Ha → Ha D = some (.lst ys) → Y1 j Ha y Hb → P i j ys (del Ha D) →
      ∀ (QY : V → Hp → Prop) (QN : Hp → Prop),
        (∀ y H5, Ext Ha H5 → P i (j + 1) (ys ++ [y]) (del H5 D) → QY y H5) →
        (∀ H5, Ext Ha H5 → P i (j + 1) ys (del H5 D) → QN H5) →
        g1 y (wipe σ2 vs1) Hb fun σ3 H5 => wipe σ3 vs1 = wipe σ2 vs1 ∧ tt1 σ3 H5 fun b H6 => if b = true then te σ3 H6 QY else QN H6
/-- a comprehension of two clauses (a test in the second one alone): P holds of both turns, the list so far, and all that stands but the list -/
theorem lc2_acc {J : It} {n : Nat} {G : Hp → Prop} {Y : Nat → Hp → V → Hp → Prop} (w : Walk J n G Y) {g : TG} {wi1 : TI} {g1 : TG} {tt1 : TT} {te : TE} {vs vs1 : List Nat} {σ : L2.St} {H1 : Hp} {D : Addr} {Qd : Hp → Prop}
    (P : Nat → Nat → List V → Hp → Prop) (up : ∀ i j xs H H', Ext H H' → P i j xs H → P i j xs H') (h0 : P 0 0 [] H1) (hD : H1 D = none)
    (hlen : ∀ i j xs H, P i j xs H → xs.length < sizeLine) (hG : ∀ H, Ext H1 H → G H)
    (hs : ∀ i x H H' xs, i < n → Ext H1 H → H D = some (.lst xs) → Y i H x H' → P i 0 xs (del H D) →
      ∀ R : L2.St → It → Hp → Prop, (∀ σ2 J1 H4, Inner P D H g1 tt1 te vs1 i σ2 J1 H4 → R σ2 J1 H4) →
      g x (wipe σ vs) H' fun σ2 H2 => wipe σ2 vs = wipe σ vs ∧ wi1 σ2 H2 (R σ2))
    (hd : ∀ H xs, Ext H1 H → H D = some (.lst xs) → P n 0 xs H → Qd H) :
    ∃ W : Nat → Nat → Hp → Prop, (∃ m, W 0 m (upd H1 D (.lst []))) ∧ ∀ i m H, W i m H →
      (J.stop i H ∧ Qd H) ∨ (J.go i H ∧ ∃ Nx : Hp → Prop, (∀ H', Nx H' → ∃ m', m' < m ∧ W (i + 1) m' H') ∧ ∀ x H', J.yld i H x H' → g x (wipe σ vs) H' fun σ2 H2 => wipe σ2 vs = wipe σ vs ∧ tYes σ2 H2 fun b H3 =>
        if b = true then wi1 σ2 H3 fun J1 H4 => ∃ W1 : Nat → Nat → Hp → Prop, (∃ m, W1 0 m H4) ∧ ∀ j k H, W1 j k H →
          (J1.stop j H ∧ Nx H) ∨ (J1.go j H ∧ ∃ Nx1 : Hp → Prop, (∀ H', Nx1 H' → ∃ k', k' < k ∧ W1 (j + 1) k' H') ∧ ∀ x H', J1.yld j H x H' → g1 x (wipe σ2 vs1) H' fun σ3 H5 => wipe σ3 vs1 = wipe σ2 vs1 ∧ tt1 σ3 H5 fun b H6 =>
            if b = true then te σ3 H6 fun y H7 => ∃ acc, H7 D = some (.lst acc) ∧ acc.length < sizeLine ∧ Nx1 (upd H7 D (.lst (acc ++ [y]))) else Nx1 H6)
        else Nx H3) := by
  have e1 : Ext H1 (upd H1 D (.lst [])) := Ext.new hD
  let Pv : Nat → Hp → Prop := fun i H => ∃ xs, Ext H1 H ∧ H D = some (.lst xs) ∧ P i 0 xs (del H D)
  refine ⟨fun i m H => m = n - i ∧ i ≤ n ∧ Pv i H, ⟨n, by simp, Nat.zero_le _, [], e1, upd_same, up 0 0 [] _ _ (ext_to e1 hD) h0⟩, ?_⟩
  rintro i m H ⟨rfl, hi, xs, e, hx, hp⟩
  have q := hG H e
  by_cases hlt : i < n
  · refine .inr ⟨w.goes i H hlt q, Pv (i + 1), fun H' p' => ⟨n - (i + 1), by omega, rfl, hlt, p'⟩, fun x H' y => ?_⟩
    refine hs i x H H' xs hlt e hx (w.yields i H x H' hlt q y) hp (fun σ2 J1 H4 => ∃ W1 : Nat → Nat → Hp → Prop, (∃ m, W1 0 m H4) ∧ ∀ j k H, W1 j k H →
          (J1.stop j H ∧ Pv (i + 1) H) ∨ (J1.go j H ∧ ∃ Nx1 : Hp → Prop, (∀ H', Nx1 H' → ∃ k', k' < k ∧ W1 (j + 1) k' H') ∧ ∀ x H', J1.yld j H x H' → g1 x (wipe σ2 vs1) H' fun σ3 H5 => wipe σ3 vs1 = wipe σ2 vs1 ∧ tt1 σ3 H5 fun b H6 =>
            if b = true then te σ3 H6 fun y H7 => ∃ acc, H7 D = some (.lst acc) ∧ acc.length < sizeLine ∧ Nx1 (upd H7 D (.lst (acc ++ [y]))) else Nx1 H6)) ?_
    rintro σ2 J1 H4 ⟨e4, n1, G1, Y1, w1, hG1, hend, hst⟩
    have e14 : Ext H1 (del H4 D) := ext_to (e.trans e4) hD
    let Pj : Nat → Hp → Prop := fun j Ha => ∃ ys, Ext (del H4 D) (del Ha D) ∧ Ha D = some (.lst ys) ∧ P i j ys (del Ha D)
    refine ⟨fun j k Ha => k = n1 - j ∧ j ≤ n1 ∧ Pj j Ha, ⟨n1, by simp, Nat.zero_le _, xs, Ext.refl _, e4 _ _ hx, up _ _ _ _ _ (ext_del e4) hp⟩, ?_⟩
    rintro j k Ha ⟨rfl, hj, ys, ea, hy, hpj⟩
    have ea2 : Ext (del H4 D) Ha := ea.trans del_ext
    have q1 := hG1 Ha ea2
    by_cases hl1 : j < n1
    · refine .inr ⟨w1.goes j Ha hl1 q1, Pj (j + 1), fun H' p' => ⟨n1 - (j + 1), by omega, rfl, hl1, p'⟩, fun x1 Hb y1 => ?_⟩
      refine hst j x1 Ha Hb ys hl1 ea2 hy (w1.yields j Ha x1 Hb hl1 q1 y1) hpj _ _ ?_ ?_
      · intro v H5 e5 k
        exact ⟨ys, e5 _ _ hy, hlen _ _ _ _ hpj, ys ++ [v], by rw [del_upd]; exact ea.trans (ext_del e5), upd_same, by rw [del_upd]; exact k⟩
      · intro H5 e5 k
        exact ⟨ys, ea.trans (ext_del e5), e5 _ _ hy, k⟩
    · have ej : j = n1 := by omega
      subst ej
      exact .inl ⟨w1.stops Ha q1, ys, e14.trans ea2, hy, hend _ _ hpj⟩
  · have ei : i = n := by omega
    subst ei
    exact .inl ⟨w.stops H q, hd H xs e hx (up _ _ _ _ _ del_ext hp)⟩
/-- of one clause, in the same words -/
theorem lc1_acc {J : It} {n : Nat} {G : Hp → Prop} {Y : Nat → Hp → V → Hp → Prop} (w : Walk J n G Y) {g : TG} {tt : TT} {te : TE} {vs : List Nat} {σ : L2.St} {H1 : Hp} {D : Addr} {Qd : Hp → Prop}
    (P : Nat → List V → Hp → Prop) (up : ∀ i xs H H', Ext H H' → P i xs H → P i xs H') (h0 : P 0 [] H1) (hD : H1 D = none)
    (hlen : ∀ i xs H, P i xs H → xs.length < sizeLine) (hG : ∀ H, Ext H1 H → G H)
    (hs : ∀ i x H H' xs, i < n → Ext H1 H → H D = some (.lst xs) → Y i H x H' → P i xs (del H D) →
      ∀ (QY : V → Hp → Prop) (QN : Hp → Prop),
        (∀ y H4, Ext H H4 → P (i + 1) (xs ++ [y]) (del H4 D) → QY y H4) →
        (∀ H4, Ext H H4 → P (i + 1) xs (del H4 D) → QN H4) →
        g x (wipe σ vs) H' fun σ2 H2 => wipe σ2 vs = wipe σ vs ∧ tt σ2 H2 fun b H3 => if b = true then te σ2 H3 QY else QN H3)
    (hd : ∀ H xs, Ext H1 H → H D = some (.lst xs) → P n xs H → Qd H) :
    ∃ W : Nat → Nat → Hp → Prop, (∃ m, W 0 m (upd H1 D (.lst []))) ∧ ∀ i m H, W i m H →
      (J.stop i H ∧ Qd H) ∨ (J.go i H ∧ ∃ Nx : Hp → Prop, (∀ H', Nx H' → ∃ m', m' < m ∧ W (i + 1) m' H') ∧ ∀ x H', J.yld i H x H' → g x (wipe σ vs) H' fun σ2 H2 => wipe σ2 vs = wipe σ vs ∧ tt σ2 H2 fun b H3 =>
        if b = true then te σ2 H3 fun y H4 => ∃ acc, H4 D = some (.lst acc) ∧ acc.length < sizeLine ∧ Nx (upd H4 D (.lst (acc ++ [y]))) else Nx H3) := by
  have e1 : Ext H1 (upd H1 D (.lst [])) := Ext.new hD
  refine lc_it w (fun i H => ∃ xs, Ext H1 H ∧ H D = some (.lst xs) ∧ P i xs (del H D)) ⟨[], e1, upd_same, up 0 [] _ _ (ext_to e1 hD) h0⟩ (by rintro i H _ ⟨xs, e, _⟩; exact hG H e) ?_ ?_
  · rintro i x H H' hi ⟨xs, e, hx, hp⟩ y
    refine hs i x H H' xs hi e hx y hp _ _ ?_ ?_
    · intro v H4 e4 k
      exact ⟨xs, e4 _ _ hx, hlen _ _ _ hp, xs ++ [v], Ext.mut (e.trans e4) hD, upd_same, by rw [del_upd]; exact k⟩
    · intro H4 e4 k
      exact ⟨xs, e.trans e4, e4 _ _ hx, k⟩
  · rintro H ⟨xs, e, hx, hp⟩
    exact hd H xs e hx (up _ _ _ _ del_ext hp)
end Ol

set_option Elab.async false
set_option linter.all false
set_option maxRecDepth 100000
set_option maxHeartbeats 4000000
namespace Ol
open PySem PySem.Spec PyProof.Rows L2

theorem lt_anti : ∀ a b : List Nat, ltCps a b = false → ltCps b a = false → a = b
  | [], [], _, _ => rfl
  | [], _ :: _, h, _ => by cases h
  | _ :: _, [], _, h => by cases h
  | a :: r, b :: t, h1, h2 => by
    unfold ltCps at h1 h2
    simp only [Bool.or_eq_false_iff, decide_eq_false_iff_not, Bool.and_eq_false_iff, beq_eq_false_iff_ne] at h1 h2
    have e : a = b := by omega
    subst e
    have r1 : ltCps r t = false := h1.2.resolve_left (fun z => z rfl)
    have r2 : ltCps t r = false := h2.2.resolve_left (fun z => z rfl)
    rw [lt_anti r t r1 r2]
theorem lt_trans : ∀ x y z : List Nat, ltCps y x = false → ltCps z y = false → ltCps z x = false
  | [], _, [], _, _ => rfl
  | [], _, _ :: _, _, _ => rfl
  | _ :: _, [], _, h, _ => by cases h
  | _ :: _, _ :: _, [], _, h => by cases h
  | c :: r, b :: t, d :: u, h1, h2 => by
    unfold ltCps at h1 h2 ⊢
    simp only [Bool.or_eq_false_iff, decide_eq_false_iff_not, Bool.and_eq_false_iff, beq_eq_false_iff_ne] at h1 h2 ⊢
    refine ⟨by omega, ?_⟩
    by_cases e : d = c
    · right
      have e1 : b = c := by omega
      have e2 : d = b := by omega
      exact lt_trans r t u (h1.2.resolve_left (fun z => z e1)) (h2.2.resolve_left (fun z => z e2))
    · exact .inl e
theorem rising_pw : ∀ (p : Str) (l : List Str), risingS p l = true → (p :: l).Pairwise (fun a b => ltCps b.cps.toList a.cps.toList = false)
  | p, [], _ => by simp
  | p, x :: r, h => by
    unfold risingS at h
    rw [Bool.and_eq_true, Bool.not_eq_true'] at h
    have ih := rising_pw x r h.2
    refine List.pairwise_cons.mpr ⟨fun y hy => ?_, ih⟩
    rcases List.mem_cons.mp hy with rfl | hy
    · exact h.1
    · exact lt_trans _ _ _ h.1 (List.rel_of_pairwise_cons ih hy)
theorem sorted_pw : ∀ l : List Str, sortedS l = true → l.Pairwise (fun a b => ltCps b.cps.toList a.cps.toList = false)
  | [], _ => .nil
  | x :: r, h => rising_pw x r h
theorem sorted_one {xs ys : List Str} (h1 : sortedS xs = true) (h2 : sortedS ys = true) (hp : xs.Perm ys) : xs = ys :=
  List.Perm.eq_of_pairwise (fun a b _ _ q1 q2 => by
    have e : a.cps.toList = b.cps.toList := lt_anti _ _ q2 q1
    cases a with | mk a => cases b with | mk b => have e2 : a = b := Array.toList_inj.mp e; rw [e2]) (sorted_pw _ h1) (sorted_pw _ h2) hp

/-! ### data without dicts -/
mutual
inductive Nd : PyData → Prop
  | non : Nd .none
  | bl (b : Bool) : Nd (.bool b)
  | int (i : Int) : Nd (.int i)
  | str (x : Str) : Nd (.str x)
  | lst {ds : List PyData} : NdAll ds → Nd (.list ds)
  | tup {ds : List PyData} : NdAll ds → Nd (.tuple ds)
inductive NdAll : List PyData → Prop
  | nil : NdAll []
  | cons {d : PyData} {ds : List PyData} : Nd d → NdAll ds → NdAll (d :: ds)
end
theorem NdAll.of : ∀ {ds : List PyData}, (∀ d ∈ ds, Nd d) → NdAll ds
  | [], _ => .nil
  | d :: ds, h => .cons (h d List.mem_cons_self) (NdAll.of fun e he => h e (List.mem_cons_of_mem _ he))
mutual
theorem Dq.off {H : Hp} {p : Addr} {kv : List (Key × V)} (hp : H p = some (.dK kv)) : ∀ {v : V} {d : PyData}, Dq H v d → Nd d → Dq (del H p) v d
  | _, _, .non, _ => .non
  | _, _, .bl b, _ => .bl b
  | _, _, .int i, _ => .int i
  | _, _, .str x, _ => .str x
  | _, _, .lst h t, n => .lst (by rw [del_ne (fun z => by rw [z, hp] at h; cases h)]; exact h) (DqAll.off hp t (by cases n; assumption))
  | _, _, .tup h t, n => .tup (by rw [del_ne (fun z => by rw [z, hp] at h; cases h)]; exact h) (DqAll.off hp t (by cases n; assumption))
  | _, _, .dct h t, n => by cases n
theorem DqAll.off {H : Hp} {p : Addr} {kv : List (Key × V)} (hp : H p = some (.dK kv)) : ∀ {vs : List V} {ds : List PyData}, DqAll H vs ds → NdAll ds → DqAll (del H p) vs ds
  | _, _, .nil, _ => .nil
  | _, _, .cons h t, n => .cons (Dq.off hp h (by cases n; assumption)) (DqAll.off hp t (by cases n; assumption))
end
end Ol

set_option Elab.async false
set_option linter.all false
set_option maxRecDepth 100000
set_option maxHeartbeats 4000000
namespace Ol
open PySem PySem.Spec PyProof.Rows L2
/-- data not in a list of data -/
def rNotInQ : R2 := fun x y H Q => ∃ d ds, Sys H ∧ Dq H x d ∧ Dq H y (.list ds) ∧ SeqAt.shaped d = true ∧ SeqAt.shaped (.list ds) = true ∧ Q (.bl (!ds.any fun z => PyData.eqv z d)) H
theorem op_notInQ {X : Cx} (hu : X.A.units + 65 < cLine) : OpR X (compareOp .NotIn) rNotInQ := by
  intro pins s σ H x y v u Q I rx ry h
  obtain ⟨d, ds, S, hd, he, sd, se, q⟩ := h
  obtain ⟨as, r1, _⟩ := Dq.reads I S hd rx
  obtain ⟨bs, r2, _⟩ := Dq.reads I S he ry
  exact SeqAt.notIn_list_reads r2 r1 (SeqAt.canLay_of_shaped se) (SeqAt.canLay_of_shaped sd) (room_in_shaped sd hu) ⟨.bl _, H, I, rfl, q⟩
end Ol

set_option Elab.async false
set_option linter.all false
set_option maxRecDepth 100000
set_option maxHeartbeats 4000000
namespace Ol
open PySem PySem.Spec PyProof.Rows L2
/-- a class catches its own errors -/
theorem exm_same {K : PySem.W.Frag} {S : Addr} (q1 : PySem.W.subIn K (.ref S) (.type "BaseException") = some true) (q2 : PySem.W.isClsIn K S = true)
    (q3 : PySem.W.typeIn K (.ref S) = some (.type "type")) (q4 : PySem.W.subIn K (.ref S) (.ref S) = some true) : PySem.W.exmOne K (.ref S) (.ref S) = some true := by
  have q5 : (PySem.W.clsIn K S).isSome = true := q2
  unfold PySem.W.exmOne
  simp [PySem.W.kitCls, q1, q3, q4, q5]
end Ol

set_option Elab.async false
set_option linter.all false
set_option maxRecDepth 100000
set_option maxHeartbeats 4000000
namespace Ol
open PySem PySem.Spec PyProof.Rows L2
/-- isinstance(e, c): e the error with fields that the suite holds, c a class of the program -/
def rIsX (K : PySem.W.Frag) (a : Addr) (cls : Value) (d : Option Addr) : List V → Hp → VK → Prop := fun xs H Q => ∃ (D c dd : Addr) (fs : List (Str × V)) (b : Bool), xs = [.ref a, .ref c] ∧ cls = .ref D ∧ ExcC K D ∧ d = some dd ∧ H dd = some (.xd fs) ∧
  PySem.W.kitOne K (.ref D) (.ref c) = some b ∧ Q (.bl b) H
theorem call_isX {X : Cx} {a : Addr} {cls : Value} {d : Option Addr} {oe : Obj} {pn : List (Addr × Obj)} (hz : Zc cls d oe) (hf : ∃ vs, oe.data = .fields vs) : CallR (X.suite a ((a, oe) :: pn)) (.builtin "isinstance") (rIsX X.K a cls d) := by
  intro pins s σ H xs us Q I r h
  obtain ⟨D, c, dd, fs, b, rfl, rfl, T, rfl, hdd, e, q⟩ := h
  cases r with
  | cons rx rr =>
    cases rr with
    | cons rt rr =>
      cases rr
      cases rx
      cases rt
      obtain ⟨hget, _⟩ := I.pin (a, oe) (List.mem_append.mpr (.inl List.mem_cons_self))
      obtain ⟨vs, hd⟩ := hf
      have hx : ObjOk X.prog X.w H s.heap dd (.xd fs) := I.hok dd _ hdd
      obtain ⟨mA, hns, hr⟩ := hx
      obtain ⟨od, ho, hl⟩ := lookIn_ns hns
      have J : PySem.W.InstAt s.heap a oe D (some od) := ⟨hget, hz.1, by unfold PySem.W.notCls; rw [hd] <;> rfl, by rw [hz.2]; exact ho⟩
      obtain ⟨cd, hcd, _⟩ := PySem.W.any_some T.hd
      exact PySem.W.kia_one (PySem.W.kitx_exc (by rw [hcd]; rfl) T.hg T.hk T.hs T.ha T.hn T.ht T.hm) I.kIn J e (fun z => nomatch z) fun tk => ⟨.bl b, H, I.kept (t' := tk) fun _ _ z => z, rfl, q⟩
end Ol

set_option Elab.async false
set_option linter.all false
set_option maxRecDepth 100000
set_option maxHeartbeats 4000000
namespace Ol
open PySem PySem.Spec PyProof.Rows L2 HotX L2H
/-! A list comprehension over a list, while an exception is handled. -/
section
variable {prog : Program} {w : World} {A : Around} {E : Value → Shared → Prop} {sz : Shared}
theorem list_end_hot {it l x1 : Addr} {i : Nat} {items : Array Value} {Qz : Option Value → Shared → Prop} (hot : HotAt A x1 sz.heap)
    (hitz : sz.heap.IsListIter it l i) (hlz : sz.heap.IsList l items) (hxz : items[i]? = none)
    (hQz : ∀ h', Heap.ExtBut it sz.heap h' → Qz none { sz with heap := h' }) : wpAny (model prog w) A (pyNext (.ref it)) Qz E sz := by
  obtain ⟨o, hoz, hc, hd⟩ := id hitz
  obtain ⟨olz, holz, _, nlz, hdlz⟩ := hlz
  obtain ⟨hhz, o1z, vs1z, h1z, d1z, c1z⟩ := hot
  have ne : x1 ≠ it := fun z => by
    rw [z, hoz] at h1z
    cases h1z
    rw [hd] at d1z
    cases d1z
    cases c1z
  unfold pyNext
  refine wpAny_bind (wpAny_attempt (wpAny_callSpecial?_slot (name := Str.ofString "__next__") hitz.typeIs slot_listiter_next
    (wpAny_call_entry slot_listiter_next hitz.typeIs entry_listiter_next ?_ (args_listiter_next _))))
  show wpAny _ _ (field (.ref it) 0 >>= _) _ _ sz
  refine wpAny_bind (wpAny_field hoz hd (x := .ref l) rfl ?_)
  show wpAny _ _ (if (Value.ref l == Value.none) = true then _ else _) _ _ sz
  rw [if_neg (show ¬ ((Value.ref l == Value.none) = true) from Bool.false_ne_true)]
  show wpAny _ _ (field (.ref it) 1 >>= _) _ _ sz
  refine wpAny_bind (wpAny_field hoz hd (x := .int i 0) rfl ?_)
  show wpAny _ _ (seqItems? (.ref l) >>= _) _ _ sz
  refine wpAny_bind (wpAny_seqItems holz hdlz ?_)
  simp only [Int.toNat_natCast, hxz]
  refine wpAny_bind (wpAny_rule (wpAny_bind (wpAny_setField hoz hd (by simp) ?_)))
  show wpAny _ _ (newExc (.type "StopIteration") [] >>= _) _ _ _
  refine wpAny_bind ?_
  simp only [newExc, newTuple]
  refine wpAny_bind (wpAny_newObj_type ?_ (by size_fits))
  refine wpAny_bind (m := firstArgMember _ _) (wpAny_of_eq (a := Value.none) (by first | rfl | (simp only [firstArgMember]; rfl)) ?_)
  refine wpAny_newObj_type ?_ (by size_fits)
  have h2 := Heap.get?_push_of_some { cls := .type "tuple", data := .seq #[] } ((Heap.get?_update_other sz.heap (Obj.mapFields fun x => x.setIfInBounds 0 Value.none) (Ne.symm ne)).trans h1z)
  refine raiseNew_hot ⟨hhz, o1z, vs1z, Heap.get?_push_of_some _ h2, d1z, c1z⟩ (Nat.ne_of_lt (Heap.lt_size h2)) (Heap.get?_push_size _ rfl) rfl (by first | (simp; done) | (simp; omega) | (simp only [Array.size_append]; simp; omega)) ?_
  refine wpAny_bind (wpAny_isInstance (T := "StopIteration") (b := true) ⟨_, Heap.get?_update_self _ (Heap.get?_push_size _ rfl) rfl, rfl⟩ isSubtype_stop ?_)
  refine wpAny_pure (hQz _ fun b uz hb e => ?_)
  have eb := (((Heap.SameBut.update sz.heap it (Obj.mapFields fun x => x.setIfInBounds 0 Value.none)).extBut.push { cls := .type "tuple", data := .seq #[] }) b uz hb e)
  rw [Heap.get?_update_other _ _ (Nat.ne_of_gt (Heap.lt_size eb))]
  exact Heap.get?_push_of_some _ eb
end
/-! ### the block, the handled exception pinned -/
section
variable {X : Cx} {pins : List (Addr × Obj)} {σ : L2.St} {Hz : Hp} {sz : Shared}
theorem block_pin {scope : Scope} {own : List (Str × Nat)} {fp : List Addr} (Iz : Inv X pins σ Hz sz) (ok : BlkOk X.N X.env.scope scope own) (hN : X.N.Nodup) (hfp : ∀ b ∈ fp, FpOk X pins Hz b ∧ b < sz.heap.objs.size) {p : Addr × Obj} (hp : p ∈ X.pn) :
    Inv (X.blk sz Hz scope (compEnvC scope (cellsFrom (sz.heap.objs.size + 1) scope.names (cloFrom X.env.cells scope.names [])) sz.heap.objs.size X.env) fp) [p] (wipe σ (own.map (·.2))) Hz { sz with heap := pushCells (sz.heap.push { cls := .type "dict", data := .dict #[] }) scope.names } := by
  have B := block_start Iz ok hN hfp
  obtain ⟨g, fH, nlz, nf, nc⟩ := Iz.pin p (List.mem_append_left _ hp)
  refine ⟨B.ok, B.os, B.bare, B.base, B.loc, B.cell, B.free, B.freeC, fun q hq => ?_, B.hok, B.len⟩
  have e : q = p := by simpa using hq
  subst e
  refine ⟨pushCells_keeps _ _ _ _ (Heap.get?_push_of_some _ g), fH, ?_, fun z => ?_, nc⟩
  · show q.1 ≠ sz.heap.objs.size
    exact Nat.ne_of_lt (Heap.lt_size g)
  · rcases List.mem_cons.mp (Iz.stkSub q.1 z) with y | y
    · exact nlz y
    · exact nf y
/-- the handled exception, by its pin -/
theorem hot_of {A : Around} {p : Addr × Obj} (h : Hot1 A p) {X : Cx} {pins : List (Addr × Obj)} {σ : L2.St} {Hz : Hp} {sz : Shared} (Iz : Inv X pins σ Hz sz) (hp : p ∈ X.pn ++ pins) : HotAt A p.1 sz.heap := by
  obtain ⟨hhz, v1, e1, c1z⟩ := h
  exact ⟨hhz, p.2, v1, (Iz.pin p hp).1, e1, c1z⟩
/-- one more item of a list -/
theorem list_item {tg : Expr} {a it : Addr} {i : Nat} {E : Value → Shared → Prop} (Iz : Inv X pins σ Hz sz) (hf : FpOk X pins Hz it) (st : sz.heap.IsListIter it a i) (hgz : (Itl X.K a).go i Hz) :
    wpAny (model X.prog X.w) X.A (pyNext (.ref it)) (fun r s1z => ∃ uz, r = some uz ∧
      wpAny (model X.prog X.w) X.A (letOwnedTupleGo tg (.ref it) uz) (fun _ s2z => ∃ x H', Inv X pins σ H' s2z ∧ RelV x uz ∧ (Itl X.K a).yld i Hz x H' ∧ s2z.heap.IsListIter it a (i + 1) ∧ H' it = none) E s1z) E sz := by
  obtain ⟨xs, x, hq, hxz⟩ := hgz
  obtain ⟨its, rvz, q, hz⟩ := Iz.list hq
  obtain ⟨uz, huz, ru⟩ := rvz.get hxz
  obtain ⟨f0, f1, f2, f3, f4, f5⟩ := hf
  refine wpAny_pyNext_list_item st q.isList (x := uz) (by simpa using huz) fun h' st' sb => ?_
  have I1z : Inv X pins σ Hz { sz with heap := h' } := Iz.turned (t' := sz.toks) (fun b o hb e => (sb.2 b hb).trans e) f0 f1 f3 f4 f5
  obtain ⟨o, e, c, d⟩ := id st'
  exact ⟨uz, rfl, go_of (s := { sz with heap := h' }) e c d (by decide) ⟨x, Hz, I1z, ru, ⟨rfl, fun ys hy => by rw [Iz.list_inj hy hq]; exact hxz⟩, st', f0⟩⟩
/-- no more items -/
theorem list_done {a it x1 : Addr} {i : Nat} {E : Value → Shared → Prop} (Iz : Inv X pins σ Hz sz) (hot : HotAt X.A x1 sz.heap) (hf : FpOk X pins Hz it) (st : sz.heap.IsListIter it a i) (hgz : (Itl X.K a).stop i Hz) :
    wpAny (model X.prog X.w) X.A (pyNext (.ref it)) (fun r s1z => r = none ∧ Inv X pins σ Hz s1z) E sz := by
  obtain ⟨xs, hq, hxz⟩ := hgz
  obtain ⟨its, rvz, q, hz⟩ := Iz.list hq
  obtain ⟨f0, f1, f2, f3, f4, f5⟩ := hf
  have hlz := rvz.length
  exact list_end_hot hot st q.isList (by simp; omega) fun h' eb => ⟨rfl, Iz.turned (t' := sz.toks) (fun b o hb e => eb b o hb e) f0 f1 f3 f4 f5⟩
theorem lc_coreH {Qz : VK} {eltz tg iter : Expr} {ifsz : List Expr} {scope : Scope} {own : List (Str × Nat)} {pos pos' : Pos} {tl : TE} {g : TG} {tt : TT} {te : TE} {use : Option (Value → Sem Unit)} {Qfz : Value → Shared → Prop}
    (hc : HotC X) (hN : X.N.Nodup) (Iz : Inv X pins σ Hz sz) (hi : PE X iter tl) (ok : BlkOk X.N X.env.scope scope own)
    (hgz : ∀ (sz : Shared) (Hz : Hp) (C : Addr) (cl : List (Str × Addr)) (fp : List Addr), PG (X.blk sz Hz scope (compEnvC scope cl C X.env) fp) tg g) (htz : ∀ (sz : Shared) (Hz : Hp) (C : Addr) (cl : List (Str × Addr)) (fp : List Addr), PTs (X.blk sz Hz scope (compEnvC scope cl C X.env) fp) ifsz tt)
    (hez : ∀ (sz : Shared) (Hz : Hp) (C : Addr) (cl : List (Str × Addr)) (fp : List Addr), PE (X.blk sz Hz scope (compEnvC scope cl C X.env) fp) eltz te) (hsz : ∀ x, foldedSetIterable iter X.env x = pure x)
    (h : tLc (iList X.K tl) g tt te (own.map (·.2)) σ Hz Qz)
    (hRRz : ∀ D C s' m H', Inv X pins σ H' s' → Qz (.ref D) H' → s'.heap.Ns C m → FpOk X pins H' C → compPost (model X.prog X.w) X.A X.xe use Qfz (.ref D) C (.ok .next) s') :
    wpAny (model X.prog X.w) X.A (comprehension (.ListComp eltz [⟨tg, iter, ifsz, 0⟩] scope pos) scope X.env pos' (newList []) false (eval iter X.env) use) Qfz X.xe sz := by
  obtain ⟨p, hp1, hp⟩ := hc
  have hfreez : ∀ y ∈ scope.names, y.2 = .free → ∃ c, X.env.cells.lookup y.1 = some c := fun y hy e => by
    rcases ok.free y hy e with k | k
    · exact Iz.ok.has _ (.inl k)
    · exact Iz.ok.has _ (.inr k)
  refine wpAny_comprehension_free (use := use) rfl hsz (closure_ok hfreez) ok.kind (fun y hy e => by rw [ok.uniq y hy, e])
    (thn (hi.run pins sz σ Hz _ Iz h) fun xv s1z hxz => ?_)
  obtain ⟨x, H2z, I1z, r1, a, ea, ⟨xs, hq⟩, q⟩ := hxz
  subst ea
  cases r1
  obtain ⟨its, rvz, pl, hz⟩ := I1z.list hq
  have hpy : wpAny (model X.prog X.w) X.A (pyIter (.ref a)) (fun itv s2z => ∃ it, itv = .ref it ∧ Inv X pins σ H2z s2z ∧ s2z.heap.IsListIter it a 0 ∧ FpOk X pins H2z it) X.xe s1z :=
    wpAny_pyIter_list pl.isList ⟨_, rfl, I1z.kept (t' := s1z.toks) fun b o e => Heap.get?_push_of_some _ e, ⟨_, Heap.get?_push_size _ rfl, rfl, rfl⟩, I1z.fpOk (Nat.le_refl _) (I1z.hok.fresh (Nat.le_refl _))⟩
  refine thn hpy fun itv s2z ⟨it, ei, I2z, st2, f2⟩ => ?_
  subst ei
  refine wpAny_newObj_type (newEnv_comp ?_) (by show 0 ≤ sizeLine; decide)
  generalize hDz : s2z.heap.objs.size = D
  have hDnz : H2z D = none := I2z.hok.fresh (Nat.le_of_eq hDz)
  obtain ⟨W, ⟨m0, w0⟩, turnz⟩ := q D hDnz
  -- the list that is made
  generalize hs3z : ({ s2z with heap := s2z.heap.push { cls := .type "list", data := .seq ([] : List Value).toArray } } : Shared) = s3z
  have I3z : Inv X pins σ (upd H2z D (.lst [])) s3z := by
    rw [← hs3z]
    refine I2z.laid (t' := s2z.toks) (fun b o e => Heap.get?_push_of_some _ e) (Nat.le_of_eq hDz) ⟨Nat.zero_le _, [], 0, .nil, ?_⟩
    rw [← hDz]
    exact Heap.get?_push_size _ rfl
  have h3 : s3z.heap = s2z.heap.push { cls := .type "list", data := .seq ([] : List Value).toArray } := by rw [← hs3z]
  have tobj : ∀ {i : Nat} {h : Heap}, h.IsListIter it a i → ∀ b ∈ [it], ∃ o, h.get? b = some o ∧ ∀ v, o.data ≠ .cell v := fun {i h} st b hb => by
    obtain rfl : b = it := by simpa using hb
    obtain ⟨o, e, c, d⟩ := st
    exact ⟨o, e, fun v z => by rw [d] at z; cases z⟩
  have ilt : it < s2z.heap.objs.size := by
    obtain ⟨o, e, _⟩ := id st2
    exact Heap.lt_size e
  have f3 : ∀ b ∈ [it], FpOk X pins (upd H2z D (.lst [])) b ∧ b < s3z.heap.objs.size := fun b hb => by
    obtain rfl : b = it := by simpa using hb
    refine ⟨⟨?_, f2.2⟩, by rw [h3, Heap.size_push]; exact Nat.lt_succ_of_lt ilt⟩
    rw [upd_ne (by rw [← hDz]; exact Nat.ne_of_lt ilt)]
    exact f2.1
  have st3 : s3z.heap.IsListIter it a 0 := st2.at fun o e => by rw [h3]; exact Heap.get?_push_of_some _ e
  have I4z := block_pin I3z ok hN f3 hp
  have pg := hgz s3z (upd H2z D (.lst [])) s3z.heap.objs.size (cellsFrom (s3z.heap.objs.size + 1) scope.names (cloFrom X.env.cells scope.names [])) [it]
  have pt := htz s3z (upd H2z D (.lst [])) s3z.heap.objs.size (cellsFrom (s3z.heap.objs.size + 1) scope.names (cloFrom X.env.cells scope.names [])) [it]
  have pe := hez s3z (upd H2z D (.lst [])) s3z.heap.objs.size (cellsFrom (s3z.heap.objs.size + 1) scope.names (cloFrom X.env.cells scope.names [])) [it]
  show codeAny _ _ (.compStart (.ListComp eltz [⟨tg, iter, ifsz, 0⟩] scope pos) 0 (.ref it) (.ref D) (compEnvC scope (cellsFrom (s3z.heap.objs.size + 1) scope.names (cloFrom X.env.cells scope.names [])) s3z.heap.objs.size X.env)) (compPost (model X.prog X.w) X.A X.xe use Qfz (.ref D) s3z.heap.objs.size) { s3z with heap := pushCells (s3z.heap.push { cls := .type "dict", data := .dict #[] }) scope.names }
  have nfp : (upd H2z D (.lst [])) it = none := (f3 it (by simp)).1.1
  generalize hcez : compEnvC scope (cellsFrom (s3z.heap.objs.size + 1) scope.names (cloFrom X.env.cells scope.names [])) s3z.heap.objs.size X.env = ce at I4z pg pt pe ⊢
  have cL : ce.locals = s3z.heap.objs.size := by subst hcez; rfl
  generalize hH3z : upd H2z D (.lst []) = H3z at I3z I4z pg pt pe w0 nfp f3
  generalize hs4z : ({ s3z with heap := pushCells (s3z.heap.push { cls := .type "dict", data := .dict #[] }) scope.names } : Shared) = s4z at I4z ⊢
  have st4 : s4z.heap.IsListIter it a 0 := st3.at fun o e => by rw [← hs4z]; exact pushCells_keeps _ _ _ _ (Heap.get?_push_of_some _ e)
  have pne : p.1 ≠ it := fun z => by
    obtain ⟨o, e, c, d⟩ := id st4
    have g := (I4z.pin p (by simp)).1
    rw [z, e] at g
    cases g
    obtain ⟨_, vs, dd, cc⟩ := hp1
    rw [d] at dd
    cases dd
    cases cc
  have stat : ∀ {σ' : L2.St} {H' : Hp} {s' : Shared}, Inv (X.blk s3z H3z scope ce [it]) [p] σ' H' s' → H' it = none → FpOk (X.blk s3z H3z scope ce [it]) [p] H' it := fun {σ' H' s'} I' hn =>
    ⟨hn, (I'.ok.exf it (by simp)).1, I'.ok.exfs it (by simp), .inl (by simp), fun x c e => (I'.ok.exf it (by simp)).2 x c e, fun r hr => by
      have e : r = p := by simpa using hr
      rw [e]
      exact pne⟩
  have loop : codeAny (model X.prog X.w) X.A (.compLoop (.ListComp eltz [⟨tg, iter, ifsz, 0⟩] scope pos) 0 (.ref it) (.ref D) ce) (compPost (model X.prog X.w) X.A X.xe use Qfz (.ref D) s3z.heap.objs.size) s4z := by
    refine compLoop_any (fun n s' => ∃ i H', Inv (X.blk s3z H3z scope ce [it]) [p] (wipe σ (own.map (·.2))) H' s' ∧ s'.heap.IsListIter it a i ∧ H' it = none ∧ W i n H') ?_ m0 ⟨0, H3z, I4z, st4, nfp, w0⟩
    rintro n s5z ⟨i, H5z, I5z, st5, n5, w5⟩
    rcases turnz i n H5z w5 with ⟨stopz, qq⟩ | ⟨goz, Nx, hNx, stepz⟩
    · have td := list_done (X := X.blk s3z H3z scope ce [it]) (E := fun _ _ => False) I5z (hot_of hp1 I5z (by simp)) (stat I5z n5) st5 stopz
      refine thnF td fun r s6z ⟨hr, I6z⟩ => ?_
      subst hr
      -- the def's context again
      have I7z : Inv X pins σ H5z s6z := I3z.call' (ch := [it]) I6z.os I6z.base I6z.hok I6z.bare fun b hb => ⟨(f3 b hb).1.2.2.2.1, (f3 b hb).1.2.1, (f3 b hb).1.2.2.2.2.1, (f3 b hb).1.2.2.2.2.2⟩
      have nC : H5z s3z.heap.objs.size = none := by
        have z : H5z ce.locals = none := I6z.free
        rw [cL] at z
        exact z
      obtain ⟨m, hn, _⟩ := I6z.loc
      have hn : s6z.heap.Ns ce.locals m := hn
      rw [cL] at hn
      exact hRRz D s3z.heap.objs.size s6z m H5z I7z qq hn (I3z.fpOk (Nat.le_refl _) nC)
    · have ti := list_item (X := X.blk s3z H3z scope ce [it]) (tg := tg) (E := fun _ _ => False) I5z (stat I5z n5) st5 goz
      refine thnF ti fun r s6z ⟨uz, hr, h6⟩ => ?_
      subst hr
      refine thnF h6 fun _ s7z ⟨x, H7z, I7z, r7, y7, st7, n7⟩ => ?_
      have sf : ∀ b ∈ [it], FpOk (X.blk s3z H3z scope ce [it]) [p] H7z b := fun b hb => by
        have e : b = it := by simpa using hb
        rw [e]
        exact stat I7z n7
      have I7' := I7z.pinned sf (tobj st7)
      refine thnF (pg.run _ s7z _ H7z x uz _ I7' r7 (stepz x H7z y7)) fun _ s8z ⟨σ8, H8z, I8z, hw8, q8⟩ => ?_
      refine thnF (pt.run _ s8z σ8 H8z _ I8z q8) fun b s9z ⟨H9z, I9z, q9z⟩ => ?_
      -- a turnz ends
      have fin : ∀ {s' : Shared} {H' : Hp}, Inv (X.blk s3z H3z scope ce [it]) ([p] ++ pinsAt [it] s7z.heap) σ8 H' s' → Nx H' → ∃ m, m < n ∧ ∃ i H', Inv (X.blk s3z H3z scope ce [it]) [p] (wipe σ (own.map (·.2))) H' s' ∧ s'.heap.IsListIter it a i ∧ H' it = none ∧ W i m H' := fun {s' H'} I' nx => by
        obtain ⟨m', hm, w'⟩ := hNx H' nx
        obtain ⟨o7, e7, _⟩ := tobj st7 it (by simp)
        have pin' := I'.pin (it, o7) (List.mem_append_right _ (List.mem_append_right _ (mem_pinsAt (by simp) e7)))
        have hlz : (wipe σ (own.map (·.2))).length = σ8.length := by rw [← hw8, wipe_length]
        refine ⟨m', hm, i + 1, H', (I'.unpinned (pins := [p])).weak hlz (fun j v e => ?_), st7.at fun o e => ?_, pin'.2.1, w'⟩
        · rw [← hw8] at e
          exact (wipe_some e).1
        · rw [e7] at e
          cases e
          exact pin'.1
      cases b with
      | false =>
        simp only [Bool.false_eq_true, if_false] at q9z ⊢
        exact fin I9z q9z
      | true =>
        simp only [if_true] at q9z ⊢
        refine thnF (pe.run _ s9z σ8 H9z _ I9z q9z) fun z s10z ⟨yv, H10z, I10z, r10, acc, hD10z, hz10z, nx⟩ => ?_
        exact app_ok (X := X.blk s3z H3z scope ce [it]) I10z hD10z hz10z r10 fun s11z I11z => fin I11z nx
  exact codeAny_compStart_list loop (wpAny_pyIter_listiter st4 loop)
/-- as a value -/
theorem pe_lcH {eltz tg iter : Expr} {ifsz : List Expr} {scope : Scope} {own : List (Str × Nat)} {pos : Pos} {tl : TE} {g : TG} {tt : TT} {te : TE} (hc : HotC X) (hN : X.N.Nodup) (hi : PE X iter tl) (ok : BlkOk X.N X.env.scope scope own)
    (hgz : ∀ (sz : Shared) (Hz : Hp) (C : Addr) (cl : List (Str × Addr)) (fp : List Addr), PG (X.blk sz Hz scope (compEnvC scope cl C X.env) fp) tg g) (htz : ∀ (sz : Shared) (Hz : Hp) (C : Addr) (cl : List (Str × Addr)) (fp : List Addr), PTs (X.blk sz Hz scope (compEnvC scope cl C X.env) fp) ifsz tt)
    (hez : ∀ (sz : Shared) (Hz : Hp) (C : Addr) (cl : List (Str × Addr)) (fp : List Addr), PE (X.blk sz Hz scope (compEnvC scope cl C X.env) fp) eltz te) (hsz : ∀ x, foldedSetIterable iter X.env x = pure x := by intro _; rfl) :
    PE X (.ListComp eltz [⟨tg, iter, ifsz, 0⟩] scope pos) (tLc (iList X.K tl) g tt te (own.map (·.2))) := by
  refine ⟨fun pins sz σ Hz Qz Iz h => ?_⟩
  rw [eval_ListComp]
  refine lc_coreH hc hN Iz hi ok hgz htz hez hsz h fun D C s' m H' I' q hn f => ⟨m, hn, fun h'' sb => ?_⟩
  obtain ⟨f0, f1, f2, f3, f4, f5⟩ := f
  exact ⟨.ref D, H', I'.turned (t' := s'.toks) (fun b o hb e => (sb.2 b hb).trans e) f0 f1 f3 f4 f5, rfl, q⟩
end
end Ol

set_option Elab.async false
set_option linter.all false
set_option maxRecDepth 100000
set_option maxHeartbeats 4000000
namespace Ol
open PySem PySem.Spec PyProof.Rows L2 HotX L2H
/-! Own errors with fields whose context is None: made, raised, let out of defs and methods. -/
section
variable {X : Cx} {e : Expr} {es : List Expr} {ta : TA} {p pos : Pos}
theorem mk_endN {pins : List (Addr × Obj)} {σ : L2.St} {H1z H2z : Hp} {Qz : XK} {hp hp2 h2 : Heap} {g1 g2 : Array GenState} {d1z d2 : Drawn} {t1 t2 : Nat} {os1 os2 : OsState} {a C d : Addr} {fs : List (Str × V)} (T : Raises X (.ref C)) (J1 : Inv X pins σ H1z ⟨hp, g1, d1z, t1, os1⟩)
    (ha : hp.objs.size ≤ a) (k : ∀ b o, hp.get? b = some o → hp2.get? b = some o) (un : Un (frs X.stack) [] (upd H1z a (exo a C none)) H2z hp2 h2) (hok : HOk X.prog X.w H2z h2) (hoz : os2 = os1) (hb : AllBare g2) (ea : H2z a = some (exo a C (some d)))
    (ed : H2z d = some (exd d fs)) (hd1 : H1z d = none) (q : Qz (.ref C) (some d) (upd (del H2z a) d (.xd fs))) : L2N.MkP X pins σ Qz (.ref a) ⟨h2, g2, d2, t2, os2⟩ := by
  obtain ⟨t0, G, J, kG, ge, hoe, na⟩ := mk_end0 (d2 := d2) (t2 := t2) J1 ha k un hok hoz hb ea ed hd1
  exact ⟨a, _, _, ⟨G, g2, d2, t2, os2⟩, _, .ref C, some d, rfl, J, kG, ge, hoe, ⟨rfl, rfl, fun vs y => by cases y; rfl⟩, rfl, rfl, na, rfl, hb, T, q⟩
theorem pmk_oexN {CX : CXT} {x : Str} {C fI : Addr} {k : Nat} {fd : FuncData} {ps : List Str} {sp : Sp} {ds : List Value} {dvs : List V} (T : OexC X.K C) (iC : PySem.W.findIn X.K (.ref C) "__init__" = some (some (.ref fI))) (tI : PySem.W.typeIn X.K (.ref fI) = some (.type "function"))
    (F1 : FnOk X.prog X.w X.K X.mg X.base CX k fI fd ps sp) (hr : Room (k + 1) X.A) (hb : Binds X.K fd ps ds) (hd : Vals dvs ds) (hxz : Passes CX X (fun _ _ _ => False)) (hgz : Gl X x) (hm : X.mg x = some (.ref C)) (ha : PA X (e :: es) ta)
    (hdbz : (x == ("__debug__" : Str)) = false := by decide) (hez : starEach (e :: es) X.env = (false, eval e X.env) :: starEach es X.env := by rfl) (hplz : (backTo pos (starEach es X.env)).any (·.1) = false := by rfl) :
    L2N.PMk X (.Call (.Name x p) (e :: es) [] pos) (tMkO C sp dvs ta) := by
  intro pins sz σ Hz Qz Iz h
  obtain ⟨nm, q, N, bs, bm, sn, sub, ab, col, dd, k0, k1, k2, k3, k5, hC, hbm⟩ := T.cls
  refine wpAny_Call_Name_kw (ld_glob Iz hgz hm ?_ hdbz)
  refine PySem.W.callWith_K (h₀ := X.base) Iz.ok.mod.kin T.kC (thn (ha.run pos pins sz σ Hz _ Iz h) fun usz s1z ⟨vs, H1z, J1, r1, hz, q1⟩ => ⟨J1.kIn, ?_⟩) hez hplz
  show wpAny _ _ (call (.ref C) usz) _ _ _
  obtain ⟨hp, g, drz, tk, osz⟩ := s1z
  have sz1 : hp.objs.size ≤ hp.objs.size + 1 := Nat.le_succ _
  have new1 : H1z (hp.objs.size + 1) = none := J1.hok.fresh sz1
  have q0 := q1 (hp.objs.size + 1) new1
  have keep2 : ∀ b o, hp.get? b = some o → ((hp.push (PySem.W.kdv_tup usz)).push (PySem.HandSPX.excO C hp.objs.size)).get? b = some o := fun b o z => Heap.get?_push_of_some _ (Heap.get?_push_of_some _ z)
  have at2 : ((hp.push (PySem.W.kdv_tup usz)).push (PySem.HandSPX.excO C hp.objs.size)).get? (hp.objs.size + 1) = some (PySem.HandSPX.excO C hp.objs.size) := by heap_get
  have J2 : Inv X pins σ (upd H1z (hp.objs.size + 1) (exo (hp.objs.size + 1) C none)) ⟨(hp.push (PySem.W.kdv_tup usz)).push (PySem.HandSPX.excO C hp.objs.size), g, drz, tk, osz⟩ :=
    J1.laid (t' := tk) (a := hp.objs.size + 1) (o := exo (hp.objs.size + 1) C none) (h' := (hp.push (PySem.W.kdv_tup usz)).push (PySem.HandSPX.excO C hp.objs.size)) keep2 sz1 (exo_ok at2)
  have r2 : Vals (V.ref (hp.objs.size + 1) :: (vs ++ dvs)) (Value.ref (hp.objs.size + 1) :: (usz ++ ds)) := .cons rfl (r1.append hd)
  have len2 : (Value.ref (hp.objs.size + 1) :: usz ++ ds).length = ps.length := by
    have y := r2.length
    rw [F1.len _ _ _ _ q0] at y
    exact y.symm
  have few : usz.length ≤ sizeLine := by rw [← Paired.length r1, sizeLine_eq]; omega
  refine wpAny_call (PySem.HandSPX.call_own F.excBase_ValueError (fun Y => PySem.HandSPX.refsVE_contains Y bm hbm) (J1.kIn _ _ hC) (PySem.W.looks_findIn J1.kIn iC) (fun self => PySem.W.bind_fn J1.kIn self tI) few
    (codeAny_mono (F1.run _ X.stack _ _ ⟨Value.ref (hp.objs.size + 1) :: usz, []⟩ (Value.ref (hp.objs.size + 1) :: (usz ++ ds)) _ _ (fun _ _ _ => False) (hr.make C usz []) (J2.env0.make C usz []) (hb _ (Value.ref (hp.objs.size + 1) :: usz) J2.kIn len2) r2 q0) fun r s' z' => ?_))
  cases r with
  | error er => exact hxz pins σ _ _ er s' J2 z'
  | ok fl =>
    cases fl with
    | ret uz =>
      obtain ⟨v, H2z, os2, bare2, un2, hok2, rvz, ev, d, fs, ea, ed, hd1, q2⟩ := z'
      subst ev
      obtain ⟨h2, g2, d2, t2, os'⟩ := s'
      exact ⟨rvz, mk_endN (raises_own T.exC T.tyC) J1 sz1 keep2 un2 hok2 os2 bare2 ea ed hd1 q2⟩
    | next => exact z'.elim
    | brk => exact z'.elim
    | cont => exact z'.elim
theorem passAtN {W : L2.WX} (tk : L2N.Takes X W) (σ : L2.St) : PassesAt (L2N.CX X.prog X.w) X σ (WE W σ) := fun _ _ _ y s' Iz c => tk y s' (L2N.XE.of_call Iz (fun _ _ _ h => h) c)
end
section
variable {P : Program} {w : World} {K : PySem.W.Frag} {mg : Str → Option Value} {base : Heap}
theorem okXN {x qual : Str} {st : Stmt} {f : Addr} {fd : FuncData} {N ps : List Str} {k : Nat} {sp : Sp} (F : Fun K x qual st f fd) (S : FnScope N ps (defScope st)) (lenz : ∀ vs Hz Qz E, sp vs Hz Qz E → vs.length = ps.length)
    (hbodyz : ∀ (cdv : Value) (A : Around) (outer : List Env) (sz : Shared) (Hz : Hp) (vs : List V) (Qz : VK) (E : XK), Room k (A.deeper (envOfC qual (defScope st) sz.heap.objs.size f cdv)) → sp vs Hz Qz E →
      ∃ t, PSs (cxOf (L2N.CX P w) P w K mg base N qual (defScope st) f cdv A outer sz Hz E) (defBody st) t ∧ t { nx := fun _ H' => Qz .non H', rt := Qz } (start N vs) Hz) : FnOk P w K mg base (L2N.CX P w) (k + 1) f fd ps sp := by
  obtain ⟨oc, od, kV, doc, pm, an, cdv, ct, osl, rfl, lkz, hcdz⟩ := F.ex
  exact fn_of lkz hcdz S lenz fun A outer sz Hz vs Qz E hr hsp => hbodyz cdv A outer sz Hz vs Qz E hr hsp
/-- a method that may let such errors out, and its promise -/
structure CmN (P : Program) (w : World) (K : PySem.W.Frag) (mg : Str → Option Value) (base : Heap) (C : Addr) (k : Nat) (m : Str) (ps : List Str) (sp : Sp) : Prop where
  has : ∃ (f : Addr) (fd : FuncData), FnOk P w K mg base (L2N.CX P w) k f fd ps sp ∧ Meth K C m f ∧ Binds K fd ps []
/-- a def that may -/
structure CaN (P : Program) (w : World) (K : PySem.W.Frag) (mg : Str → Option Value) (base : Heap) (k : Nat) (x : Str) (ps : List Str) (sp : Sp) : Prop where
  has : ∃ (f : Addr) (fd : FuncData), FnOk P w K mg base (L2N.CX P w) k f fd ps sp ∧ mg x = some (.ref f) ∧ PySem.W.keepIn K (.ref f) = true ∧ Binds K fd ps []
end
section
variable {X : Cx} {k : Nat} {C : Addr} {ps : List Str} {sp : Sp} {m : Str} {o e : Expr} {es : List Expr} {ta : TE} {t : TA} {apos pos : Pos} {E : L2.St → XK}
theorem pe_cmN {pl : Sem Bool} (M : CmN X.prog X.w X.K X.mg X.base C k m ps sp) (c : Cls X.K C) (hr : Room k X.A) (hxz : ∀ σ, PassesAt (L2N.CX X.prog X.w) X σ (E σ)) (hez : PE X o ta) (ha : PA X (e :: es) t)
    (hstz : starEach (e :: es) X.env = (false, eval e X.env) :: starEach es X.env := by rfl) (hplz : (backTo pos (starEach es X.env)).any (·.1) = false := by rfl)
    (htz : eval (.Call (.Attribute o m apos) (e :: es) [] pos) X.env = (do
      let ov ← eval o X.env
      standAt apos.atName
      let (f, first) ← holding [ov] (getMethod ov m pl)
      callWith pos f first (backTo pos (starEach (e :: es) X.env)) (backToKw pos (keywordEach [] X.env))) := by rfl) :
    PE X (.Call (.Attribute o m apos) (e :: es) [] pos) (tMethX C m sp E ta t) := by
  obtain ⟨f, fd, F, hm, b⟩ := M.has
  refine ⟨fun pins sz σ Hz Qz Iz h => ?_⟩
  refine PySem.W.methodCall_KW (pl := pl) (thn (hez.run pins sz σ Hz _ Iz h) fun uz s1z ⟨x, H1z, I1z, rx, a, dx, fs, ex, ea, l, q⟩ => ?_) htz
  subst ex
  obtain rfl : uz = Value.ref a := rx
  refine getmeth_ok I1z ea c hm l ?_
  refine PySem.W.callWith_K (first := [.ref a]) (h₀ := X.base) Iz.ok.mod.kin hm.kp (thn (ha.run pos pins s1z σ H1z _ I1z q) fun usz s2z ⟨vs, H2z, I2z, r, q2⟩ => ⟨I2z.kIn, ?_⟩) hstz hplz
  exact run_fnS (us := .ref a :: usz) (vs := .ref a :: vs) F hr b (hxz σ) I2z (.cons rfl r) q2
/-- the suite bears the handled exception -/
theorem hot_suite {X : Cx} {a : Addr} {oe : Obj} {cls : Value} {d : Option Addr} {pn : List (Addr × Obj)} (hz : L2N.Zn cls d oe) (hf : ∃ vs, oe.data = .fields vs) : HotC (X.suite a ((a, oe) :: pn)) := by
  obtain ⟨vs, hd⟩ := hf
  exact ⟨(a, oe), ⟨rfl, vs, hd, hz.2.2 vs hd⟩, List.mem_cons_self⟩
end
end Ol

set_option Elab.async false
set_option linter.all false
set_option maxRecDepth 100000
set_option maxHeartbeats 4000000
/-! Own rules: a caught error handed on to a def. -/
namespace Ol
open PySem PySem.Spec PyProof.Rows L2 HotX L2H
/-- a def's promise that knows of the handled error's object -/
structure FnE (P : Program) (w : World) (K : PySem.W.Frag) (mg : Str → Option Value) (base : Heap) (k : Nat) (f : Addr) (fd : FuncData) (ps : List Str) (sp : Addr × Obj → Sp) : Prop where
  len : ∀ p vs H Q E, sp p vs H Q E → vs.length = ps.length
  go : ∀ (A : Around) (outer : List Env) (s : Shared) (H : Hp) (args : Args) (us : List Value) (vs : List V) (Q : VK) (E : XK) (p : Addr × Obj),
    RoomH k A → Hot1 A p → PinOk outer H s p → Env0 P w K mg base A outer s H → BindsTo s fd args (ps.zip us) → Vals vs us → sp p vs H Q E →
    codeAny (model P w) A (.call (.ref f) args) (CR CX0 outer P w H s Q E) s
section
variable {P : Program} {w : World} {K : PySem.W.Frag} {mg : Str → Option Value} {base : Heap} {k : Nat}
/-- the rule for such a def -/
theorem okE {x qual : Str} {st : Stmt} {f : Addr} {fd : FuncData} {N ps : List Str} {sp : Addr × Obj → Sp} (F : Fun K x qual st f fd) (S : FnScope N ps (defScope st))
    (len : ∀ p vs H Q E, sp p vs H Q E → vs.length = ps.length)
    (body : ∀ (cdv : Value) (A : Around) (outer : List Env) (s : Shared) (H : Hp) (vs : List V) (Q : VK) (E : XK) (p : Addr × Obj),
      Hot1 A p → RoomH k (A.deeper (envOfC qual (defScope st) s.heap.objs.size f cdv)) → sp p vs H Q E →
      ∃ t, PSs (cxH CX0 P w K mg base N qual (defScope st) f cdv A outer s H E p) (defBody st) t ∧ t { nx := fun _ H' => Q .non H', rt := Q } (start N vs) H) :
    FnE P w K mg base (k + 1) f fd ps sp := by
  obtain ⟨oc, od, kV, doc, pm, an, cdv, ct, osl, rfl, lk, hcd⟩ := F.ex
  refine ⟨len, ?_⟩
  intro A outer s H args us vs Q E p room hot hpin e0 hb rv hsp
  have kin : K.In s.heap := e0.mod.kin.keeps (fun b o e => (e0.bs b o e).1)
  have nol : s.heap.NoLimit := e0.mod.nolimit.keeps (fun b o e => (e0.bs b o e).1)
  refine codeAny_call_function room.depth (kin _ _ lk) rfl S.co S.gen rfl (PySem.W.codeRec_of kin hcd) (hb _ _ _ _ ?_)
  refine wpAny_newFunctionEnv_cells S.kind (fun y hy => ?_) ?_
  · have m := (List.of_mem_zip (a := y.1) (b := y.2) hy).1
    cases S.par y.1 m with
    | inl q => exact Or.inl q
    | inr q => exact Or.inr ⟨q, PySem.W.cellsFrom_some _ _ _ (Or.inl q)⟩
  intro env he s1 x
  subst he
  refine ⟨nol.keeps x.toInCall.keep, codeAny_func ?_⟩
  obtain ⟨t, ht, hq⟩ := body cdv A outer s H vs Q E p hot (room.deeper _) hsp
  have I := inv_startH (CX := CX0) (E := E) S hpin e0 (len _ _ _ _ _ hsp) rv x
  refine wpAny_mono (ht.run [] s1 (start N vs) H _ I hq) ?_ (fun _ _ z => z)
  intro fl s' hs
  cases fl with
  | next =>
    obtain ⟨_, _, J, q⟩ := hs
    exact ⟨V.non, _, J.os, J.bare, J.base, J.hok, rfl, q⟩
  | ret u =>
    obtain ⟨_, _, _, J, r, q⟩ := hs
    exact ⟨_, _, J.os, J.bare, J.base, J.hok, r, q⟩
  | brk => exact hs.choose_spec.choose_spec.2.elim
  | cont => exact hs.choose_spec.choose_spec.2.elim
end
section
variable {X : Cx} {k : Nat} {f : Addr} {fd : FuncData} {ps : List Str} {sp : Addr × Obj → Sp} {x : Str} {e : Expr} {es : List Expr} {t : TA} {q pos : Pos} {p : Addr × Obj}
/-- f(..) of such a def, where the error is handled; sq: what is asked of the arguments -/
def tE (sq : List V → Hp → VK → Prop) (t : TA) : TE := fun σ H Q => t σ H fun vs H1 => sq vs H1 Q
theorem pe_callE {sq : List V → Hp → VK → Prop} (himp : ∀ vs H Q, sq vs H Q → sp p vs H Q E0) (F : FnE X.prog X.w X.K X.mg X.base k f fd ps sp) (hr : RoomH k X.A) (hot : Hot1 X.A p) (hp : p ∈ X.pn) (hg : Gl X x) (hm : X.mg x = some (.ref f)) (hk : PySem.W.keepIn X.K (.ref f) = true) (hb : Binds X.K fd ps [])
    (ha : PA X (e :: es) t) (hdb : (x == ("__debug__" : Str)) = false := by decide) (he : starEach (e :: es) X.env = (false, eval e X.env) :: starEach es X.env := by rfl) (hpl : (backTo pos (starEach es X.env)).any (·.1) = false := by rfl) :
    PE X (.Call (.Name x q) (e :: es) [] pos) (tE sq t) := by
  constructor
  intro pins s σ H Q I h
  apply wpAny_Call_Name_kw
  apply ld_glob I hg hm (hd := hdb)
  refine PySem.W.callWith_K (h₀ := X.base) I.ok.mod.kin hk ?_ he hpl
  refine thn (ha.run pos pins s σ H _ I h) ?_
  rintro us s1 ⟨vs, H1, I1, r, hq'⟩
  have hq := himp _ _ _ hq'
  have hl : (us ++ []).length = ps.length := by
    rw [List.append_nil, ← r.length]
    exact F.len _ _ _ _ _ hq
  have bd := hb s1 us I1.kIn hl
  rw [List.append_nil] at bd
  obtain ⟨p1, p2, p3, p4, p5⟩ := I1.pin p (List.mem_append_left _ hp)
  refine ⟨I1.kIn, wpAny_call (codeAny_mono (F.go X.A X.stack s1 H1 ⟨us, []⟩ us vs Q E0 p hr hot ⟨p1, p2, fun hm => (List.mem_cons.mp (I1.stkSub p.1 hm)).elim p3 p4, p5⟩ I1.env0 bd r hq) ?_)⟩
  intro res s2 hres
  cases res with
  | error z => exact False.elim hres
  | ok fl =>
    cases fl with
    | ret u => exact I1.after hres
    | next => exact False.elim hres
    | brk => exact False.elim hres
    | cont => exact False.elim hres
end
/-- the dict of an error stands, if there is one -/
def XdAt (H : Hp) : Option Addr → Prop
  | none => True
  | some dd => ∃ fs : List (Str × V), H dd = some (.xd fs)
theorem XdAt.up {H H' : Hp} {d : Option Addr} (e : Ext H H') (h : XdAt H d) : XdAt H' d := by
  cases d with
  | none => trivial
  | some dd =>
    obtain ⟨fs, z⟩ := h
    exact ⟨fs, e _ _ z⟩
section
variable {X : Cx} {p : Addr × Obj} {cls : Value} {d : Option Addr}
/-- isinstance(e, c): e the error that is handled, c a class of the program or a built-in one -/
def rIsP (K : PySem.W.Frag) (a : Addr) (cls : Value) (d : Option Addr) : List V → Hp → VK → Prop := fun xs H Q => ∃ (D : Addr) (c : V) (cv : Value) (b : Bool), xs = [.ref a, c] ∧ (∀ u, RelV c u → u = cv) ∧ cls = .ref D ∧ ExcC K D ∧ XdAt H d ∧
  PySem.W.kitOne K (.ref D) cv = some b ∧ Q (.bl b) H
theorem call_isP (hp : p ∈ X.pn) (hz : Zc cls d p.2) (hf : ∃ vs, p.2.data = .fields vs) : CallR X (.builtin "isinstance") (rIsP X.K p.1 cls d) := by
  intro pins s σ H xs us Q I r h
  obtain ⟨D, c, cv, b, rfl, hcv, rfl, T, hxd, e, q⟩ := h
  cases r with
  | cons rx rr =>
    cases rr with
    | cons rt rr =>
      cases rr
      cases rx
      obtain rfl := hcv _ rt
      obtain ⟨hget, _⟩ := I.pin p (List.mem_append_left _ hp)
      obtain ⟨vs, hd⟩ := hf
      have J : ∃ od, PySem.W.InstAt s.heap p.1 p.2 D od := by
        cases d with
        | none => exact ⟨none, hget, hz.1, by unfold PySem.W.notCls; rw [hd] <;> rfl, by rw [hz.2]; trivial⟩
        | some dd =>
          obtain ⟨fs, hdd⟩ := hxd
          have hx : ObjOk X.prog X.w H s.heap dd (.xd fs) := I.hok dd _ hdd
          obtain ⟨mA, hns, hr⟩ := hx
          obtain ⟨od, ho, hl⟩ := lookIn_ns hns
          exact ⟨some od, hget, hz.1, by unfold PySem.W.notCls; rw [hd] <;> rfl, by rw [hz.2]; exact ho⟩
      obtain ⟨od, J⟩ := J
      obtain ⟨cd, hcd, _⟩ := PySem.W.any_some T.hd
      exact PySem.W.kia_one (PySem.W.kitx_exc (by rw [hcd]; rfl) T.hg T.hk T.hs T.ha T.hn T.ht T.hm) I.kIn J e (fun z => nomatch z) fun tk => ⟨.bl b, H, I.kept (t' := tk) fun _ _ z => z, rfl, q⟩
/-- e.f -/
def tXp (a : Addr) (cls : Value) (d : Option Addr) (C : Addr) (f : Str) (te : TE) : TE := fun σ H Q => te σ H fun x H1 => x = .ref a ∧ cls = .ref C ∧ ∃ (dd : Addr) (fs : List (Str × V)) (v : V), d = some dd ∧ H1 dd = some (.xd fs) ∧ fs.lookup f = some v ∧ Q v H1
theorem pe_xp {C : Addr} {e : Expr} {te : TE} {pos : Pos} {n : Str} (hp : p ∈ X.pn) (T : XfC X.K C) (hno : PySem.W.findIn X.K (.ref C) n = some none) (hz : Zc cls d p.2) (hf : ∃ vs, p.2.data = .fields vs) (he : PE X e te)
    (hb : attributeBase e n X.env (eval e X.env) = eval e X.env := by rfl) : PE X (.Attribute e n pos) (tXp p.1 cls d C n te) := by
  constructor
  intro pins s σ H Q I h
  refine attr_of hb (thn (he.run pins s σ H _ I h) ?_)
  rintro u s1 ⟨x, H1, I1, rx, rfl, rfl, dd, fs, v, rfl, ea, l, q⟩
  obtain rfl : u = Value.ref p.1 := rx
  have pin := (I1.pin p (List.mem_append_left _ hp)).1
  obtain ⟨vs, hd⟩ := hf
  obtain ⟨mA, hns, hr⟩ : ObjOk X.prog X.w H1 s1.heap dd (.xd fs) := I1.hok dd _ ea
  obtain ⟨od, ho, hl⟩ := lookIn_ns hns
  obtain ⟨u, hu, ru⟩ := RelO.some_of (v := v) (o := mA n) (by rw [← l]; exact hr n)
  refine HandSPX.exc_get I1.kIn (⟨pin, hz.1, ?_, ?_⟩ : PySem.W.InstAt s1.heap p.1 p.2 C (some od)) T.ga T.gg T.exC (PySem.W.findObj_own T.hdC hno rfl (by rw [hl, hu])) (handed_of ru) ⟨v, H1, I1.tok _, ru, q⟩
  · unfold PySem.W.notCls
    rw [hd] <;> rfl
  · rw [hz.2]
    exact ho
end
end Ol

set_option Elab.async false
set_option linter.all false
set_option maxRecDepth 100000
set_option maxHeartbeats 4000000
namespace Ol
open PySem PySem.Spec PyProof.Rows L2
/-- a list != [] -/
def rNeE (K : PySem.W.Frag) : R2 := fun x y H Q => ∃ a b xs, x = .ref a ∧ y = .ref b ∧ SqL K H a xs ∧ SqL K H b [] ∧ Q (.bl (!xs.isEmpty)) H
theorem op_neE {X : Cx} {k : Nat} (hr : Room k X.A) : OpR X (compareOp .NotEq) (rNeE X.K) := by
  intro pins s σ H x y v u Q I rx ry h
  obtain ⟨a, b, xs, rfl, rfl, h1, h2, q⟩ := h
  cases rx
  cases ry
  obtain ⟨its, r, pl, hz⟩ := I.list h1
  obtain ⟨its2, r2, pl2, hz2⟩ := I.list h2
  cases r2
  have hu := hr.units
  cases xs with
  | nil =>
    cases r
    exact SeqAt.RcNeAt.lists (e := fun _ => true) pl.isList pl2.isList rfl (by omega) (fun j h => absurd h (Nat.not_lt_zero j)) X.prog X.w _ _ ⟨.bl _, H, I, rfl, q⟩
  | cons x xs =>
    cases r
    exact SeqAt.RcNeAt.lists_lengths pl.isList pl2.isList rfl (by omega) X.prog X.w _ _ ⟨.bl _, H, I, rfl, q⟩
/-- a subscript of a list or of a tuple -/
def rIxA (K : PySem.W.Frag) : R2 := fun x y H Q => rIxL K x y H Q ∨ rIxT K x y H Q
theorem ix_any {X : Cx} : IxR X (rIxA X.K) := ix_list.or ix_tup
/-- a list or a tuple of these stands at a -/
def LT (H : Hp) (a : Addr) (xs : List V) : Prop := H a = some (.lst xs) ∨ H a = some (.tup xs)
theorem LT.up {H H' : Hp} {a : Addr} {xs : List V} (h : LT H a xs) (e : Ext H H') : LT H' a xs := h.imp (fun z => e _ _ z) (fun z => e _ _ z)
theorem LT.sq {K : PySem.W.Frag} {H : Hp} {a : Addr} {xs : List V} (h : LT H a xs) : SqL K H a xs ∨ SqT K H a xs := h.imp SqL.of SqT.of
theorem ixA {K : PySem.W.Frag} {H : Hp} {a : Addr} {xs : List V} {i : Int} {v : V} {Q : VK} (h : LT H a xs) (hi : atI xs i = some v) (q : Q v H) : rIxA K (.ref a) (.int i) H Q := by
  rcases h with h | h
  · exact .inl ⟨a, xs, i, v, rfl, rfl, SqL.of h, hi, q⟩
  · exact .inr ⟨a, xs, i, v, rfl, rfl, SqT.of h, hi, q⟩
/-- for over a list or a tuple -/
def iAny (K : PySem.W.Frag) (te : TE) : TI := fun σ H R => iList K te σ H R ∨ iTup K te σ H R
theorem pi_anyA {X : Cx} {tg l : Expr} {te : TE} (pe : PE X l te) : PI X tg l (iAny X.K te) := by
  constructor
  rintro pins s σ H R I (h | h)
  · exact (pi_list pe).run pins s σ H R I h
  · exact (pi_tup pe).run pins s σ H R I h
end Ol

set_option Elab.async false
set_option linter.all false
set_option maxRecDepth 100000
set_option maxHeartbeats 4000000
/-! Own rules: lists of the very same things, errors without fields. -/
namespace Ol
open PySem PySem.Spec PyProof.Rows L2
/-- != of lists of the very same things -/
def rNeId (K : PySem.W.Frag) : R2 := fun x y H Q => ∃ (a b : Addr) (rs : List Addr), x = .ref a ∧ y = .ref b ∧ SqL K H a (rs.map V.ref) ∧ SqL K H b (rs.map V.ref) ∧ Q (.bl false) H
theorem refs_eq : ∀ {rs : List Addr} {us : List Value}, Vals (rs.map V.ref) us → us = rs.map Value.ref
  | [], _, h => by
    cases h
    rfl
  | r :: rs, _, h => by
    cases h with
    | cons a t =>
      cases a
      rw [refs_eq t]
      rfl
theorem op_neId {X : Cx} {k : Nat} (hr : Room k X.A) : OpR X (compareOp .NotEq) (rNeId X.K) := by
  intro pins s σ H x y v u Q I rx ry h
  obtain ⟨a, b, rs, rfl, rfl, h1, h2, q⟩ := h
  cases rx
  cases ry
  obtain ⟨its, r, pl, hz⟩ := I.list h1
  obtain ⟨its2, r2, pl2, hz2⟩ := I.list h2
  have hu := hr.units
  have e1 := refs_eq r
  have e2 := refs_eq r2
  subst e1 e2
  have z := SeqAt.RcNeAt.lists (A := X.A) (e := fun _ => true) pl.isList pl2.isList rfl (by omega) (fun j h1 h2 => SeqAt.EqAt.same _)
  have t : ((List.range (rs.map Value.ref).toArray.size).all fun _ => true) = true := by simp
  rw [t] at z
  exact z X.prog X.w _ _ ⟨.bl _, H, I, rfl, q⟩
/-- __init__ of an error without fields -/
def spPass : Sp := fun vs H Q _ => ∃ a : Addr, vs = [.ref a] ∧ Q .non H
section
variable {X : Cx} {x : Str} {C fI : Addr} {k : Nat} {fd : FuncData} {p pos : Pos}
/-- C(), as a value -/
theorem pe_oex0 (T : OexC X.K C) (iC : PySem.W.findIn X.K (.ref C) "__init__" = some (some (.ref fI))) (tI : PySem.W.typeIn X.K (.ref fI) = some (.type "function"))
    (F1 : FnOk X.prog X.w X.K X.mg X.base CX0 k fI fd ["self"] spPass) (hr : Room (k + 1) X.A) (hb : Binds X.K fd ["self"] []) (hg : Gl X x) (hm : X.mg x = some (.ref C)) (hdb : (x == ("__debug__" : Str)) = false := by decide) :
    PE X (.Call (.Name x p) [] [] pos) (fun σ H Q => ∀ a, H a = none → Q (.ref a) (upd H a (ExO (.ref C) a))) := by
  constructor
  intro pins s σ H Q I h
  obtain ⟨nm, q, N, bs, bm, sn, sub, ab, col, dd, k0, k1, k2, k3, k5, hC, hbm⟩ := T.cls
  refine wpAny_Call_Name_kw (ld_glob I hg hm ?_ hdb)
  refine PySem.W.callWith_K0 I.kIn T.kC ?_
  show wpAny _ _ (call (.ref C) []) _ _ _
  obtain ⟨hp, g, dr, tk, os⟩ := s
  have up : hp.objs.size ≤ hp.objs.size + 1 := Nat.le_succ _
  have hq := h (hp.objs.size + 1) (I.hok.fresh up)
  have at1 : ((hp.push (PySem.W.kdv_tup [])).push (PySem.HandSPX.excO C hp.objs.size)).get? (hp.objs.size + 1) = some (PySem.HandSPX.excO C hp.objs.size) := by heap_get
  have J : Inv X pins σ (upd H (hp.objs.size + 1) (ExO (.ref C) (hp.objs.size + 1))) ⟨(hp.push (PySem.W.kdv_tup [])).push (PySem.HandSPX.excO C hp.objs.size), g, dr, tk, os⟩ :=
    I.laid (t' := tk) (fun b o e => Heap.get?_push_of_some _ (Heap.get?_push_of_some _ e)) up (exO_ok at1 ⟨rfl, rfl⟩ rfl rfl rfl (by show 4 < 6; decide))
  have bnd := hb _ [Value.ref (hp.objs.size + 1)] J.kIn rfl
  refine wpAny_call (PySem.HandSPX.call_own F.excBase_ValueError (fun Y => PySem.HandSPX.refsVE_contains Y bm hbm) (I.kIn _ _ hC) (PySem.W.looks_findIn I.kIn iC) (fun self => PySem.W.bind_fn I.kIn self tI) (Nat.zero_le _)
    (codeAny_mono (F1.run _ X.stack _ _ ⟨[Value.ref (hp.objs.size + 1)], []⟩ [Value.ref (hp.objs.size + 1)] [V.ref (hp.objs.size + 1)] (fun v H2 => v = .non ∧ Q (.ref (hp.objs.size + 1)) H2) E0 (hr.make C [] []) (J.env0.make C [] []) bnd (.cons rfl .nil) ⟨_, rfl, rfl, hq⟩) fun r s' hc => ?_))
  cases r with
  | error er => exact hc.elim
  | ok fl =>
    cases fl with
    | ret u =>
      obtain ⟨v, H2, J2, rv, rfl, q2⟩ := J.after hc
      exact ⟨rv, .ref _, H2, J2, rfl, q2⟩
    | next => exact hc.elim
    | brk => exact hc.elim
    | cont => exact hc.elim
end
end Ol

set_option Elab.async false
set_option linter.all false
set_option maxRecDepth 100000
set_option maxHeartbeats 4000000
namespace K16
open PySem PySem.Spec PyProof.Rows L2 Ol
/-! ### the classes of errors -/
/-- their fields -/
def fldOf : Nat → Str
  | 1 => "lane" | 4 => "index" | 6 => "what" | 7 => "kind" | 9 => "index" | 10 => "most" | 11 => "many" | _ => "place"
def fieldsOf (k : Nat) (v u : V) : List (Str × V) := if k = 2 then [("lane", u), ("word", v)] else [(fldOf k, v)]
def valsOf (k : Nat) (v u : V) : List V := if k = 2 then [v, u] else if k < 12 then [v] else []
def spX1 (fld : Str) (R : Addr) : Sp := fun vs H Q _ => ∃ (a : Addr) (x : V), vs = [.ref a, x] ∧ H a = some (exo a R none) ∧
  ∀ (dx : Addr) (H' : Hp), H dx = none → dx ≠ a → (∀ b, b ≠ a → b ≠ dx → H' b = H b) → H' a = some (exo a R (some dx)) → H' dx = some (exd dx [(fld, x)]) → Q .non H'
def spX2 (R : Addr) : Sp := fun vs H Q _ => ∃ (a : Addr) (x y : V), vs = [.ref a, x, y] ∧ H a = some (exo a R none) ∧
  ∀ (dx : Addr) (H' : Hp), H dx = none → dx ≠ a → (∀ b, b ≠ a → b ≠ dx → H' b = H b) → H' a = some (exo a R (some dx)) → H' dx = some (exd dx [("lane", y), ("word", x)]) → Q .non H'
section
variable {P : Program} {w : World} {K : PySem.W.Frag} {mg : Str → Option Value} {base : Heap} {R : Addr}
/-- what the text says of a class -/
structure XC (K : PySem.W.Frag) (mg : Str → Option Value) (nm : Str) (R : Addr) : Prop where
  g : mg nm = some (.ref R)
  ox : OexC K R
  ec : ExcC K R
  xf : XfC K R
structure XI (P : Program) (w : World) (K : PySem.W.Frag) (mg : Str → Option Value) (base : Heap) (R : Addr) (ps : List Str) (sp : Sp) : Prop where
  has : ∃ (f : Addr) (fd : FuncData), FnOk P w K mg base CX0 1 f fd ps sp ∧ PySem.W.findIn K (.ref R) "__init__" = some (some (.ref f)) ∧ PySem.W.typeIn K (.ref f) = some (.type "function") ∧ Binds K fd ps []
abbrev s_x0 : Stmt := inClass (topS 3) 0
theorem sc_x0 : FnScope ["self", "place"] ["self", "place"] (defScope s_x0) := ⟨rfl, rfl, rfl, by decide +kernel, rfl, by decide +kernel, by decide +kernel⟩
theorem ok_x0 {f : Addr} {fd : FuncData} (F : Fun K "__init__" "Wrong.__init__" s_x0 f fd) (T : OexC K R) (n1 : PySem.W.findIn K (.ref R) "place" = some none) :
    FnOk P w K mg base CX0 1 f fd ["self", "place"] (spX1 "place" R) := by
  refine F.ok sc_x0 (fun vs H Q E h => ?_) (fun cdv A outer s H vs Q E hr h => ?_)
  · obtain ⟨a, x, rfl, _⟩ := h
    rfl
  · obtain ⟨a, x, rfl, ha, q⟩ := h
    refine ⟨_, (pss_one (ps_ost (pv 0) (pv 1))), ?_⟩
    refine ⟨_, rfl, _, rfl, a, R, rfl, T, n1, .inl ⟨ha, fun dx hdx nda => ?_⟩⟩
    refine q dx _ hdx nda (fun b h1 h2 => ?_) upd_same ?_
    · rw [upd_ne h1, upd_ne h2]
    · rw [upd_ne nda]
      exact upd_same
abbrev s_x1 : Stmt := inClass (topS 4) 0
theorem sc_x1 : FnScope ["self", "lane"] ["self", "lane"] (defScope s_x1) := ⟨rfl, rfl, rfl, by decide +kernel, rfl, by decide +kernel, by decide +kernel⟩
theorem ok_x1 {f : Addr} {fd : FuncData} (F : Fun K "__init__" "NoLane.__init__" s_x1 f fd) (T : OexC K R) (n1 : PySem.W.findIn K (.ref R) "lane" = some none) :
    FnOk P w K mg base CX0 1 f fd ["self", "lane"] (spX1 "lane" R) := by
  refine F.ok sc_x1 (fun vs H Q E h => ?_) (fun cdv A outer s H vs Q E hr h => ?_)
  · obtain ⟨a, x, rfl, _⟩ := h
    rfl
  · obtain ⟨a, x, rfl, ha, q⟩ := h
    refine ⟨_, (pss_one (ps_ost (pv 0) (pv 1))), ?_⟩
    refine ⟨_, rfl, _, rfl, a, R, rfl, T, n1, .inl ⟨ha, fun dx hdx nda => ?_⟩⟩
    refine q dx _ hdx nda (fun b h1 h2 => ?_) upd_same ?_
    · rw [upd_ne h1, upd_ne h2]
    · rw [upd_ne nda]
      exact upd_same
abbrev s_x2 : Stmt := inClass (topS 5) 0
theorem sc_x2 : FnScope ["self", "word", "lane"] ["self", "word", "lane"] (defScope s_x2) := ⟨rfl, rfl, rfl, by decide +kernel, rfl, by decide +kernel, by decide +kernel⟩
theorem ok_x2 {f : Addr} {fd : FuncData} (F : Fun K "__init__" "Shut.__init__" s_x2 f fd) (T : OexC K R) (n1 : PySem.W.findIn K (.ref R) "word" = some none) (n2 : PySem.W.findIn K (.ref R) "lane" = some none) :
    FnOk P w K mg base CX0 1 f fd ["self", "word", "lane"] (spX2 R) := by
  refine F.ok sc_x2 (fun vs H Q E h => ?_) (fun cdv A outer s H vs Q E hr h => ?_)
  · obtain ⟨a, x, y, rfl, _⟩ := h
    rfl
  · obtain ⟨a, x, y, rfl, ha, q⟩ := h
    refine ⟨_, (pss_cons (ps_ost (pv 0) (pv 1)) (pss_one (ps_ost (pv 0) (pv 2)))), ?_⟩
    refine ⟨_, rfl, _, rfl, a, R, rfl, T, n1, .inl ⟨ha, fun dx hdx nda => ?_⟩⟩
    refine ⟨_, rfl, _, rfl, a, R, rfl, T, n2, .inr ⟨dx, [("word", x)], upd_same, ?_, by simp, ?_⟩⟩
    · rw [upd_ne nda]
      exact upd_same
    · refine q dx _ hdx nda (fun b h1 h2 => ?_) ?_ upd_same
      · rw [upd_ne h2, upd_ne h1, upd_ne h2]
      · rw [upd_ne (Ne.symm nda)]
        exact upd_same
abbrev s_x3 : Stmt := inClass (topS 6) 0
theorem sc_x3 : FnScope ["self", "place"] ["self", "place"] (defScope s_x3) := ⟨rfl, rfl, rfl, by decide +kernel, rfl, by decide +kernel, by decide +kernel⟩
theorem ok_x3 {f : Addr} {fd : FuncData} (F : Fun K "__init__" "NoPlace.__init__" s_x3 f fd) (T : OexC K R) (n1 : PySem.W.findIn K (.ref R) "place" = some none) :
    FnOk P w K mg base CX0 1 f fd ["self", "place"] (spX1 "place" R) := by
  refine F.ok sc_x3 (fun vs H Q E h => ?_) (fun cdv A outer s H vs Q E hr h => ?_)
  · obtain ⟨a, x, rfl, _⟩ := h
    rfl
  · obtain ⟨a, x, rfl, ha, q⟩ := h
    refine ⟨_, (pss_one (ps_ost (pv 0) (pv 1))), ?_⟩
    refine ⟨_, rfl, _, rfl, a, R, rfl, T, n1, .inl ⟨ha, fun dx hdx nda => ?_⟩⟩
    refine q dx _ hdx nda (fun b h1 h2 => ?_) upd_same ?_
    · rw [upd_ne h1, upd_ne h2]
    · rw [upd_ne nda]
      exact upd_same
abbrev s_x4 : Stmt := inClass (topS 7) 0
theorem sc_x4 : FnScope ["self", "index"] ["self", "index"] (defScope s_x4) := ⟨rfl, rfl, rfl, by decide +kernel, rfl, by decide +kernel, by decide +kernel⟩
theorem ok_x4 {f : Addr} {fd : FuncData} (F : Fun K "__init__" "NoArm.__init__" s_x4 f fd) (T : OexC K R) (n1 : PySem.W.findIn K (.ref R) "index" = some none) :
    FnOk P w K mg base CX0 1 f fd ["self", "index"] (spX1 "index" R) := by
  refine F.ok sc_x4 (fun vs H Q E h => ?_) (fun cdv A outer s H vs Q E hr h => ?_)
  · obtain ⟨a, x, rfl, _⟩ := h
    rfl
  · obtain ⟨a, x, rfl, ha, q⟩ := h
    refine ⟨_, (pss_one (ps_ost (pv 0) (pv 1))), ?_⟩
    refine ⟨_, rfl, _, rfl, a, R, rfl, T, n1, .inl ⟨ha, fun dx hdx nda => ?_⟩⟩
    refine q dx _ hdx nda (fun b h1 h2 => ?_) upd_same ?_
    · rw [upd_ne h1, upd_ne h2]
    · rw [upd_ne nda]
      exact upd_same
abbrev s_x5 : Stmt := inClass (topS 8) 0
theorem sc_x5 : FnScope ["self", "place"] ["self", "place"] (defScope s_x5) := ⟨rfl, rfl, rfl, by decide +kernel, rfl, by decide +kernel, by decide +kernel⟩
theorem ok_x5 {f : Addr} {fd : FuncData} (F : Fun K "__init__" "TwoElse.__init__" s_x5 f fd) (T : OexC K R) (n1 : PySem.W.findIn K (.ref R) "place" = some none) :
    FnOk P w K mg base CX0 1 f fd ["self", "place"] (spX1 "place" R) := by
  refine F.ok sc_x5 (fun vs H Q E h => ?_) (fun cdv A outer s H vs Q E hr h => ?_)
  · obtain ⟨a, x, rfl, _⟩ := h
    rfl
  · obtain ⟨a, x, rfl, ha, q⟩ := h
    refine ⟨_, (pss_one (ps_ost (pv 0) (pv 1))), ?_⟩
    refine ⟨_, rfl, _, rfl, a, R, rfl, T, n1, .inl ⟨ha, fun dx hdx nda => ?_⟩⟩
    refine q dx _ hdx nda (fun b h1 h2 => ?_) upd_same ?_
    · rw [upd_ne h1, upd_ne h2]
    · rw [upd_ne nda]
      exact upd_same
abbrev s_x6 : Stmt := inClass (topS 9) 0
theorem sc_x6 : FnScope ["self", "what"] ["self", "what"] (defScope s_x6) := ⟨rfl, rfl, rfl, by decide +kernel, rfl, by decide +kernel, by decide +kernel⟩
theorem ok_x6 {f : Addr} {fd : FuncData} (F : Fun K "__init__" "Refused.__init__" s_x6 f fd) (T : OexC K R) (n1 : PySem.W.findIn K (.ref R) "what" = some none) :
    FnOk P w K mg base CX0 1 f fd ["self", "what"] (spX1 "what" R) := by
  refine F.ok sc_x6 (fun vs H Q E h => ?_) (fun cdv A outer s H vs Q E hr h => ?_)
  · obtain ⟨a, x, rfl, _⟩ := h
    rfl
  · obtain ⟨a, x, rfl, ha, q⟩ := h
    refine ⟨_, (pss_one (ps_ost (pv 0) (pv 1))), ?_⟩
    refine ⟨_, rfl, _, rfl, a, R, rfl, T, n1, .inl ⟨ha, fun dx hdx nda => ?_⟩⟩
    refine q dx _ hdx nda (fun b h1 h2 => ?_) upd_same ?_
    · rw [upd_ne h1, upd_ne h2]
    · rw [upd_ne nda]
      exact upd_same
abbrev s_x7 : Stmt := inClass (topS 10) 0
theorem sc_x7 : FnScope ["self", "kind"] ["self", "kind"] (defScope s_x7) := ⟨rfl, rfl, rfl, by decide +kernel, rfl, by decide +kernel, by decide +kernel⟩
theorem ok_x7 {f : Addr} {fd : FuncData} (F : Fun K "__init__" "NoKind.__init__" s_x7 f fd) (T : OexC K R) (n1 : PySem.W.findIn K (.ref R) "kind" = some none) :
    FnOk P w K mg base CX0 1 f fd ["self", "kind"] (spX1 "kind" R) := by
  refine F.ok sc_x7 (fun vs H Q E h => ?_) (fun cdv A outer s H vs Q E hr h => ?_)
  · obtain ⟨a, x, rfl, _⟩ := h
    rfl
  · obtain ⟨a, x, rfl, ha, q⟩ := h
    refine ⟨_, (pss_one (ps_ost (pv 0) (pv 1))), ?_⟩
    refine ⟨_, rfl, _, rfl, a, R, rfl, T, n1, .inl ⟨ha, fun dx hdx nda => ?_⟩⟩
    refine q dx _ hdx nda (fun b h1 h2 => ?_) upd_same ?_
    · rw [upd_ne h1, upd_ne h2]
    · rw [upd_ne nda]
      exact upd_same
abbrev s_x8 : Stmt := inClass (topS 11) 0
theorem sc_x8 : FnScope ["self", "place"] ["self", "place"] (defScope s_x8) := ⟨rfl, rfl, rfl, by decide +kernel, rfl, by decide +kernel, by decide +kernel⟩
theorem ok_x8 {f : Addr} {fd : FuncData} (F : Fun K "__init__" "NoSeat.__init__" s_x8 f fd) (T : OexC K R) (n1 : PySem.W.findIn K (.ref R) "place" = some none) :
    FnOk P w K mg base CX0 1 f fd ["self", "place"] (spX1 "place" R) := by
  refine F.ok sc_x8 (fun vs H Q E h => ?_) (fun cdv A outer s H vs Q E hr h => ?_)
  · obtain ⟨a, x, rfl, _⟩ := h
    rfl
  · obtain ⟨a, x, rfl, ha, q⟩ := h
    refine ⟨_, (pss_one (ps_ost (pv 0) (pv 1))), ?_⟩
    refine ⟨_, rfl, _, rfl, a, R, rfl, T, n1, .inl ⟨ha, fun dx hdx nda => ?_⟩⟩
    refine q dx _ hdx nda (fun b h1 h2 => ?_) upd_same ?_
    · rw [upd_ne h1, upd_ne h2]
    · rw [upd_ne nda]
      exact upd_same
abbrev s_x9 : Stmt := inClass (topS 12) 0
theorem sc_x9 : FnScope ["self", "index"] ["self", "index"] (defScope s_x9) := ⟨rfl, rfl, rfl, by decide +kernel, rfl, by decide +kernel, by decide +kernel⟩
theorem ok_x9 {f : Addr} {fd : FuncData} (F : Fun K "__init__" "Stopped.__init__" s_x9 f fd) (T : OexC K R) (n1 : PySem.W.findIn K (.ref R) "index" = some none) :
    FnOk P w K mg base CX0 1 f fd ["self", "index"] (spX1 "index" R) := by
  refine F.ok sc_x9 (fun vs H Q E h => ?_) (fun cdv A outer s H vs Q E hr h => ?_)
  · obtain ⟨a, x, rfl, _⟩ := h
    rfl
  · obtain ⟨a, x, rfl, ha, q⟩ := h
    refine ⟨_, (pss_one (ps_ost (pv 0) (pv 1))), ?_⟩
    refine ⟨_, rfl, _, rfl, a, R, rfl, T, n1, .inl ⟨ha, fun dx hdx nda => ?_⟩⟩
    refine q dx _ hdx nda (fun b h1 h2 => ?_) upd_same ?_
    · rw [upd_ne h1, upd_ne h2]
    · rw [upd_ne nda]
      exact upd_same
abbrev s_x10 : Stmt := inClass (topS 13) 0
theorem sc_x10 : FnScope ["self", "most"] ["self", "most"] (defScope s_x10) := ⟨rfl, rfl, rfl, by decide +kernel, rfl, by decide +kernel, by decide +kernel⟩
theorem ok_x10 {f : Addr} {fd : FuncData} (F : Fun K "__init__" "TooMany.__init__" s_x10 f fd) (T : OexC K R) (n1 : PySem.W.findIn K (.ref R) "most" = some none) :
    FnOk P w K mg base CX0 1 f fd ["self", "most"] (spX1 "most" R) := by
  refine F.ok sc_x10 (fun vs H Q E h => ?_) (fun cdv A outer s H vs Q E hr h => ?_)
  · obtain ⟨a, x, rfl, _⟩ := h
    rfl
  · obtain ⟨a, x, rfl, ha, q⟩ := h
    refine ⟨_, (pss_one (ps_ost (pv 0) (pv 1))), ?_⟩
    refine ⟨_, rfl, _, rfl, a, R, rfl, T, n1, .inl ⟨ha, fun dx hdx nda => ?_⟩⟩
    refine q dx _ hdx nda (fun b h1 h2 => ?_) upd_same ?_
    · rw [upd_ne h1, upd_ne h2]
    · rw [upd_ne nda]
      exact upd_same
abbrev s_x11 : Stmt := inClass (topS 16) 0
theorem sc_x11 : FnScope ["self", "many"] ["self", "many"] (defScope s_x11) := ⟨rfl, rfl, rfl, by decide +kernel, rfl, by decide +kernel, by decide +kernel⟩
theorem ok_x11 {f : Addr} {fd : FuncData} (F : Fun K "__init__" "NoEntry.__init__" s_x11 f fd) (T : OexC K R) (n1 : PySem.W.findIn K (.ref R) "many" = some none) :
    FnOk P w K mg base CX0 1 f fd ["self", "many"] (spX1 "many" R) := by
  refine F.ok sc_x11 (fun vs H Q E h => ?_) (fun cdv A outer s H vs Q E hr h => ?_)
  · obtain ⟨a, x, rfl, _⟩ := h
    rfl
  · obtain ⟨a, x, rfl, ha, q⟩ := h
    refine ⟨_, (pss_one (ps_ost (pv 0) (pv 1))), ?_⟩
    refine ⟨_, rfl, _, rfl, a, R, rfl, T, n1, .inl ⟨ha, fun dx hdx nda => ?_⟩⟩
    refine q dx _ hdx nda (fun b h1 h2 => ?_) upd_same ?_
    · rw [upd_ne h1, upd_ne h2]
    · rw [upd_ne nda]
      exact upd_same
abbrev s_x12 : Stmt := inClass (topS 14) 0
theorem sc_x12 : FnScope ["self"] ["self"] (defScope s_x12) := ⟨rfl, rfl, rfl, by decide +kernel, rfl, by decide +kernel, by decide +kernel⟩
theorem ok_x12 {f : Addr} {fd : FuncData} (F : Fun K "__init__" "Full.__init__" s_x12 f fd) : FnOk P w K mg base CX0 1 f fd ["self"] spPass := by
  refine F.ok sc_x12 (fun vs H Q E h => ?_) (fun cdv A outer s H vs Q E hr h => ?_)
  · obtain ⟨a, rfl, _⟩ := h
    rfl
  · obtain ⟨a, rfl, q⟩ := h
    exact ⟨_, pss_one ps_pass, q⟩
abbrev s_x13 : Stmt := inClass (topS 15) 0
theorem sc_x13 : FnScope ["self"] ["self"] (defScope s_x13) := ⟨rfl, rfl, rfl, by decide +kernel, rfl, by decide +kernel, by decide +kernel⟩
theorem ok_x13 {f : Addr} {fd : FuncData} (F : Fun K "__init__" "Nothing.__init__" s_x13 f fd) : FnOk P w K mg base CX0 1 f fd ["self"] spPass := by
  refine F.ok sc_x13 (fun vs H Q E h => ?_) (fun cdv A outer s H vs Q E hr h => ?_)
  · obtain ⟨a, rfl, _⟩ := h
    rfl
  · obtain ⟨a, rfl, q⟩ := h
    exact ⟨_, pss_one ps_pass, q⟩
abbrev s_x14 : Stmt := inClass (topS 17) 0
theorem sc_x14 : FnScope ["self"] ["self"] (defScope s_x14) := ⟨rfl, rfl, rfl, by decide +kernel, rfl, by decide +kernel, by decide +kernel⟩
theorem ok_x14 {f : Addr} {fd : FuncData} (F : Fun K "__init__" "NoText.__init__" s_x14 f fd) : FnOk P w K mg base CX0 1 f fd ["self"] spPass := by
  refine F.ok sc_x14 (fun vs H Q E h => ?_) (fun cdv A outer s H vs Q E hr h => ?_)
  · obtain ⟨a, rfl, _⟩ := h
    rfl
  · obtain ⟨a, rfl, q⟩ := h
    exact ⟨_, pss_one ps_pass, q⟩
abbrev s_x15 : Stmt := inClass (topS 18) 0
theorem sc_x15 : FnScope ["self"] ["self"] (defScope s_x15) := ⟨rfl, rfl, rfl, by decide +kernel, rfl, by decide +kernel, by decide +kernel⟩
theorem ok_x15 {f : Addr} {fd : FuncData} (F : Fun K "__init__" "NoCommand.__init__" s_x15 f fd) : FnOk P w K mg base CX0 1 f fd ["self"] spPass := by
  refine F.ok sc_x15 (fun vs H Q E h => ?_) (fun cdv A outer s H vs Q E hr h => ?_)
  · obtain ⟨a, rfl, _⟩ := h
    rfl
  · obtain ⟨a, rfl, q⟩ := h
    exact ⟨_, pss_one ps_pass, q⟩
end
/-- all sixteen -/
structure Cls16 (P : Program) (w : World) (K : PySem.W.Frag) (mg : Str → Option Value) (base : Heap) (B : Addr) (cl : Nat → Addr) : Prop where
  x0 : XC K mg "Wrong" (cl 0)
  i0 : XI P w K mg base (cl 0) ["self", "place"] (spX1 "place" (cl 0))
  n0 : PySem.W.findIn K (.ref (cl 0)) "place" = some none
  x1 : XC K mg "NoLane" (cl 1)
  i1 : XI P w K mg base (cl 1) ["self", "lane"] (spX1 "lane" (cl 1))
  n1 : PySem.W.findIn K (.ref (cl 1)) "lane" = some none
  x2 : XC K mg "Shut" (cl 2)
  i2 : XI P w K mg base (cl 2) ["self", "word", "lane"] (spX2 (cl 2))
  n2w : PySem.W.findIn K (.ref (cl 2)) "word" = some none
  n2l : PySem.W.findIn K (.ref (cl 2)) "lane" = some none
  x3 : XC K mg "NoPlace" (cl 3)
  i3 : XI P w K mg base (cl 3) ["self", "place"] (spX1 "place" (cl 3))
  n3 : PySem.W.findIn K (.ref (cl 3)) "place" = some none
  x4 : XC K mg "NoArm" (cl 4)
  i4 : XI P w K mg base (cl 4) ["self", "index"] (spX1 "index" (cl 4))
  n4 : PySem.W.findIn K (.ref (cl 4)) "index" = some none
  x5 : XC K mg "TwoElse" (cl 5)
  i5 : XI P w K mg base (cl 5) ["self", "place"] (spX1 "place" (cl 5))
  n5 : PySem.W.findIn K (.ref (cl 5)) "place" = some none
  x6 : XC K mg "Refused" (cl 6)
  i6 : XI P w K mg base (cl 6) ["self", "what"] (spX1 "what" (cl 6))
  n6 : PySem.W.findIn K (.ref (cl 6)) "what" = some none
  x7 : XC K mg "NoKind" (cl 7)
  i7 : XI P w K mg base (cl 7) ["self", "kind"] (spX1 "kind" (cl 7))
  n7 : PySem.W.findIn K (.ref (cl 7)) "kind" = some none
  x8 : XC K mg "NoSeat" (cl 8)
  i8 : XI P w K mg base (cl 8) ["self", "place"] (spX1 "place" (cl 8))
  n8 : PySem.W.findIn K (.ref (cl 8)) "place" = some none
  x9 : XC K mg "Stopped" (cl 9)
  i9 : XI P w K mg base (cl 9) ["self", "index"] (spX1 "index" (cl 9))
  n9 : PySem.W.findIn K (.ref (cl 9)) "index" = some none
  x10 : XC K mg "TooMany" (cl 10)
  i10 : XI P w K mg base (cl 10) ["self", "most"] (spX1 "most" (cl 10))
  n10 : PySem.W.findIn K (.ref (cl 10)) "most" = some none
  x11 : XC K mg "NoEntry" (cl 11)
  i11 : XI P w K mg base (cl 11) ["self", "many"] (spX1 "many" (cl 11))
  n11 : PySem.W.findIn K (.ref (cl 11)) "many" = some none
  x12 : XC K mg "Full" (cl 12)
  i12 : XI P w K mg base (cl 12) ["self"] spPass
  x13 : XC K mg "Nothing" (cl 13)
  i13 : XI P w K mg base (cl 13) ["self"] spPass
  x14 : XC K mg "NoText" (cl 14)
  i14 : XI P w K mg base (cl 14) ["self"] spPass
  x15 : XC K mg "NoCommand" (cl 15)
  i15 : XI P w K mg base (cl 15) ["self"] spPass
  ec : ∀ k, k < 16 → ExcC K (cl k)
  gB : mg "LaneError" = some (.ref B)
  bs : ∀ k, k < 16 → PySem.W.exmOne K (.ref (cl k)) (.ref B) = some true
  kk : ∀ j k, j < 16 → k < 16 → PySem.W.kitOne K (.ref (cl k)) (.ref (cl j)) = some (decide (j = k))
  kB : ∀ k, k < 16 → PySem.W.kitOne K (.ref (cl k)) (.ref B) = some true
  kV : ∀ k, k < 16 → PySem.W.kitOne K (.ref (cl k)) (.type "ValueError") = some true
  kL : ∀ k, k < 16 → PySem.W.kitOne K (.ref (cl k)) (.type "LookupError") = some false
  nV : mg "ValueError" = none
  nL : mg "LookupError" = none
end K16

set_option Elab.async false
set_option linter.all false
set_option maxRecDepth 100000
set_option maxHeartbeats 4000000
namespace K16
open PySem PySem.Spec PyProof.Rows L2 HotX L2H Ol
section
variable {P : Program} {w : World} {K : PySem.W.Frag} {mg : Str → Option Value} {base : Heap} {B : Addr} {cl : Nat → Addr}
theorem k_eq {k i : Nat} (h : decide (V.int (k : Int) = V.int (i : Int)) = true) : k = i := by
  have z := of_decide_eq_true h
  injection z with z
  omega
theorem k_ne {k i : Nat} (h : ¬ decide (V.int (k : Int) = V.int (i : Int)) = true) : k ≠ i := fun e => h (by rw [e]; exact decide_eq_true rfl)
/-! ### _law_raise -/
def spRaise (cl : Nat → Addr) : Sp := fun vs H Q E => ∃ (k : Nat) (v u : V), vs = [.int (k : Int), v, u] ∧ k < 16 ∧ (k < 12 → ∀ (d : Addr) (H' : Hp), Ext H H' → H' d = some (.xd (fieldsOf k v u)) → E (.ref (cl k)) (some d) H') ∧ (12 ≤ k → E (.ref (cl k)) none H)
abbrev s_raise : Stmt := (topS 36)
abbrev pRa : List Str := ["_law_k", "_law_one", "_law_two"]
theorem sc_raise : FnScope pRa pRa (defScope s_raise) := ⟨rfl, rfl, rfl, by decide +kernel, rfl, by decide +kernel, by decide +kernel⟩
theorem ok_raise {f : Addr} {fd : FuncData} (F : Fun K "_law_raise" "_law_raise" s_raise f fd) (Z : Cls16 P w K mg base B cl) :
    FnOk P w K mg base (L2N.CX P w) 3 f fd pRa (spRaise cl) := by
  obtain ⟨f0, d0, F0, c0, t0, b0⟩ := Z.i0.has
  obtain ⟨f1, d1, F1, c1, t1, b1⟩ := Z.i1.has
  obtain ⟨f2, d2, F2, c2, t2, b2⟩ := Z.i2.has
  obtain ⟨f3, d3, F3, c3, t3, b3⟩ := Z.i3.has
  obtain ⟨f4, d4, F4, c4, t4, b4⟩ := Z.i4.has
  obtain ⟨f5, d5, F5, c5, t5, b5⟩ := Z.i5.has
  obtain ⟨f6, d6, F6, c6, t6, b6⟩ := Z.i6.has
  obtain ⟨f7, d7, F7, c7, t7, b7⟩ := Z.i7.has
  obtain ⟨f8, d8, F8, c8, t8, b8⟩ := Z.i8.has
  obtain ⟨f9, d9, F9, c9, t9, b9⟩ := Z.i9.has
  obtain ⟨f10, d10, F10, c10, t10, b10⟩ := Z.i10.has
  obtain ⟨f11, d11, F11, c11, t11, b11⟩ := Z.i11.has
  obtain ⟨f12, d12, F12, c12, t12, b12⟩ := Z.i12.has
  obtain ⟨f13, d13, F13, c13, t13, b13⟩ := Z.i13.has
  obtain ⟨f14, d14, F14, c14, t14, b14⟩ := Z.i14.has
  obtain ⟨f15, d15, F15, c15, t15, b15⟩ := Z.i15.has
  refine okXN F sc_raise (fun vs H Q E h => ?_) (fun cdv A outer s H vs Q E hr h => ?_)
  · obtain ⟨k, v, u, rfl, _⟩ := h
    rfl
  · obtain ⟨k, v, u, rfl, hk, q1, q2⟩ := h
    refine ⟨_, (pss_cons (ps_if (pt_cmpR op_eq (pv 0) pe_int (nomark _)) (pss_one (L2N.ps_raise rfl (L2N.takes_of rfl rfl rfl rfl) (pmk_oexN Z.x0.ox c0 t0 F0 (hr.mono (by decide)) b0 .nil pass0 (by rfl) Z.x0.g (pa_cons (pv 1) pa_nil)))) pss_nil)
      (pss_cons (ps_if (pt_cmpR op_eq (pv 0) pe_int (nomark _)) (pss_one (L2N.ps_raise rfl (L2N.takes_of rfl rfl rfl rfl) (pmk_oexN Z.x1.ox c1 t1 F1 (hr.mono (by decide)) b1 .nil pass0 (by rfl) Z.x1.g (pa_cons (pv 1) pa_nil)))) pss_nil)
      (pss_cons (ps_if (pt_cmpR op_eq (pv 0) pe_int (nomark _)) (pss_one (L2N.ps_raise rfl (L2N.takes_of rfl rfl rfl rfl) (pmk_oexN Z.x2.ox c2 t2 F2 (hr.mono (by decide)) b2 .nil pass0 (by rfl) Z.x2.g (pa_cons (pv 1) (pa_cons (pv 2) pa_nil))))) pss_nil)
      (pss_cons (ps_if (pt_cmpR op_eq (pv 0) pe_int (nomark _)) (pss_one (L2N.ps_raise rfl (L2N.takes_of rfl rfl rfl rfl) (pmk_oexN Z.x3.ox c3 t3 F3 (hr.mono (by decide)) b3 .nil pass0 (by rfl) Z.x3.g (pa_cons (pv 1) pa_nil)))) pss_nil)
      (pss_cons (ps_if (pt_cmpR op_eq (pv 0) pe_int (nomark _)) (pss_one (L2N.ps_raise rfl (L2N.takes_of rfl rfl rfl rfl) (pmk_oexN Z.x4.ox c4 t4 F4 (hr.mono (by decide)) b4 .nil pass0 (by rfl) Z.x4.g (pa_cons (pv 1) pa_nil)))) pss_nil)
      (pss_cons (ps_if (pt_cmpR op_eq (pv 0) pe_int (nomark _)) (pss_one (L2N.ps_raise rfl (L2N.takes_of rfl rfl rfl rfl) (pmk_oexN Z.x5.ox c5 t5 F5 (hr.mono (by decide)) b5 .nil pass0 (by rfl) Z.x5.g (pa_cons (pv 1) pa_nil)))) pss_nil)
      (pss_cons (ps_if (pt_cmpR op_eq (pv 0) pe_int (nomark _)) (pss_one (L2N.ps_raise rfl (L2N.takes_of rfl rfl rfl rfl) (pmk_oexN Z.x6.ox c6 t6 F6 (hr.mono (by decide)) b6 .nil pass0 (by rfl) Z.x6.g (pa_cons (pv 1) pa_nil)))) pss_nil)
      (pss_cons (ps_if (pt_cmpR op_eq (pv 0) pe_int (nomark _)) (pss_one (L2N.ps_raise rfl (L2N.takes_of rfl rfl rfl rfl) (pmk_oexN Z.x7.ox c7 t7 F7 (hr.mono (by decide)) b7 .nil pass0 (by rfl) Z.x7.g (pa_cons (pv 1) pa_nil)))) pss_nil)
      (pss_cons (ps_if (pt_cmpR op_eq (pv 0) pe_int (nomark _)) (pss_one (L2N.ps_raise rfl (L2N.takes_of rfl rfl rfl rfl) (pmk_oexN Z.x8.ox c8 t8 F8 (hr.mono (by decide)) b8 .nil pass0 (by rfl) Z.x8.g (pa_cons (pv 1) pa_nil)))) pss_nil)
      (pss_cons (ps_if (pt_cmpR op_eq (pv 0) pe_int (nomark _)) (pss_one (L2N.ps_raise rfl (L2N.takes_of rfl rfl rfl rfl) (pmk_oexN Z.x9.ox c9 t9 F9 (hr.mono (by decide)) b9 .nil pass0 (by rfl) Z.x9.g (pa_cons (pv 1) pa_nil)))) pss_nil)
      (pss_cons (ps_if (pt_cmpR op_eq (pv 0) pe_int (nomark _)) (pss_one (L2N.ps_raise rfl (L2N.takes_of rfl rfl rfl rfl) (pmk_oexN Z.x10.ox c10 t10 F10 (hr.mono (by decide)) b10 .nil pass0 (by rfl) Z.x10.g (pa_cons (pv 1) pa_nil)))) pss_nil)
      (pss_cons (ps_if (pt_cmpR op_eq (pv 0) pe_int (nomark _)) (pss_one (L2N.ps_raise rfl (L2N.takes_of rfl rfl rfl rfl) (pmk_oexN Z.x11.ox c11 t11 F11 (hr.mono (by decide)) b11 .nil pass0 (by rfl) Z.x11.g (pa_cons (pv 1) pa_nil)))) pss_nil)
      (pss_cons (ps_if (pt_cmpR op_eq (pv 0) pe_int (nomark _)) (pss_one (L2N.ps_raise rfl (L2N.takes_of rfl rfl rfl rfl) (pmk_retN rfl (pe_oex0 Z.x12.ox c12 t12 F12 (hr.mono (by decide)) b12 (by rfl) Z.x12.g)))) pss_nil)
      (pss_cons (ps_if (pt_cmpR op_eq (pv 0) pe_int (nomark _)) (pss_one (L2N.ps_raise rfl (L2N.takes_of rfl rfl rfl rfl) (pmk_retN rfl (pe_oex0 Z.x13.ox c13 t13 F13 (hr.mono (by decide)) b13 (by rfl) Z.x13.g)))) pss_nil)
      (pss_cons (ps_if (pt_cmpR op_eq (pv 0) pe_int (nomark _)) (pss_one (L2N.ps_raise rfl (L2N.takes_of rfl rfl rfl rfl) (pmk_retN rfl (pe_oex0 Z.x14.ox c14 t14 F14 (hr.mono (by decide)) b14 (by rfl) Z.x14.g)))) pss_nil)
      (pss_one (ps_if (pt_cmpR op_eq (pv 0) pe_int (nomark _)) (pss_one (L2N.ps_raise rfl (L2N.takes_of rfl rfl rfl rfl) (pmk_retN rfl (pe_oex0 Z.x15.ox c15 t15 F15 (hr.mono (by decide)) b15 (by rfl) Z.x15.g)))) pss_nil))))))))))))))))), ?_⟩
    refine ⟨_, rfl, rfl, _, rfl, ?_⟩
    refine ite2 (fun g => ?_) (fun g0 => ?_)
    · obtain rfl := k_eq (i := 0) g
      refine ⟨_, rfl, by show 1 ≤ 1000; decide, fun ax hax => ?_⟩
      refine ⟨ax, v, rfl, upd_same, fun dx' H5 hdx nda hk' hA hD => ?_⟩
      rw [upd_ne nda] at hdx
      refine ⟨rfl, dx', _, hA, hD, hdx, q1 (by decide) dx' _ (fun b o z => ?_) upd_same⟩
      have nb1 : b ≠ ax := fun y => by rw [y, hax] at z; cases z
      have nb2 : b ≠ dx' := fun y => by rw [y, hdx] at z; cases z
      rw [upd_ne nb2, del_ne nb1, hk' b nb1 nb2, upd_ne nb1]
      exact z
    refine ⟨_, rfl, rfl, _, rfl, ?_⟩
    refine ite2 (fun g => ?_) (fun g1 => ?_)
    · obtain rfl := k_eq (i := 1) g
      refine ⟨_, rfl, by show 1 ≤ 1000; decide, fun ax hax => ?_⟩
      refine ⟨ax, v, rfl, upd_same, fun dx' H5 hdx nda hk' hA hD => ?_⟩
      rw [upd_ne nda] at hdx
      refine ⟨rfl, dx', _, hA, hD, hdx, q1 (by decide) dx' _ (fun b o z => ?_) upd_same⟩
      have nb1 : b ≠ ax := fun y => by rw [y, hax] at z; cases z
      have nb2 : b ≠ dx' := fun y => by rw [y, hdx] at z; cases z
      rw [upd_ne nb2, del_ne nb1, hk' b nb1 nb2, upd_ne nb1]
      exact z
    refine ⟨_, rfl, rfl, _, rfl, ?_⟩
    refine ite2 (fun g => ?_) (fun g2 => ?_)
    · obtain rfl := k_eq (i := 2) g
      refine ⟨_, rfl, _, rfl, by show 2 ≤ 1000; decide, fun ax hax => ?_⟩
      refine ⟨ax, v, u, rfl, upd_same, fun dx' H5 hdx nda hk' hA hD => ?_⟩
      rw [upd_ne nda] at hdx
      refine ⟨rfl, dx', _, hA, hD, hdx, q1 (by decide) dx' _ (fun b o z => ?_) upd_same⟩
      have nb1 : b ≠ ax := fun y => by rw [y, hax] at z; cases z
      have nb2 : b ≠ dx' := fun y => by rw [y, hdx] at z; cases z
      rw [upd_ne nb2, del_ne nb1, hk' b nb1 nb2, upd_ne nb1]
      exact z
    refine ⟨_, rfl, rfl, _, rfl, ?_⟩
    refine ite2 (fun g => ?_) (fun g3 => ?_)
    · obtain rfl := k_eq (i := 3) g
      refine ⟨_, rfl, by show 1 ≤ 1000; decide, fun ax hax => ?_⟩
      refine ⟨ax, v, rfl, upd_same, fun dx' H5 hdx nda hk' hA hD => ?_⟩
      rw [upd_ne nda] at hdx
      refine ⟨rfl, dx', _, hA, hD, hdx, q1 (by decide) dx' _ (fun b o z => ?_) upd_same⟩
      have nb1 : b ≠ ax := fun y => by rw [y, hax] at z; cases z
      have nb2 : b ≠ dx' := fun y => by rw [y, hdx] at z; cases z
      rw [upd_ne nb2, del_ne nb1, hk' b nb1 nb2, upd_ne nb1]
      exact z
    refine ⟨_, rfl, rfl, _, rfl, ?_⟩
    refine ite2 (fun g => ?_) (fun g4 => ?_)
    · obtain rfl := k_eq (i := 4) g
      refine ⟨_, rfl, by show 1 ≤ 1000; decide, fun ax hax => ?_⟩
      refine ⟨ax, v, rfl, upd_same, fun dx' H5 hdx nda hk' hA hD => ?_⟩
      rw [upd_ne nda] at hdx
      refine ⟨rfl, dx', _, hA, hD, hdx, q1 (by decide) dx' _ (fun b o z => ?_) upd_same⟩
      have nb1 : b ≠ ax := fun y => by rw [y, hax] at z; cases z
      have nb2 : b ≠ dx' := fun y => by rw [y, hdx] at z; cases z
      rw [upd_ne nb2, del_ne nb1, hk' b nb1 nb2, upd_ne nb1]
      exact z
    refine ⟨_, rfl, rfl, _, rfl, ?_⟩
    refine ite2 (fun g => ?_) (fun g5 => ?_)
    · obtain rfl := k_eq (i := 5) g
      refine ⟨_, rfl, by show 1 ≤ 1000; decide, fun ax hax => ?_⟩
      refine ⟨ax, v, rfl, upd_same, fun dx' H5 hdx nda hk' hA hD => ?_⟩
      rw [upd_ne nda] at hdx
      refine ⟨rfl, dx', _, hA, hD, hdx, q1 (by decide) dx' _ (fun b o z => ?_) upd_same⟩
      have nb1 : b ≠ ax := fun y => by rw [y, hax] at z; cases z
      have nb2 : b ≠ dx' := fun y => by rw [y, hdx] at z; cases z
      rw [upd_ne nb2, del_ne nb1, hk' b nb1 nb2, upd_ne nb1]
      exact z
    refine ⟨_, rfl, rfl, _, rfl, ?_⟩
    refine ite2 (fun g => ?_) (fun g6 => ?_)
    · obtain rfl := k_eq (i := 6) g
      refine ⟨_, rfl, by show 1 ≤ 1000; decide, fun ax hax => ?_⟩
      refine ⟨ax, v, rfl, upd_same, fun dx' H5 hdx nda hk' hA hD => ?_⟩
      rw [upd_ne nda] at hdx
      refine ⟨rfl, dx', _, hA, hD, hdx, q1 (by decide) dx' _ (fun b o z => ?_) upd_same⟩
      have nb1 : b ≠ ax := fun y => by rw [y, hax] at z; cases z
      have nb2 : b ≠ dx' := fun y => by rw [y, hdx] at z; cases z
      rw [upd_ne nb2, del_ne nb1, hk' b nb1 nb2, upd_ne nb1]
      exact z
    refine ⟨_, rfl, rfl, _, rfl, ?_⟩
    refine ite2 (fun g => ?_) (fun g7 => ?_)
    · obtain rfl := k_eq (i := 7) g
      refine ⟨_, rfl, by show 1 ≤ 1000; decide, fun ax hax => ?_⟩
      refine ⟨ax, v, rfl, upd_same, fun dx' H5 hdx nda hk' hA hD => ?_⟩
      rw [upd_ne nda] at hdx
      refine ⟨rfl, dx', _, hA, hD, hdx, q1 (by decide) dx' _ (fun b o z => ?_) upd_same⟩
      have nb1 : b ≠ ax := fun y => by rw [y, hax] at z; cases z
      have nb2 : b ≠ dx' := fun y => by rw [y, hdx] at z; cases z
      rw [upd_ne nb2, del_ne nb1, hk' b nb1 nb2, upd_ne nb1]
      exact z
    refine ⟨_, rfl, rfl, _, rfl, ?_⟩
    refine ite2 (fun g => ?_) (fun g8 => ?_)
    · obtain rfl := k_eq (i := 8) g
      refine ⟨_, rfl, by show 1 ≤ 1000; decide, fun ax hax => ?_⟩
      refine ⟨ax, v, rfl, upd_same, fun dx' H5 hdx nda hk' hA hD => ?_⟩
      rw [upd_ne nda] at hdx
      refine ⟨rfl, dx', _, hA, hD, hdx, q1 (by decide) dx' _ (fun b o z => ?_) upd_same⟩
      have nb1 : b ≠ ax := fun y => by rw [y, hax] at z; cases z
      have nb2 : b ≠ dx' := fun y => by rw [y, hdx] at z; cases z
      rw [upd_ne nb2, del_ne nb1, hk' b nb1 nb2, upd_ne nb1]
      exact z
    refine ⟨_, rfl, rfl, _, rfl, ?_⟩
    refine ite2 (fun g => ?_) (fun g9 => ?_)
    · obtain rfl := k_eq (i := 9) g
      refine ⟨_, rfl, by show 1 ≤ 1000; decide, fun ax hax => ?_⟩
      refine ⟨ax, v, rfl, upd_same, fun dx' H5 hdx nda hk' hA hD => ?_⟩
      rw [upd_ne nda] at hdx
      refine ⟨rfl, dx', _, hA, hD, hdx, q1 (by decide) dx' _ (fun b o z => ?_) upd_same⟩
      have nb1 : b ≠ ax := fun y => by rw [y, hax] at z; cases z
      have nb2 : b ≠ dx' := fun y => by rw [y, hdx] at z; cases z
      rw [upd_ne nb2, del_ne nb1, hk' b nb1 nb2, upd_ne nb1]
      exact z
    refine ⟨_, rfl, rfl, _, rfl, ?_⟩
    refine ite2 (fun g => ?_) (fun g10 => ?_)
    · obtain rfl := k_eq (i := 10) g
      refine ⟨_, rfl, by show 1 ≤ 1000; decide, fun ax hax => ?_⟩
      refine ⟨ax, v, rfl, upd_same, fun dx' H5 hdx nda hk' hA hD => ?_⟩
      rw [upd_ne nda] at hdx
      refine ⟨rfl, dx', _, hA, hD, hdx, q1 (by decide) dx' _ (fun b o z => ?_) upd_same⟩
      have nb1 : b ≠ ax := fun y => by rw [y, hax] at z; cases z
      have nb2 : b ≠ dx' := fun y => by rw [y, hdx] at z; cases z
      rw [upd_ne nb2, del_ne nb1, hk' b nb1 nb2, upd_ne nb1]
      exact z
    refine ⟨_, rfl, rfl, _, rfl, ?_⟩
    refine ite2 (fun g => ?_) (fun g11 => ?_)
    · obtain rfl := k_eq (i := 11) g
      refine ⟨_, rfl, by show 1 ≤ 1000; decide, fun ax hax => ?_⟩
      refine ⟨ax, v, rfl, upd_same, fun dx' H5 hdx nda hk' hA hD => ?_⟩
      rw [upd_ne nda] at hdx
      refine ⟨rfl, dx', _, hA, hD, hdx, q1 (by decide) dx' _ (fun b o z => ?_) upd_same⟩
      have nb1 : b ≠ ax := fun y => by rw [y, hax] at z; cases z
      have nb2 : b ≠ dx' := fun y => by rw [y, hdx] at z; cases z
      rw [upd_ne nb2, del_ne nb1, hk' b nb1 nb2, upd_ne nb1]
      exact z
    refine ⟨_, rfl, rfl, _, rfl, ?_⟩
    refine ite2 (fun g => ?_) (fun g12 => ?_)
    · obtain rfl := k_eq (i := 12) g
      refine fun a ha => ⟨a, _, rfl, upd_same, fr0_none ha, raises_own Z.x12.ox.exC Z.x12.ox.tyC, ?_⟩
      rw [delH_new ha]
      exact q2 (by decide)
    refine ⟨_, rfl, rfl, _, rfl, ?_⟩
    refine ite2 (fun g => ?_) (fun g13 => ?_)
    · obtain rfl := k_eq (i := 13) g
      refine fun a ha => ⟨a, _, rfl, upd_same, fr0_none ha, raises_own Z.x13.ox.exC Z.x13.ox.tyC, ?_⟩
      rw [delH_new ha]
      exact q2 (by decide)
    refine ⟨_, rfl, rfl, _, rfl, ?_⟩
    refine ite2 (fun g => ?_) (fun g14 => ?_)
    · obtain rfl := k_eq (i := 14) g
      refine fun a ha => ⟨a, _, rfl, upd_same, fr0_none ha, raises_own Z.x14.ox.exC Z.x14.ox.tyC, ?_⟩
      rw [delH_new ha]
      exact q2 (by decide)
    refine ⟨_, rfl, rfl, _, rfl, ?_⟩
    refine ite2 (fun g => ?_) (fun g15 => ?_)
    · obtain rfl := k_eq (i := 15) g
      refine fun a ha => ⟨a, _, rfl, upd_same, fr0_none ha, raises_own Z.x15.ox.exC Z.x15.ox.tyC, ?_⟩
      rw [delH_new ha]
      exact q2 (by decide)
    have z0 := k_ne (i := 0) g0
    have z1 := k_ne (i := 1) g1
    have z2 := k_ne (i := 2) g2
    have z3 := k_ne (i := 3) g3
    have z4 := k_ne (i := 4) g4
    have z5 := k_ne (i := 5) g5
    have z6 := k_ne (i := 6) g6
    have z7 := k_ne (i := 7) g7
    have z8 := k_ne (i := 8) g8
    have z9 := k_ne (i := 9) g9
    have z10 := k_ne (i := 10) g10
    have z11 := k_ne (i := 11) g11
    have z12 := k_ne (i := 12) g12
    have z13 := k_ne (i := 13) g13
    have z14 := k_ne (i := 14) g14
    have z15 := k_ne (i := 15) g15
    omega
end
end K16

set_option Elab.async false
set_option linter.all false
set_option maxRecDepth 100000
set_option maxHeartbeats 4000000
namespace K16
open PySem PySem.Spec PyProof.Rows L2 HotX L2H Ol
section
variable {P : Program} {w : World} {K : PySem.W.Frag} {mg : Str → Option Value} {base : Heap} {B : Addr} {cl : Nat → Addr}
/-! ### _law_classes -/
def clsB (k : Nat) : List Bool := (List.range 16).map (fun j => decide (j = k)) ++ [true, true, false]
/-- the error that is handled is of the class k -/
structure Err (cl : Nat → Addr) (k : Nat) (d : Option Addr) (p : Addr × Obj) (H : Hp) : Prop where
  lt : k < 16
  zc : Zc (.ref (cl k)) d p.2
  hf : ∃ vs, p.2.data = .fields vs
  xd : XdAt H d
theorem Err.up {k : Nat} {d : Option Addr} {p : Addr × Obj} {H H' : Hp} (h : Err cl k d p H) (e : Ext H H') : Err cl k d p H' := ⟨h.lt, h.zc, h.hf, h.xd.up e⟩
theorem ref_val {a : Addr} : ∀ u, RelV (.ref a) u → u = .ref a := fun u h => by
  cases h
  rfl
theorem ty_val {n : String} : ∀ u, RelV (.ty n) u → u = .type n := fun u h => by
  cases h
  rfl
def spCl (cl : Nat → Addr) : Addr × Obj → Sp := fun p vs H Q _ => ∃ (k : Nat) (d : Option Addr), vs = [.ref p.1] ∧ Err cl k d p H ∧ ∀ (l : Addr) (H' : Hp), H l = none → Ext H H' → H' l = some (.lst ((clsB k).map V.bl)) → Q (.ref l) H'
abbrev s_cls : Stmt := (topS 37)
theorem sc_cls : FnScope ["_law_e", "_law_found"] ["_law_e"] (defScope s_cls) := ⟨rfl, rfl, rfl, by decide +kernel, rfl, by decide +kernel, by decide +kernel⟩
theorem ok_cls {f : Addr} {fd : FuncData} (F : Fun K "_law_classes" "_law_classes" s_cls f fd) (T : BT mg) (Z : Cls16 P w K mg base B cl) :
    FnE P w K mg base 1 f fd ["_law_e"] (spCl cl) := by
  refine okE F sc_cls (fun p vs H Q E h => ?_) (fun cdv A outer s H vs Q E p hot hr h => ?_)
  · obtain ⟨k, d, rfl, _⟩ := h
    rfl
  · obtain ⟨k, d, rfl, er, q⟩ := h
    have hp : p ∈ [p] := List.mem_cons_self
    refine ⟨_, (pss_cons (ps_set (i := 1) sc_cls.nd rfl (.inl rfl) (pe_lst (pa_cons (pe_callB (call_isP hp er.zc er.hf) (by rfl) T.n_isinstance (by decide +kernel) (pa_cons (pv 0) (pa_cons (pe_glob (v := .ref (cl 0)) rfl Z.x0.g rfl) pa_nil))) (pa_cons (pe_callB (call_isP hp er.zc er.hf) (by rfl) T.n_isinstance (by decide +kernel) (pa_cons (pv 0) (pa_cons (pe_glob (v := .ref (cl 1)) rfl Z.x1.g rfl) pa_nil))) (pa_cons (pe_callB (call_isP hp er.zc er.hf) (by rfl) T.n_isinstance (by decide +kernel) (pa_cons (pv 0) (pa_cons (pe_glob (v := .ref (cl 2)) rfl Z.x2.g rfl) pa_nil))) (pa_cons (pe_callB (call_isP hp er.zc er.hf) (by rfl) T.n_isinstance (by decide +kernel) (pa_cons (pv 0) (pa_cons (pe_glob (v := .ref (cl 3)) rfl Z.x3.g rfl) pa_nil))) pa_nil))))))
      (pss_cons (ps_aug (i := 1) sc_cls.nd rfl (.inl rfl) (pe_lst (pa_cons (pe_callB (call_isP hp er.zc er.hf) (by rfl) T.n_isinstance (by decide +kernel) (pa_cons (pv 0) (pa_cons (pe_glob (v := .ref (cl 4)) rfl Z.x4.g rfl) pa_nil))) (pa_cons (pe_callB (call_isP hp er.zc er.hf) (by rfl) T.n_isinstance (by decide +kernel) (pa_cons (pv 0) (pa_cons (pe_glob (v := .ref (cl 5)) rfl Z.x5.g rfl) pa_nil))) (pa_cons (pe_callB (call_isP hp er.zc er.hf) (by rfl) T.n_isinstance (by decide +kernel) (pa_cons (pv 0) (pa_cons (pe_glob (v := .ref (cl 6)) rfl Z.x6.g rfl) pa_nil))) (pa_cons (pe_callB (call_isP hp er.zc er.hf) (by rfl) T.n_isinstance (by decide +kernel) (pa_cons (pv 0) (pa_cons (pe_glob (v := .ref (cl 7)) rfl Z.x7.g rfl) pa_nil))) pa_nil))))) (ti := rExt2) iop_ext)
      (pss_cons (ps_aug (i := 1) sc_cls.nd rfl (.inl rfl) (pe_lst (pa_cons (pe_callB (call_isP hp er.zc er.hf) (by rfl) T.n_isinstance (by decide +kernel) (pa_cons (pv 0) (pa_cons (pe_glob (v := .ref (cl 8)) rfl Z.x8.g rfl) pa_nil))) (pa_cons (pe_callB (call_isP hp er.zc er.hf) (by rfl) T.n_isinstance (by decide +kernel) (pa_cons (pv 0) (pa_cons (pe_glob (v := .ref (cl 9)) rfl Z.x9.g rfl) pa_nil))) (pa_cons (pe_callB (call_isP hp er.zc er.hf) (by rfl) T.n_isinstance (by decide +kernel) (pa_cons (pv 0) (pa_cons (pe_glob (v := .ref (cl 10)) rfl Z.x10.g rfl) pa_nil))) (pa_cons (pe_callB (call_isP hp er.zc er.hf) (by rfl) T.n_isinstance (by decide +kernel) (pa_cons (pv 0) (pa_cons (pe_glob (v := .ref (cl 11)) rfl Z.x11.g rfl) pa_nil))) pa_nil))))) (ti := rExt2) iop_ext)
      (pss_cons (ps_aug (i := 1) sc_cls.nd rfl (.inl rfl) (pe_lst (pa_cons (pe_callB (call_isP hp er.zc er.hf) (by rfl) T.n_isinstance (by decide +kernel) (pa_cons (pv 0) (pa_cons (pe_glob (v := .ref (cl 12)) rfl Z.x12.g rfl) pa_nil))) (pa_cons (pe_callB (call_isP hp er.zc er.hf) (by rfl) T.n_isinstance (by decide +kernel) (pa_cons (pv 0) (pa_cons (pe_glob (v := .ref (cl 13)) rfl Z.x13.g rfl) pa_nil))) (pa_cons (pe_callB (call_isP hp er.zc er.hf) (by rfl) T.n_isinstance (by decide +kernel) (pa_cons (pv 0) (pa_cons (pe_glob (v := .ref (cl 14)) rfl Z.x14.g rfl) pa_nil))) (pa_cons (pe_callB (call_isP hp er.zc er.hf) (by rfl) T.n_isinstance (by decide +kernel) (pa_cons (pv 0) (pa_cons (pe_glob (v := .ref (cl 15)) rfl Z.x15.g rfl) pa_nil))) pa_nil))))) (ti := rExt2) iop_ext)
      (pss_cons (ps_aug (i := 1) sc_cls.nd rfl (.inl rfl) (pe_lst (pa_cons (pe_callB (call_isP hp er.zc er.hf) (by rfl) T.n_isinstance (by decide +kernel) (pa_cons (pv 0) (pa_cons (pe_glob (v := .ref B) rfl Z.gB rfl) pa_nil))) (pa_cons (pe_callB (call_isP hp er.zc er.hf) (by rfl) T.n_isinstance (by decide +kernel) (pa_cons (pv 0) (pa_cons (pe_bltn (v := .ty "ValueError") (by rfl) Z.nV (by decide +kernel) rfl) pa_nil))) pa_nil))) (ti := rExt2) iop_ext)
      (pss_one (ps_ret (pe_op op_cat (pv 1) (pe_lst (pa_cons (pe_callB (call_isP hp er.zc er.hf) (by rfl) T.n_isinstance (by decide +kernel) (pa_cons (pv 0) (pa_cons (pe_bltn (v := .ty "LookupError") (by rfl) Z.nL (by decide +kernel) rfl) pa_nil))) pa_nil)))))))))), ?_⟩
    refine ⟨_, rfl, cl k, .ref (cl 0), _, _, rfl, ref_val, rfl, Z.ec k er.lt, er.xd, Z.kk 0 k (by decide) er.lt, ?_⟩
    refine ⟨_, rfl, cl k, .ref (cl 1), _, _, rfl, ref_val, rfl, Z.ec k er.lt, er.xd, Z.kk 1 k (by decide) er.lt, ?_⟩
    refine ⟨_, rfl, cl k, .ref (cl 2), _, _, rfl, ref_val, rfl, Z.ec k er.lt, er.xd, Z.kk 2 k (by decide) er.lt, ?_⟩
    refine ⟨_, rfl, cl k, .ref (cl 3), _, _, rfl, ref_val, rfl, Z.ec k er.lt, er.xd, Z.kk 3 k (by decide) er.lt, ?_⟩
    refine ⟨by show 4 ≤ sizeLine; decide, fun l hl => ?_⟩
    have y0 := Ext.new (H := H) (o := .lst [.bl (decide (0 = k)), .bl (decide (1 = k)), .bl (decide (2 = k)), .bl (decide (3 = k))]) hl
    have a0 : (upd H l (.lst [.bl (decide (0 = k)), .bl (decide (1 = k)), .bl (decide (2 = k)), .bl (decide (3 = k))])) l = some (.lst [.bl (decide (0 = k)), .bl (decide (1 = k)), .bl (decide (2 = k)), .bl (decide (3 = k))]) := upd_same
    have b0 : ∀ o, Ext H (upd (upd H l (.lst [.bl (decide (0 = k)), .bl (decide (1 = k)), .bl (decide (2 = k)), .bl (decide (3 = k))])) l o) := fun o => Ext.mut y0 hl
    generalize upd H l (.lst [.bl (decide (0 = k)), .bl (decide (1 = k)), .bl (decide (2 = k)), .bl (decide (3 = k))]) = H0 at y0 a0 b0 ⊢
    refine ⟨_, rfl, ?_⟩
    refine ⟨_, rfl, cl k, .ref (cl 4), _, _, rfl, ref_val, rfl, Z.ec k er.lt, (er.xd.up y0), Z.kk 4 k (by decide) er.lt, ?_⟩
    refine ⟨_, rfl, cl k, .ref (cl 5), _, _, rfl, ref_val, rfl, Z.ec k er.lt, (er.xd.up y0), Z.kk 5 k (by decide) er.lt, ?_⟩
    refine ⟨_, rfl, cl k, .ref (cl 6), _, _, rfl, ref_val, rfl, Z.ec k er.lt, (er.xd.up y0), Z.kk 6 k (by decide) er.lt, ?_⟩
    refine ⟨_, rfl, cl k, .ref (cl 7), _, _, rfl, ref_val, rfl, Z.ec k er.lt, (er.xd.up y0), Z.kk 7 k (by decide) er.lt, ?_⟩
    refine ⟨by show 4 ≤ sizeLine; decide, fun t1 ht1 => ?_⟩
    have u1 := Ext.new (H := H0) (o := .lst [.bl (decide (4 = k)), .bl (decide (5 = k)), .bl (decide (6 = k)), .bl (decide (7 = k))]) ht1
    have k1 : (upd H0 t1 (.lst [.bl (decide (4 = k)), .bl (decide (5 = k)), .bl (decide (6 = k)), .bl (decide (7 = k))])) t1 = some (.lst [.bl (decide (4 = k)), .bl (decide (5 = k)), .bl (decide (6 = k)), .bl (decide (7 = k))]) := upd_same
    generalize upd H0 t1 (.lst [.bl (decide (4 = k)), .bl (decide (5 = k)), .bl (decide (6 = k)), .bl (decide (7 = k))]) = G1 at u1 k1 ⊢
    refine ⟨l, t1, _, _, rfl, rfl, u1 _ _ a0, k1, by simp only [List.length_append, List.length_cons, List.length_nil]; show _ ≤ 16777216; omega, ?_⟩
    have y1 : Ext H (upd G1 l (.lst ([.bl (decide (0 = k)), .bl (decide (1 = k)), .bl (decide (2 = k)), .bl (decide (3 = k))] ++ [.bl (decide (4 = k)), .bl (decide (5 = k)), .bl (decide (6 = k)), .bl (decide (7 = k))]))) := Ext.mut (y0.trans u1) hl
    have a1 : (upd G1 l (.lst ([.bl (decide (0 = k)), .bl (decide (1 = k)), .bl (decide (2 = k)), .bl (decide (3 = k))] ++ [.bl (decide (4 = k)), .bl (decide (5 = k)), .bl (decide (6 = k)), .bl (decide (7 = k))]))) l = some (.lst [.bl (decide (0 = k)), .bl (decide (1 = k)), .bl (decide (2 = k)), .bl (decide (3 = k)), .bl (decide (4 = k)), .bl (decide (5 = k)), .bl (decide (6 = k)), .bl (decide (7 = k))]) := upd_same
    generalize upd G1 l (.lst ([.bl (decide (0 = k)), .bl (decide (1 = k)), .bl (decide (2 = k)), .bl (decide (3 = k))] ++ [.bl (decide (4 = k)), .bl (decide (5 = k)), .bl (decide (6 = k)), .bl (decide (7 = k))])) = H1 at y1 a1 ⊢
    refine ⟨_, rfl, ?_⟩
    refine ⟨_, rfl, cl k, .ref (cl 8), _, _, rfl, ref_val, rfl, Z.ec k er.lt, (er.xd.up y1), Z.kk 8 k (by decide) er.lt, ?_⟩
    refine ⟨_, rfl, cl k, .ref (cl 9), _, _, rfl, ref_val, rfl, Z.ec k er.lt, (er.xd.up y1), Z.kk 9 k (by decide) er.lt, ?_⟩
    refine ⟨_, rfl, cl k, .ref (cl 10), _, _, rfl, ref_val, rfl, Z.ec k er.lt, (er.xd.up y1), Z.kk 10 k (by decide) er.lt, ?_⟩
    refine ⟨_, rfl, cl k, .ref (cl 11), _, _, rfl, ref_val, rfl, Z.ec k er.lt, (er.xd.up y1), Z.kk 11 k (by decide) er.lt, ?_⟩
    refine ⟨by show 4 ≤ sizeLine; decide, fun t2 ht2 => ?_⟩
    have u2 := Ext.new (H := H1) (o := .lst [.bl (decide (8 = k)), .bl (decide (9 = k)), .bl (decide (10 = k)), .bl (decide (11 = k))]) ht2
    have k2 : (upd H1 t2 (.lst [.bl (decide (8 = k)), .bl (decide (9 = k)), .bl (decide (10 = k)), .bl (decide (11 = k))])) t2 = some (.lst [.bl (decide (8 = k)), .bl (decide (9 = k)), .bl (decide (10 = k)), .bl (decide (11 = k))]) := upd_same
    generalize upd H1 t2 (.lst [.bl (decide (8 = k)), .bl (decide (9 = k)), .bl (decide (10 = k)), .bl (decide (11 = k))]) = G2 at u2 k2 ⊢
    refine ⟨l, t2, _, _, rfl, rfl, u2 _ _ a1, k2, by simp only [List.length_append, List.length_cons, List.length_nil]; show _ ≤ 16777216; omega, ?_⟩
    have y2 : Ext H (upd G2 l (.lst ([.bl (decide (0 = k)), .bl (decide (1 = k)), .bl (decide (2 = k)), .bl (decide (3 = k)), .bl (decide (4 = k)), .bl (decide (5 = k)), .bl (decide (6 = k)), .bl (decide (7 = k))] ++ [.bl (decide (8 = k)), .bl (decide (9 = k)), .bl (decide (10 = k)), .bl (decide (11 = k))]))) := Ext.mut (y1.trans u2) hl
    have a2 : (upd G2 l (.lst ([.bl (decide (0 = k)), .bl (decide (1 = k)), .bl (decide (2 = k)), .bl (decide (3 = k)), .bl (decide (4 = k)), .bl (decide (5 = k)), .bl (decide (6 = k)), .bl (decide (7 = k))] ++ [.bl (decide (8 = k)), .bl (decide (9 = k)), .bl (decide (10 = k)), .bl (decide (11 = k))]))) l = some (.lst [.bl (decide (0 = k)), .bl (decide (1 = k)), .bl (decide (2 = k)), .bl (decide (3 = k)), .bl (decide (4 = k)), .bl (decide (5 = k)), .bl (decide (6 = k)), .bl (decide (7 = k)), .bl (decide (8 = k)), .bl (decide (9 = k)), .bl (decide (10 = k)), .bl (decide (11 = k))]) := upd_same
    generalize upd G2 l (.lst ([.bl (decide (0 = k)), .bl (decide (1 = k)), .bl (decide (2 = k)), .bl (decide (3 = k)), .bl (decide (4 = k)), .bl (decide (5 = k)), .bl (decide (6 = k)), .bl (decide (7 = k))] ++ [.bl (decide (8 = k)), .bl (decide (9 = k)), .bl (decide (10 = k)), .bl (decide (11 = k))])) = H2 at y2 a2 ⊢
    refine ⟨_, rfl, ?_⟩
    refine ⟨_, rfl, cl k, .ref (cl 12), _, _, rfl, ref_val, rfl, Z.ec k er.lt, (er.xd.up y2), Z.kk 12 k (by decide) er.lt, ?_⟩
    refine ⟨_, rfl, cl k, .ref (cl 13), _, _, rfl, ref_val, rfl, Z.ec k er.lt, (er.xd.up y2), Z.kk 13 k (by decide) er.lt, ?_⟩
    refine ⟨_, rfl, cl k, .ref (cl 14), _, _, rfl, ref_val, rfl, Z.ec k er.lt, (er.xd.up y2), Z.kk 14 k (by decide) er.lt, ?_⟩
    refine ⟨_, rfl, cl k, .ref (cl 15), _, _, rfl, ref_val, rfl, Z.ec k er.lt, (er.xd.up y2), Z.kk 15 k (by decide) er.lt, ?_⟩
    refine ⟨by show 4 ≤ sizeLine; decide, fun t3 ht3 => ?_⟩
    have u3 := Ext.new (H := H2) (o := .lst [.bl (decide (12 = k)), .bl (decide (13 = k)), .bl (decide (14 = k)), .bl (decide (15 = k))]) ht3
    have k3 : (upd H2 t3 (.lst [.bl (decide (12 = k)), .bl (decide (13 = k)), .bl (decide (14 = k)), .bl (decide (15 = k))])) t3 = some (.lst [.bl (decide (12 = k)), .bl (decide (13 = k)), .bl (decide (14 = k)), .bl (decide (15 = k))]) := upd_same
    generalize upd H2 t3 (.lst [.bl (decide (12 = k)), .bl (decide (13 = k)), .bl (decide (14 = k)), .bl (decide (15 = k))]) = G3 at u3 k3 ⊢
    refine ⟨l, t3, _, _, rfl, rfl, u3 _ _ a2, k3, by simp only [List.length_append, List.length_cons, List.length_nil]; show _ ≤ 16777216; omega, ?_⟩
    have y3 : Ext H (upd G3 l (.lst ([.bl (decide (0 = k)), .bl (decide (1 = k)), .bl (decide (2 = k)), .bl (decide (3 = k)), .bl (decide (4 = k)), .bl (decide (5 = k)), .bl (decide (6 = k)), .bl (decide (7 = k)), .bl (decide (8 = k)), .bl (decide (9 = k)), .bl (decide (10 = k)), .bl (decide (11 = k))] ++ [.bl (decide (12 = k)), .bl (decide (13 = k)), .bl (decide (14 = k)), .bl (decide (15 = k))]))) := Ext.mut (y2.trans u3) hl
    have a3 : (upd G3 l (.lst ([.bl (decide (0 = k)), .bl (decide (1 = k)), .bl (decide (2 = k)), .bl (decide (3 = k)), .bl (decide (4 = k)), .bl (decide (5 = k)), .bl (decide (6 = k)), .bl (decide (7 = k)), .bl (decide (8 = k)), .bl (decide (9 = k)), .bl (decide (10 = k)), .bl (decide (11 = k))] ++ [.bl (decide (12 = k)), .bl (decide (13 = k)), .bl (decide (14 = k)), .bl (decide (15 = k))]))) l = some (.lst [.bl (decide (0 = k)), .bl (decide (1 = k)), .bl (decide (2 = k)), .bl (decide (3 = k)), .bl (decide (4 = k)), .bl (decide (5 = k)), .bl (decide (6 = k)), .bl (decide (7 = k)), .bl (decide (8 = k)), .bl (decide (9 = k)), .bl (decide (10 = k)), .bl (decide (11 = k)), .bl (decide (12 = k)), .bl (decide (13 = k)), .bl (decide (14 = k)), .bl (decide (15 = k))]) := upd_same
    generalize upd G3 l (.lst ([.bl (decide (0 = k)), .bl (decide (1 = k)), .bl (decide (2 = k)), .bl (decide (3 = k)), .bl (decide (4 = k)), .bl (decide (5 = k)), .bl (decide (6 = k)), .bl (decide (7 = k)), .bl (decide (8 = k)), .bl (decide (9 = k)), .bl (decide (10 = k)), .bl (decide (11 = k))] ++ [.bl (decide (12 = k)), .bl (decide (13 = k)), .bl (decide (14 = k)), .bl (decide (15 = k))])) = H3 at y3 a3 ⊢
    refine ⟨_, rfl, ?_⟩
    refine ⟨_, rfl, cl k, .ref B, _, _, rfl, ref_val, rfl, Z.ec k er.lt, (er.xd.up y3), Z.kB k er.lt, ?_⟩
    refine ⟨_, rfl, cl k, .ty "ValueError", _, _, rfl, ty_val, rfl, Z.ec k er.lt, (er.xd.up y3), Z.kV k er.lt, ?_⟩
    refine ⟨by show 2 ≤ sizeLine; decide, fun t4 ht4 => ?_⟩
    have u4 := Ext.new (H := H3) (o := .lst [.bl true, .bl true]) ht4
    have k4 : (upd H3 t4 (.lst [.bl true, .bl true])) t4 = some (.lst [.bl true, .bl true]) := upd_same
    generalize upd H3 t4 (.lst [.bl true, .bl true]) = G4 at u4 k4 ⊢
    refine ⟨l, t4, _, _, rfl, rfl, u4 _ _ a3, k4, by simp only [List.length_append, List.length_cons, List.length_nil]; show _ ≤ 16777216; omega, ?_⟩
    have y4 : Ext H (upd G4 l (.lst ([.bl (decide (0 = k)), .bl (decide (1 = k)), .bl (decide (2 = k)), .bl (decide (3 = k)), .bl (decide (4 = k)), .bl (decide (5 = k)), .bl (decide (6 = k)), .bl (decide (7 = k)), .bl (decide (8 = k)), .bl (decide (9 = k)), .bl (decide (10 = k)), .bl (decide (11 = k)), .bl (decide (12 = k)), .bl (decide (13 = k)), .bl (decide (14 = k)), .bl (decide (15 = k))] ++ [.bl true, .bl true]))) := Ext.mut (y3.trans u4) hl
    have a4 : (upd G4 l (.lst ([.bl (decide (0 = k)), .bl (decide (1 = k)), .bl (decide (2 = k)), .bl (decide (3 = k)), .bl (decide (4 = k)), .bl (decide (5 = k)), .bl (decide (6 = k)), .bl (decide (7 = k)), .bl (decide (8 = k)), .bl (decide (9 = k)), .bl (decide (10 = k)), .bl (decide (11 = k)), .bl (decide (12 = k)), .bl (decide (13 = k)), .bl (decide (14 = k)), .bl (decide (15 = k))] ++ [.bl true, .bl true]))) l = some (.lst [.bl (decide (0 = k)), .bl (decide (1 = k)), .bl (decide (2 = k)), .bl (decide (3 = k)), .bl (decide (4 = k)), .bl (decide (5 = k)), .bl (decide (6 = k)), .bl (decide (7 = k)), .bl (decide (8 = k)), .bl (decide (9 = k)), .bl (decide (10 = k)), .bl (decide (11 = k)), .bl (decide (12 = k)), .bl (decide (13 = k)), .bl (decide (14 = k)), .bl (decide (15 = k)), .bl true, .bl true]) := upd_same
    generalize upd G4 l (.lst ([.bl (decide (0 = k)), .bl (decide (1 = k)), .bl (decide (2 = k)), .bl (decide (3 = k)), .bl (decide (4 = k)), .bl (decide (5 = k)), .bl (decide (6 = k)), .bl (decide (7 = k)), .bl (decide (8 = k)), .bl (decide (9 = k)), .bl (decide (10 = k)), .bl (decide (11 = k)), .bl (decide (12 = k)), .bl (decide (13 = k)), .bl (decide (14 = k)), .bl (decide (15 = k))] ++ [.bl true, .bl true])) = H4 at y4 a4 ⊢
    refine ⟨_, rfl, ?_⟩
    refine ⟨_, rfl, cl k, .ty "LookupError", _, _, rfl, ty_val, rfl, Z.ec k er.lt, (er.xd.up y4), Z.kL k er.lt, ?_⟩
    refine ⟨by show 1 ≤ sizeLine; decide, fun t ht => ?_⟩
    have u := Ext.new (H := H4) (o := .lst [.bl false]) ht
    refine ⟨l, t, _, _, rfl, rfl, u _ _ a4, upd_same, by show 19 ≤ 2 ^ 24; decide, fun r nr => ?_⟩
    exact q r _ ((y4.trans u).free nr) ((y4.trans u).trans (Ext.new nr)) upd_same
end
end K16

set_option Elab.async false
set_option linter.all false
set_option maxRecDepth 100000
set_option maxHeartbeats 4000000
namespace K16
open PySem PySem.Spec PyProof.Rows L2 HotX L2H Ol
theorem pe_alt {X : Cx} {e : Expr} {t1 t2 : TE} (h1 : PE X e t1) (h2 : PE X e t2) : PE X e (fun σ H Q => t1 σ H Q ∨ t2 σ H Q) := by
  constructor
  rintro pins s σ H Q I (h | h)
  · exact h1.run pins s σ H Q I h
  · exact h2.run pins s σ H Q I h
theorem lk1 (f : Str) (v : V) : ([(f, v)] : List (Str × V)).lookup f = some v := List.lookup_cons_self
theorem lk2 (v u : V) : ([("lane", u), ("word", v)] : List (Str × V)).lookup ("word" : Str) = some v := by
  rw [List.lookup_cons, beq_eq_false_iff_ne.mpr (by decide +kernel)]
  exact List.lookup_cons_self
theorem lk3 (v u : V) : ([("lane", u), ("word", v)] : List (Str × V)).lookup ("lane" : Str) = some u := List.lookup_cons_self
theorem takes0N {X : Cx} : L2N.Takes X (fun _ _ _ _ => False) := fun _ _ y => by
  obtain ⟨_, _, _, _, _, _, _, _, _, _, _, _, _, _, _, _, z⟩ := y
  exact z.elim
/-- the suite bears the error -/
theorem hot_of {X : Cx} {a : Addr} {oe : Obj} {cls : Value} {d : Option Addr} {pn : List (Addr × Obj)} (hz : L2N.Zn cls d oe) (hf : ∃ vs, oe.data = .fields vs) : Hot1 (X.suite a ((a, oe) :: pn)).A (a, oe) := by
  obtain ⟨vs, hd⟩ := hf
  exact ⟨rfl, vs, hd, hz.2.2 vs hd⟩
section
variable {P : Program} {w : World} {K : PySem.W.Frag} {mg : Str → Option Value} {base : Heap} {B : Addr} {cl : Nat → Addr}
/-! ### _law_fields -/
def spFi (cl : Nat → Addr) : Addr × Obj → Sp := fun p vs H Q _ => ∃ (k : Nat) (d : Option Addr) (v u : V), vs = [.int (k : Int), .ref p.1] ∧ Err cl k d p H ∧ (k < 12 → ∃ dd, d = some dd ∧ H dd = some (.xd (fieldsOf k v u))) ∧
  ∀ (l : Addr) (H' : Hp), H l = none → Ext H H' → H' l = some (.lst (valsOf k v u)) → Q (.ref l) H'
abbrev s_fi : Stmt := (topS 38)
theorem sc_fi : FnScope ["_law_k", "_law_e"] ["_law_k", "_law_e"] (defScope s_fi) := ⟨rfl, rfl, rfl, by decide +kernel, rfl, by decide +kernel, by decide +kernel⟩
theorem ok_fi {f : Addr} {fd : FuncData} (F : Fun K "_law_fields" "_law_fields" s_fi f fd) (T : BT mg) (Z : Cls16 P w K mg base B cl) :
    FnE P w K mg base 1 f fd ["_law_k", "_law_e"] (spFi cl) := by
  refine okE F sc_fi (fun p vs H Q E h => ?_) (fun cdv A outer s H vs Q E p hot hr h => ?_)
  · obtain ⟨k, d, v, u, rfl, _⟩ := h
    rfl
  · obtain ⟨k, d, v, u, rfl, er, hd, q⟩ := h
    have hp : p ∈ [p] := List.mem_cons_self
    refine ⟨_, (pss_cons (ps_if (pt_cmpR op_in_seq (pv 0) (pe_tup (pa_cons pe_int (pa_cons pe_int (pa_cons pe_int (pa_cons pe_int pa_nil))))) (by rfl)) (pss_one (ps_ret (pe_lst (pa_cons (pe_alt (by exact (pe_xp hp Z.x0.xf Z.n0 er.zc er.hf (pv 1))) (pe_alt (by exact (pe_xp hp Z.x3.xf Z.n3 er.zc er.hf (pv 1))) (pe_alt (by exact (pe_xp hp Z.x5.xf Z.n5 er.zc er.hf (pv 1))) (by exact (pe_xp hp Z.x8.xf Z.n8 er.zc er.hf (pv 1)))))) pa_nil)))) pss_nil)
      (pss_cons (ps_if (pt_cmpR op_eq (pv 0) pe_int (nomark _)) (pss_one (ps_ret (pe_lst (pa_cons (by exact (pe_xp hp Z.x1.xf Z.n1 er.zc er.hf (pv 1))) pa_nil)))) pss_nil)
      (pss_cons (ps_if (pt_cmpR op_eq (pv 0) pe_int (nomark _)) (pss_one (ps_ret (pe_lst (pa_cons (by exact (pe_xp hp Z.x2.xf Z.n2w er.zc er.hf (pv 1))) (pa_cons (by exact (pe_xp hp Z.x2.xf Z.n2l er.zc er.hf (pv 1))) pa_nil))))) pss_nil)
      (pss_cons (ps_if (pt_cmpR op_in_seq (pv 0) (pe_tup (pa_cons pe_int (pa_cons pe_int pa_nil))) (by rfl)) (pss_one (ps_ret (pe_lst (pa_cons (pe_alt (by exact (pe_xp hp Z.x4.xf Z.n4 er.zc er.hf (pv 1))) (by exact (pe_xp hp Z.x9.xf Z.n9 er.zc er.hf (pv 1)))) pa_nil)))) pss_nil)
      (pss_cons (ps_if (pt_cmpR op_eq (pv 0) pe_int (nomark _)) (pss_one (ps_ret (pe_lst (pa_cons (by exact (pe_xp hp Z.x6.xf Z.n6 er.zc er.hf (pv 1))) pa_nil)))) pss_nil)
      (pss_cons (ps_if (pt_cmpR op_eq (pv 0) pe_int (nomark _)) (pss_one (ps_ret (pe_lst (pa_cons (by exact (pe_xp hp Z.x7.xf Z.n7 er.zc er.hf (pv 1))) pa_nil)))) pss_nil)
      (pss_cons (ps_if (pt_cmpR op_eq (pv 0) pe_int (nomark _)) (pss_one (ps_ret (pe_lst (pa_cons (by exact (pe_xp hp Z.x10.xf Z.n10 er.zc er.hf (pv 1))) pa_nil)))) pss_nil)
      (pss_one (ps_ret (pe_ifExp (pt_cmpR op_eq (pv 0) pe_int (nomark _)) (pe_lst (pa_cons (by exact (pe_xp hp Z.x11.xf Z.n11 er.zc er.hf (pv 1))) pa_nil)) (pe_lst pa_nil))))))))))), ?_⟩
    have lt := er.lt
    have : k = 0 ∨ k = 1 ∨ k = 2 ∨ k = 3 ∨ k = 4 ∨ k = 5 ∨ k = 6 ∨ k = 7 ∨ k = 8 ∨ k = 9 ∨ k = 10 ∨ k = 11 ∨ k = 12 ∨ k = 13 ∨ k = 14 ∨ k = 15 := by omega
    rcases this with rfl | rfl | rfl | rfl | rfl | rfl | rfl | rfl | rfl | rfl | rfl | rfl | rfl | rfl | rfl | rfl
    · obtain ⟨dd, rfl, hdd⟩ := hd (by decide)
      refine ⟨_, rfl, by show 4 ≤ sizeLine; decide, fun t1 h1 => ⟨t1, _, rfl, .inr (SqT.of upd_same), rfl, rfl, _, rfl, ?_⟩⟩
      have y1 := Ext.new (H := H) (o := .tup [.int 0, .int 3, .int 5, .int 8]) h1
      generalize upd H t1 (.tup [.int 0, .int 3, .int 5, .int 8]) = G1 at y1 ⊢
      refine ite2 (fun _ => ?_) (fun g => absurd (by decide) g)
      refine (.inl ⟨_, rfl, rfl, rfl, dd, _, v, rfl, y1 _ _ hdd, lk1 "place" v, by show 1 ≤ sizeLine; decide, fun l hl => ?_⟩)
      exact q l _ (y1.free hl) (y1.trans (Ext.new hl)) upd_same
    · obtain ⟨dd, rfl, hdd⟩ := hd (by decide)
      refine ⟨_, rfl, by show 4 ≤ sizeLine; decide, fun t1 h1 => ⟨t1, _, rfl, .inr (SqT.of upd_same), rfl, rfl, _, rfl, ?_⟩⟩
      have y1 := Ext.new (H := H) (o := .tup [.int 0, .int 3, .int 5, .int 8]) h1
      generalize upd H t1 (.tup [.int 0, .int 3, .int 5, .int 8]) = G1 at y1 ⊢
      refine ite2 (fun g => absurd g (by decide)) (fun _ => ?_)
      refine ⟨_, rfl, rfl, _, rfl, ?_⟩
      refine ite2 (fun _ => ?_) (fun g => absurd (by decide) g)
      refine ⟨_, rfl, rfl, rfl, dd, _, v, rfl, y1 _ _ hdd, lk1 "lane" v, by show 1 ≤ sizeLine; decide, fun l hl => ?_⟩
      exact q l _ (y1.free hl) (y1.trans (Ext.new hl)) upd_same
    · obtain ⟨dd, rfl, hdd⟩ := hd (by decide)
      refine ⟨_, rfl, by show 4 ≤ sizeLine; decide, fun t1 h1 => ⟨t1, _, rfl, .inr (SqT.of upd_same), rfl, rfl, _, rfl, ?_⟩⟩
      have y1 := Ext.new (H := H) (o := .tup [.int 0, .int 3, .int 5, .int 8]) h1
      generalize upd H t1 (.tup [.int 0, .int 3, .int 5, .int 8]) = G1 at y1 ⊢
      refine ite2 (fun g => absurd g (by decide)) (fun _ => ?_)
      refine ⟨_, rfl, rfl, _, rfl, ?_⟩
      refine ite2 (fun g => absurd g (by decide)) (fun _ => ?_)
      refine ⟨_, rfl, rfl, _, rfl, ?_⟩
      refine ite2 (fun _ => ?_) (fun g => absurd (by decide) g)
      refine ⟨_, rfl, rfl, rfl, dd, _, v, rfl, y1 _ _ hdd, lk2 v u, _, rfl, rfl, rfl, dd, _, u, rfl, y1 _ _ hdd, lk3 v u, by show 2 ≤ sizeLine; decide, fun l hl => ?_⟩
      exact q l _ (y1.free hl) (y1.trans (Ext.new hl)) upd_same
    · obtain ⟨dd, rfl, hdd⟩ := hd (by decide)
      refine ⟨_, rfl, by show 4 ≤ sizeLine; decide, fun t1 h1 => ⟨t1, _, rfl, .inr (SqT.of upd_same), rfl, rfl, _, rfl, ?_⟩⟩
      have y1 := Ext.new (H := H) (o := .tup [.int 0, .int 3, .int 5, .int 8]) h1
      generalize upd H t1 (.tup [.int 0, .int 3, .int 5, .int 8]) = G1 at y1 ⊢
      refine ite2 (fun _ => ?_) (fun g => absurd (by decide) g)
      refine (.inr (.inl ⟨_, rfl, rfl, rfl, dd, _, v, rfl, y1 _ _ hdd, lk1 "place" v, by show 1 ≤ sizeLine; decide, fun l hl => ?_⟩))
      exact q l _ (y1.free hl) (y1.trans (Ext.new hl)) upd_same
    · obtain ⟨dd, rfl, hdd⟩ := hd (by decide)
      refine ⟨_, rfl, by show 4 ≤ sizeLine; decide, fun t1 h1 => ⟨t1, _, rfl, .inr (SqT.of upd_same), rfl, rfl, _, rfl, ?_⟩⟩
      have y1 := Ext.new (H := H) (o := .tup [.int 0, .int 3, .int 5, .int 8]) h1
      generalize upd H t1 (.tup [.int 0, .int 3, .int 5, .int 8]) = G1 at y1 ⊢
      refine ite2 (fun g => absurd g (by decide)) (fun _ => ?_)
      refine ⟨_, rfl, rfl, _, rfl, ?_⟩
      refine ite2 (fun g => absurd g (by decide)) (fun _ => ?_)
      refine ⟨_, rfl, rfl, _, rfl, ?_⟩
      refine ite2 (fun g => absurd g (by decide)) (fun _ => ?_)
      refine ⟨_, rfl, by show 2 ≤ sizeLine; decide, fun t2 h2 => ⟨t2, _, rfl, .inr (SqT.of upd_same), rfl, rfl, _, rfl, ?_⟩⟩
      have y2 := Ext.new (H := G1) (o := .tup [.int 4, .int 9]) h2
      generalize upd G1 t2 (.tup [.int 4, .int 9]) = G2 at y2 ⊢
      refine ite2 (fun _ => ?_) (fun g => absurd (by decide) g)
      refine (.inl ⟨_, rfl, rfl, rfl, dd, _, v, rfl, (y1.trans y2) _ _ hdd, lk1 "index" v, by show 1 ≤ sizeLine; decide, fun l hl => ?_⟩)
      exact q l _ ((y1.trans y2).free hl) ((y1.trans y2).trans (Ext.new hl)) upd_same
    · obtain ⟨dd, rfl, hdd⟩ := hd (by decide)
      refine ⟨_, rfl, by show 4 ≤ sizeLine; decide, fun t1 h1 => ⟨t1, _, rfl, .inr (SqT.of upd_same), rfl, rfl, _, rfl, ?_⟩⟩
      have y1 := Ext.new (H := H) (o := .tup [.int 0, .int 3, .int 5, .int 8]) h1
      generalize upd H t1 (.tup [.int 0, .int 3, .int 5, .int 8]) = G1 at y1 ⊢
      refine ite2 (fun _ => ?_) (fun g => absurd (by decide) g)
      refine (.inr (.inr (.inl ⟨_, rfl, rfl, rfl, dd, _, v, rfl, y1 _ _ hdd, lk1 "place" v, by show 1 ≤ sizeLine; decide, fun l hl => ?_⟩)))
      exact q l _ (y1.free hl) (y1.trans (Ext.new hl)) upd_same
    · obtain ⟨dd, rfl, hdd⟩ := hd (by decide)
      refine ⟨_, rfl, by show 4 ≤ sizeLine; decide, fun t1 h1 => ⟨t1, _, rfl, .inr (SqT.of upd_same), rfl, rfl, _, rfl, ?_⟩⟩
      have y1 := Ext.new (H := H) (o := .tup [.int 0, .int 3, .int 5, .int 8]) h1
      generalize upd H t1 (.tup [.int 0, .int 3, .int 5, .int 8]) = G1 at y1 ⊢
      refine ite2 (fun g => absurd g (by decide)) (fun _ => ?_)
      refine ⟨_, rfl, rfl, _, rfl, ?_⟩
      refine ite2 (fun g => absurd g (by decide)) (fun _ => ?_)
      refine ⟨_, rfl, rfl, _, rfl, ?_⟩
      refine ite2 (fun g => absurd g (by decide)) (fun _ => ?_)
      refine ⟨_, rfl, by show 2 ≤ sizeLine; decide, fun t2 h2 => ⟨t2, _, rfl, .inr (SqT.of upd_same), rfl, rfl, _, rfl, ?_⟩⟩
      have y2 := Ext.new (H := G1) (o := .tup [.int 4, .int 9]) h2
      generalize upd G1 t2 (.tup [.int 4, .int 9]) = G2 at y2 ⊢
      refine ite2 (fun g => absurd g (by decide)) (fun _ => ?_)
      refine ⟨_, rfl, rfl, _, rfl, ?_⟩
      refine ite2 (fun _ => ?_) (fun g => absurd (by decide) g)
      refine ⟨_, rfl, rfl, rfl, dd, _, v, rfl, (y1.trans y2) _ _ hdd, lk1 "what" v, by show 1 ≤ sizeLine; decide, fun l hl => ?_⟩
      exact q l _ ((y1.trans y2).free hl) ((y1.trans y2).trans (Ext.new hl)) upd_same
    · obtain ⟨dd, rfl, hdd⟩ := hd (by decide)
      refine ⟨_, rfl, by show 4 ≤ sizeLine; decide, fun t1 h1 => ⟨t1, _, rfl, .inr (SqT.of upd_same), rfl, rfl, _, rfl, ?_⟩⟩
      have y1 := Ext.new (H := H) (o := .tup [.int 0, .int 3, .int 5, .int 8]) h1
      generalize upd H t1 (.tup [.int 0, .int 3, .int 5, .int 8]) = G1 at y1 ⊢
      refine ite2 (fun g => absurd g (by decide)) (fun _ => ?_)
      refine ⟨_, rfl, rfl, _, rfl, ?_⟩
      refine ite2 (fun g => absurd g (by decide)) (fun _ => ?_)
      refine ⟨_, rfl, rfl, _, rfl, ?_⟩
      refine ite2 (fun g => absurd g (by decide)) (fun _ => ?_)
      refine ⟨_, rfl, by show 2 ≤ sizeLine; decide, fun t2 h2 => ⟨t2, _, rfl, .inr (SqT.of upd_same), rfl, rfl, _, rfl, ?_⟩⟩
      have y2 := Ext.new (H := G1) (o := .tup [.int 4, .int 9]) h2
      generalize upd G1 t2 (.tup [.int 4, .int 9]) = G2 at y2 ⊢
      refine ite2 (fun g => absurd g (by decide)) (fun _ => ?_)
      refine ⟨_, rfl, rfl, _, rfl, ?_⟩
      refine ite2 (fun g => absurd g (by decide)) (fun _ => ?_)
      refine ⟨_, rfl, rfl, _, rfl, ?_⟩
      refine ite2 (fun _ => ?_) (fun g => absurd (by decide) g)
      refine ⟨_, rfl, rfl, rfl, dd, _, v, rfl, (y1.trans y2) _ _ hdd, lk1 "kind" v, by show 1 ≤ sizeLine; decide, fun l hl => ?_⟩
      exact q l _ ((y1.trans y2).free hl) ((y1.trans y2).trans (Ext.new hl)) upd_same
    · obtain ⟨dd, rfl, hdd⟩ := hd (by decide)
      refine ⟨_, rfl, by show 4 ≤ sizeLine; decide, fun t1 h1 => ⟨t1, _, rfl, .inr (SqT.of upd_same), rfl, rfl, _, rfl, ?_⟩⟩
      have y1 := Ext.new (H := H) (o := .tup [.int 0, .int 3, .int 5, .int 8]) h1
      generalize upd H t1 (.tup [.int 0, .int 3, .int 5, .int 8]) = G1 at y1 ⊢
      refine ite2 (fun _ => ?_) (fun g => absurd (by decide) g)
      refine (.inr (.inr (.inr ⟨_, rfl, rfl, rfl, dd, _, v, rfl, y1 _ _ hdd, lk1 "place" v, by show 1 ≤ sizeLine; decide, fun l hl => ?_⟩)))
      exact q l _ (y1.free hl) (y1.trans (Ext.new hl)) upd_same
    · obtain ⟨dd, rfl, hdd⟩ := hd (by decide)
      refine ⟨_, rfl, by show 4 ≤ sizeLine; decide, fun t1 h1 => ⟨t1, _, rfl, .inr (SqT.of upd_same), rfl, rfl, _, rfl, ?_⟩⟩
      have y1 := Ext.new (H := H) (o := .tup [.int 0, .int 3, .int 5, .int 8]) h1
      generalize upd H t1 (.tup [.int 0, .int 3, .int 5, .int 8]) = G1 at y1 ⊢
      refine ite2 (fun g => absurd g (by decide)) (fun _ => ?_)
      refine ⟨_, rfl, rfl, _, rfl, ?_⟩
      refine ite2 (fun g => absurd g (by decide)) (fun _ => ?_)
      refine ⟨_, rfl, rfl, _, rfl, ?_⟩
      refine ite2 (fun g => absurd g (by decide)) (fun _ => ?_)
      refine ⟨_, rfl, by show 2 ≤ sizeLine; decide, fun t2 h2 => ⟨t2, _, rfl, .inr (SqT.of upd_same), rfl, rfl, _, rfl, ?_⟩⟩
      have y2 := Ext.new (H := G1) (o := .tup [.int 4, .int 9]) h2
      generalize upd G1 t2 (.tup [.int 4, .int 9]) = G2 at y2 ⊢
      refine ite2 (fun _ => ?_) (fun g => absurd (by decide) g)
      refine (.inr ⟨_, rfl, rfl, rfl, dd, _, v, rfl, (y1.trans y2) _ _ hdd, lk1 "index" v, by show 1 ≤ sizeLine; decide, fun l hl => ?_⟩)
      exact q l _ ((y1.trans y2).free hl) ((y1.trans y2).trans (Ext.new hl)) upd_same
    · obtain ⟨dd, rfl, hdd⟩ := hd (by decide)
      refine ⟨_, rfl, by show 4 ≤ sizeLine; decide, fun t1 h1 => ⟨t1, _, rfl, .inr (SqT.of upd_same), rfl, rfl, _, rfl, ?_⟩⟩
      have y1 := Ext.new (H := H) (o := .tup [.int 0, .int 3, .int 5, .int 8]) h1
      generalize upd H t1 (.tup [.int 0, .int 3, .int 5, .int 8]) = G1 at y1 ⊢
      refine ite2 (fun g => absurd g (by decide)) (fun _ => ?_)
      refine ⟨_, rfl, rfl, _, rfl, ?_⟩
      refine ite2 (fun g => absurd g (by decide)) (fun _ => ?_)
      refine ⟨_, rfl, rfl, _, rfl, ?_⟩
      refine ite2 (fun g => absurd g (by decide)) (fun _ => ?_)
      refine ⟨_, rfl, by show 2 ≤ sizeLine; decide, fun t2 h2 => ⟨t2, _, rfl, .inr (SqT.of upd_same), rfl, rfl, _, rfl, ?_⟩⟩
      have y2 := Ext.new (H := G1) (o := .tup [.int 4, .int 9]) h2
      generalize upd G1 t2 (.tup [.int 4, .int 9]) = G2 at y2 ⊢
      refine ite2 (fun g => absurd g (by decide)) (fun _ => ?_)
      refine ⟨_, rfl, rfl, _, rfl, ?_⟩
      refine ite2 (fun g => absurd g (by decide)) (fun _ => ?_)
      refine ⟨_, rfl, rfl, _, rfl, ?_⟩
      refine ite2 (fun g => absurd g (by decide)) (fun _ => ?_)
      refine ⟨_, rfl, rfl, _, rfl, ?_⟩
      refine ite2 (fun _ => ?_) (fun g => absurd (by decide) g)
      refine ⟨_, rfl, rfl, rfl, dd, _, v, rfl, (y1.trans y2) _ _ hdd, lk1 "most" v, by show 1 ≤ sizeLine; decide, fun l hl => ?_⟩
      exact q l _ ((y1.trans y2).free hl) ((y1.trans y2).trans (Ext.new hl)) upd_same
    · obtain ⟨dd, rfl, hdd⟩ := hd (by decide)
      refine ⟨_, rfl, by show 4 ≤ sizeLine; decide, fun t1 h1 => ⟨t1, _, rfl, .inr (SqT.of upd_same), rfl, rfl, _, rfl, ?_⟩⟩
      have y1 := Ext.new (H := H) (o := .tup [.int 0, .int 3, .int 5, .int 8]) h1
      generalize upd H t1 (.tup [.int 0, .int 3, .int 5, .int 8]) = G1 at y1 ⊢
      refine ite2 (fun g => absurd g (by decide)) (fun _ => ?_)
      refine ⟨_, rfl, rfl, _, rfl, ?_⟩
      refine ite2 (fun g => absurd g (by decide)) (fun _ => ?_)
      refine ⟨_, rfl, rfl, _, rfl, ?_⟩
      refine ite2 (fun g => absurd g (by decide)) (fun _ => ?_)
      refine ⟨_, rfl, by show 2 ≤ sizeLine; decide, fun t2 h2 => ⟨t2, _, rfl, .inr (SqT.of upd_same), rfl, rfl, _, rfl, ?_⟩⟩
      have y2 := Ext.new (H := G1) (o := .tup [.int 4, .int 9]) h2
      generalize upd G1 t2 (.tup [.int 4, .int 9]) = G2 at y2 ⊢
      refine ite2 (fun g => absurd g (by decide)) (fun _ => ?_)
      refine ⟨_, rfl, rfl, _, rfl, ?_⟩
      refine ite2 (fun g => absurd g (by decide)) (fun _ => ?_)
      refine ⟨_, rfl, rfl, _, rfl, ?_⟩
      refine ite2 (fun g => absurd g (by decide)) (fun _ => ?_)
      refine ⟨_, rfl, rfl, _, rfl, ?_⟩
      refine ite2 (fun g => absurd g (by decide)) (fun _ => ?_)
      refine ⟨_, rfl, rfl, _, rfl, ?_⟩
      refine ite2 (fun _ => ?_) (fun g => absurd (by decide) g)
      refine ⟨_, rfl, rfl, rfl, dd, _, v, rfl, (y1.trans y2) _ _ hdd, lk1 "many" v, by show 1 ≤ sizeLine; decide, fun l hl => ?_⟩
      exact q l _ ((y1.trans y2).free hl) ((y1.trans y2).trans (Ext.new hl)) upd_same
    · refine ⟨_, rfl, by show 4 ≤ sizeLine; decide, fun t1 h1 => ⟨t1, _, rfl, .inr (SqT.of upd_same), rfl, rfl, _, rfl, ?_⟩⟩
      have y1 := Ext.new (H := H) (o := .tup [.int 0, .int 3, .int 5, .int 8]) h1
      generalize upd H t1 (.tup [.int 0, .int 3, .int 5, .int 8]) = G1 at y1 ⊢
      refine ite2 (fun g => absurd g (by decide)) (fun _ => ?_)
      refine ⟨_, rfl, rfl, _, rfl, ?_⟩
      refine ite2 (fun g => absurd g (by decide)) (fun _ => ?_)
      refine ⟨_, rfl, rfl, _, rfl, ?_⟩
      refine ite2 (fun g => absurd g (by decide)) (fun _ => ?_)
      refine ⟨_, rfl, by show 2 ≤ sizeLine; decide, fun t2 h2 => ⟨t2, _, rfl, .inr (SqT.of upd_same), rfl, rfl, _, rfl, ?_⟩⟩
      have y2 := Ext.new (H := G1) (o := .tup [.int 4, .int 9]) h2
      generalize upd G1 t2 (.tup [.int 4, .int 9]) = G2 at y2 ⊢
      refine ite2 (fun g => absurd g (by decide)) (fun _ => ?_)
      refine ⟨_, rfl, rfl, _, rfl, ?_⟩
      refine ite2 (fun g => absurd g (by decide)) (fun _ => ?_)
      refine ⟨_, rfl, rfl, _, rfl, ?_⟩
      refine ite2 (fun g => absurd g (by decide)) (fun _ => ?_)
      refine ⟨_, rfl, rfl, _, rfl, ?_⟩
      refine ite2 (fun g => absurd g (by decide)) (fun _ => ?_)
      refine ⟨_, rfl, rfl, _, rfl, ?_⟩
      refine ite2 (fun g => absurd g (by decide)) (fun _ => ?_)
      refine ⟨by show 0 ≤ sizeLine; decide, fun l hl => ?_⟩
      exact q l _ ((y1.trans y2).free hl) ((y1.trans y2).trans (Ext.new hl)) upd_same
    · refine ⟨_, rfl, by show 4 ≤ sizeLine; decide, fun t1 h1 => ⟨t1, _, rfl, .inr (SqT.of upd_same), rfl, rfl, _, rfl, ?_⟩⟩
      have y1 := Ext.new (H := H) (o := .tup [.int 0, .int 3, .int 5, .int 8]) h1
      generalize upd H t1 (.tup [.int 0, .int 3, .int 5, .int 8]) = G1 at y1 ⊢
      refine ite2 (fun g => absurd g (by decide)) (fun _ => ?_)
      refine ⟨_, rfl, rfl, _, rfl, ?_⟩
      refine ite2 (fun g => absurd g (by decide)) (fun _ => ?_)
      refine ⟨_, rfl, rfl, _, rfl, ?_⟩
      refine ite2 (fun g => absurd g (by decide)) (fun _ => ?_)
      refine ⟨_, rfl, by show 2 ≤ sizeLine; decide, fun t2 h2 => ⟨t2, _, rfl, .inr (SqT.of upd_same), rfl, rfl, _, rfl, ?_⟩⟩
      have y2 := Ext.new (H := G1) (o := .tup [.int 4, .int 9]) h2
      generalize upd G1 t2 (.tup [.int 4, .int 9]) = G2 at y2 ⊢
      refine ite2 (fun g => absurd g (by decide)) (fun _ => ?_)
      refine ⟨_, rfl, rfl, _, rfl, ?_⟩
      refine ite2 (fun g => absurd g (by decide)) (fun _ => ?_)
      refine ⟨_, rfl, rfl, _, rfl, ?_⟩
      refine ite2 (fun g => absurd g (by decide)) (fun _ => ?_)
      refine ⟨_, rfl, rfl, _, rfl, ?_⟩
      refine ite2 (fun g => absurd g (by decide)) (fun _ => ?_)
      refine ⟨_, rfl, rfl, _, rfl, ?_⟩
      refine ite2 (fun g => absurd g (by decide)) (fun _ => ?_)
      refine ⟨by show 0 ≤ sizeLine; decide, fun l hl => ?_⟩
      exact q l _ ((y1.trans y2).free hl) ((y1.trans y2).trans (Ext.new hl)) upd_same
    · refine ⟨_, rfl, by show 4 ≤ sizeLine; decide, fun t1 h1 => ⟨t1, _, rfl, .inr (SqT.of upd_same), rfl, rfl, _, rfl, ?_⟩⟩
      have y1 := Ext.new (H := H) (o := .tup [.int 0, .int 3, .int 5, .int 8]) h1
      generalize upd H t1 (.tup [.int 0, .int 3, .int 5, .int 8]) = G1 at y1 ⊢
      refine ite2 (fun g => absurd g (by decide)) (fun _ => ?_)
      refine ⟨_, rfl, rfl, _, rfl, ?_⟩
      refine ite2 (fun g => absurd g (by decide)) (fun _ => ?_)
      refine ⟨_, rfl, rfl, _, rfl, ?_⟩
      refine ite2 (fun g => absurd g (by decide)) (fun _ => ?_)
      refine ⟨_, rfl, by show 2 ≤ sizeLine; decide, fun t2 h2 => ⟨t2, _, rfl, .inr (SqT.of upd_same), rfl, rfl, _, rfl, ?_⟩⟩
      have y2 := Ext.new (H := G1) (o := .tup [.int 4, .int 9]) h2
      generalize upd G1 t2 (.tup [.int 4, .int 9]) = G2 at y2 ⊢
      refine ite2 (fun g => absurd g (by decide)) (fun _ => ?_)
      refine ⟨_, rfl, rfl, _, rfl, ?_⟩
      refine ite2 (fun g => absurd g (by decide)) (fun _ => ?_)
      refine ⟨_, rfl, rfl, _, rfl, ?_⟩
      refine ite2 (fun g => absurd g (by decide)) (fun _ => ?_)
      refine ⟨_, rfl, rfl, _, rfl, ?_⟩
      refine ite2 (fun g => absurd g (by decide)) (fun _ => ?_)
      refine ⟨_, rfl, rfl, _, rfl, ?_⟩
      refine ite2 (fun g => absurd g (by decide)) (fun _ => ?_)
      refine ⟨by show 0 ≤ sizeLine; decide, fun l hl => ?_⟩
      exact q l _ ((y1.trans y2).free hl) ((y1.trans y2).trans (Ext.new hl)) upd_same
    · refine ⟨_, rfl, by show 4 ≤ sizeLine; decide, fun t1 h1 => ⟨t1, _, rfl, .inr (SqT.of upd_same), rfl, rfl, _, rfl, ?_⟩⟩
      have y1 := Ext.new (H := H) (o := .tup [.int 0, .int 3, .int 5, .int 8]) h1
      generalize upd H t1 (.tup [.int 0, .int 3, .int 5, .int 8]) = G1 at y1 ⊢
      refine ite2 (fun g => absurd g (by decide)) (fun _ => ?_)
      refine ⟨_, rfl, rfl, _, rfl, ?_⟩
      refine ite2 (fun g => absurd g (by decide)) (fun _ => ?_)
      refine ⟨_, rfl, rfl, _, rfl, ?_⟩
      refine ite2 (fun g => absurd g (by decide)) (fun _ => ?_)
      refine ⟨_, rfl, by show 2 ≤ sizeLine; decide, fun t2 h2 => ⟨t2, _, rfl, .inr (SqT.of upd_same), rfl, rfl, _, rfl, ?_⟩⟩
      have y2 := Ext.new (H := G1) (o := .tup [.int 4, .int 9]) h2
      generalize upd G1 t2 (.tup [.int 4, .int 9]) = G2 at y2 ⊢
      refine ite2 (fun g => absurd g (by decide)) (fun _ => ?_)
      refine ⟨_, rfl, rfl, _, rfl, ?_⟩
      refine ite2 (fun g => absurd g (by decide)) (fun _ => ?_)
      refine ⟨_, rfl, rfl, _, rfl, ?_⟩
      refine ite2 (fun g => absurd g (by decide)) (fun _ => ?_)
      refine ⟨_, rfl, rfl, _, rfl, ?_⟩
      refine ite2 (fun g => absurd g (by decide)) (fun _ => ?_)
      refine ⟨_, rfl, rfl, _, rfl, ?_⟩
      refine ite2 (fun g => absurd g (by decide)) (fun _ => ?_)
      refine ⟨by show 0 ≤ sizeLine; decide, fun l hl => ?_⟩
      exact q l _ ((y1.trans y2).free hl) ((y1.trans y2).trans (Ext.new hl)) upd_same
/-! ### _law_taken -/
def sqCl (cl : Nat → Addr) (a : Addr) (cls : Value) (d : Option Addr) : List V → Hp → VK → Prop := fun vs H Q => ∃ k : Nat, vs = [.ref a] ∧ cls = .ref (cl k) ∧ k < 16 ∧ XdAt H d ∧ ∀ (l : Addr) (H' : Hp), H l = none → Ext H H' → H' l = some (.lst ((clsB k).map V.bl)) → Q (.ref l) H'
def sqFi (cl : Nat → Addr) (a : Addr) (cls : Value) (d : Option Addr) : List V → Hp → VK → Prop := fun vs H Q => ∃ (k : Nat) (v u : V), vs = [.int (k : Int), .ref a] ∧ cls = .ref (cl k) ∧ k < 16 ∧ XdAt H d ∧ (k < 12 → ∃ dd, d = some dd ∧ H dd = some (.xd (fieldsOf k v u))) ∧
  ∀ (l : Addr) (H' : Hp), H l = none → Ext H H' → H' l = some (.lst (valsOf k v u)) → Q (.ref l) H'
structure CaE (P : Program) (w : World) (K : PySem.W.Frag) (mg : Str → Option Value) (base : Heap) (k : Nat) (x : Str) (ps : List Str) (sp : Addr × Obj → Sp) : Prop where
  has : ∃ (f : Addr) (fd : FuncData), FnE P w K mg base k f fd ps sp ∧ mg x = some (.ref f) ∧ PySem.W.keepIn K (.ref f) = true ∧ Binds K fd ps []
def spTaken (cl : Nat → Addr) : Sp := fun vs H Q _ => ∃ (k : Nat) (v u : V), vs = [.int (k : Int), v, u] ∧ k < 16 ∧
  ∀ (lt lc lf : Addr) (H' : Hp), H lt = none → H lc = none → H lf = none → Ext H H' → H' lt = some (.lst [.ref lc, .ref lf]) → H' lc = some (.lst ((clsB k).map V.bl)) → H' lf = some (.lst (valsOf k v u)) → Q (.ref lt) H'
abbrev s_tk : Stmt := (topS 40)
abbrev nTk : List Str := ["_law_k", "_law_one", "_law_two", "_law_e"]
theorem sc_tk : FnScope nTk pRa (defScope s_tk) := ⟨rfl, rfl, rfl, by decide +kernel, rfl, by decide +kernel, by decide +kernel⟩
theorem ok_tk {f : Addr} {fd : FuncData} (F : Fun K "_law_taken" "_law_taken" s_tk f fd) (T : BT mg) (Z : Cls16 P w K mg base B cl)
    (CR : CaN P w K mg base 3 "_law_raise" pRa (spRaise cl)) (CC : CaE P w K mg base 1 "_law_classes" ["_law_e"] (spCl cl)) (CF : CaE P w K mg base 1 "_law_fields" ["_law_k", "_law_e"] (spFi cl)) :
    FnOk P w K mg base CX0 5 f fd pRa (spTaken cl) := by
  obtain ⟨fR, dR, FR, gR, kR, bR⟩ := CR.has
  obtain ⟨fC, dC, FC, gC, kC, bC⟩ := CC.has
  obtain ⟨fF, dF, FF, gF, kF, bF⟩ := CF.has
  refine F.ok sc_tk (fun vs H Q E h => ?_) (fun cdv A outer st H vs Q E hr h => ?_)
  · obtain ⟨k, v, u, rfl, _⟩ := h
    rfl
  · obtain ⟨k, v, u, rfl, hk, q⟩ := h
    have hr1 := roomH_of (hr.mono (show 1 ≤ 4 by decide))
    refine ⟨_, (pss_cons (L2N.ps_try_as (i := 3) (tb := fun Wx => tDrop (tCallS (spRaise cl) (WE Wx) (tCons (tVar 0) (tCons (tVar 1) (tCons (tVar 2) tNil)))))
        (ts := fun a cls d => tRet (tLst (tCons (tE (sqCl cl a cls d) (tCons (tVar 3) tNil)) (tCons (tE (sqFi cl a cls d) (tCons (tVar 0) (tCons (tVar 3) tNil))) tNil)))) (Wout := fun _ _ _ _ => False) rfl rfl sc_tk.nd rfl rfl ⟨rfl, by decide, Or.inl Z.gB⟩ takes0N
      (fun Wx pn xe tk _ => pss_one (ps_expr (by exact (pe_callS FR (hr.mono (by decide)) (by rfl) gR kR bR (fun σ => passAtN tk σ) (pa_cons (pv 0) (pa_cons (pv 1) (pa_cons (pv 2) pa_nil)))))))
      (fun a oe cls d pn hz hf => pss_one (ps_ret (pe_lst (pa_cons (by exact (pe_callE (p := (a, oe)) (sq := sqCl cl a cls d) (fun vs H Q ⟨k, e1, e2, e3, e4, e5⟩ => ⟨k, d, e1, ⟨e3, by rw [← e2]; exact hz.zc, hf, e4⟩, e5⟩) FC ⟨hr1.dp, hr1.un⟩ (hot_of hz hf) List.mem_cons_self (by rfl) gC kC bC (pa_cons (pv 3) pa_nil)))
        (pa_cons (by exact (pe_callE (p := (a, oe)) (sq := sqFi cl a cls d) (fun vs H Q ⟨k, v, u, e1, e2, e3, e4, e5, e6⟩ => ⟨k, d, v, u, e1, ⟨e3, by rw [← e2]; exact hz.zc, hf, e4⟩, e5, e6⟩) FF ⟨hr1.dp, hr1.un⟩ (hot_of hz hf) List.mem_cons_self (by rfl) gF kF bF (pa_cons (pv 0) (pa_cons (pv 3) pa_nil)))) pa_nil))))))
      (pss_one (ps_ret (pe_lst pa_nil)))), ?_⟩
    refine ⟨_, rfl, _, rfl, _, rfl, k, v, u, rfl, hk, fun h12 d H1 e1 hd => ?_, fun h12 => ?_⟩
    · refine ⟨true, Z.bs k hk, fun _ a ha => ?_, fun z => Bool.noConfusion z⟩
      refine ⟨_, rfl, k, rfl, rfl, hk, ⟨_, hd⟩, fun lc H2 n2 e2 h2 => ?_⟩
      refine ⟨_, rfl, _, rfl, k, v, u, rfl, rfl, hk, ⟨_, e2 _ _ hd⟩, fun _ => ⟨d, rfl, e2 _ _ hd⟩, fun lf H3 n3 e3 h3 => ?_⟩
      refine ⟨by show 2 ≤ sizeLine; decide, fun lt n4 => ?_⟩
      have x4 := Ext.new (o := .lst [.ref lc, .ref lf]) n4
      exact q lt lc lf _ (((e1.trans e2).trans e3).free n4) (e1.free n2) ((e1.trans e2).free n3) (((e1.trans e2).trans e3).trans x4) upd_same (x4 _ _ (e3 _ _ h2)) (x4 _ _ h3)
    · refine ⟨true, Z.bs k hk, fun _ a ha => ?_, fun z => Bool.noConfusion z⟩
      refine ⟨_, rfl, k, rfl, rfl, hk, trivial, fun lc H2 e1 e2 h2 => ?_⟩
      refine ⟨_, rfl, _, rfl, k, v, u, rfl, rfl, hk, trivial, fun z => by omega, fun lf H3 n3 e3 h3 => ?_⟩
      refine ⟨by show 2 ≤ sizeLine; decide, fun lt n4 => ?_⟩
      have x4 := Ext.new (o := .lst [.ref lc, .ref lf]) n4
      exact q lt lc lf _ ((e2.trans e3).free n4) e1 (e2.free n3) ((e2.trans e3).trans x4) upd_same (x4 _ _ (e3 _ _ h2)) (x4 _ _ h3)
end
end K16

set_option Elab.async false
set_option linter.all false
set_option maxRecDepth 100000
set_option maxHeartbeats 4000000
namespace K16
open PySem PySem.Spec PyProof.Rows L2 Ol
open TL (tl)
theorem pick {vl : List V} {r : Int} (r0 : 0 ≤ r) (r1 : r < (vl.length : Int)) : ∃ v, atI vl r = some v := by
  obtain ⟨i, rfl⟩ : ∃ i : Nat, r = (i : Int) := ⟨r.toNat, by omega⟩
  have hi : i < vl.length := by omega
  exact ⟨vl[i], atI_nat (List.getElem?_eq_getElem hi)⟩
theorem ix_get {ns : List Str} (j : Nat) (hj : j < ns.length) : (ns.map V.str)[j]? = some (.str ns[j]) := by
  rw [List.getElem?_map, List.getElem?_eq_getElem hj]
  rfl
section
variable {P : Program} {w : World} {K : PySem.W.Frag} {mg : Str → Option Value} {base : Heap} {B C : Addr} {cl : Nat → Addr}
/-! ### _law_value -/
structure MkL (P : Program) (w : World) (K : PySem.W.Frag) (mg : Str → Option Value) (base : Heap) (C : Addr) : Prop where
  has : ∃ (f : Addr) (fd : FuncData), FnOk P w K mg base CX0 4 f fd ["self", "bounds"] (spInit C) ∧ Mk K C f ∧ Binds K fd ["self", "bounds"] []
def spVal : Sp := fun vs H Q _ => ∃ p : Addr, vs = [.ref p] ∧ Bag H p ∧ ∀ (v : V) (H' : Hp), Ext H H' → Q v H'
abbrev s__law_value : Stmt := (topS 39)
theorem sc__law_value : FnScope ["_law_bag_here", "_law_far", "_law_name", "_law_plain", "_law_style"] ["_law_bag_here"] (defScope s__law_value) := ⟨rfl, rfl, rfl, by decide +kernel, rfl, by decide +kernel, by decide +kernel⟩
theorem ok_val {f : Addr} {fd : FuncData} (F : Fun K "_law_value" "_law_value" s__law_value f fd) (T : BT mg) (Z : Cls16 P w K mg base B cl) (L : LT K mg C)
    (CT : Ca P w K mg base 1 "_law_take" ["_law_bag_here", "_law_many"] spTake) (CN : Ca P w K mg base 2 "_law_names" ["_law_bag_here", "_law_many"] spNamesZ) (MK : MkL P w K mg base C) :
    FnOk P w K mg base CX0 6 f fd ["_law_bag_here"] spVal := by
  obtain ⟨fK, fdK, FK, mkK, bK⟩ := MK.has
  obtain ⟨fU, dU, FU, cU, tU, bU⟩ := Z.i12.has
  refine F.ok sc__law_value (fun vs H Q E h => ?_) (fun cdv A outer s H vs Q E hr h => ?_)
  · obtain ⟨p, rfl, _⟩ := h
    rfl
  · obtain ⟨p, rfl, hb, q⟩ := h
    refine ⟨_, (pss_cons (ps_par (i := 1) (j := 2) rfl sc__law_value.nd rfl rfl (by decide) rfl rfl (pa_cons (pe_callTy call_int_str (by rfl) T.n_int (by decide +kernel) (pa_cons (pe_op op_add_str pe_str (pe_op op_repS pe_str (pe_ca CT (hr.mono (by decide)) (by rfl) (pa_cons (pv 0) (pa_cons pe_int pa_nil))))) pa_nil)) (pa_cons (pe_ix ix_list (pe_ca CN (hr.mono (by decide)) (by rfl) (pa_cons (pv 0) (pa_cons pe_int pa_nil))) pe_int (fun _ _ => rfl)) pa_nil)) (by rfl))
    (pss_cons (ps_set (i := 3) sc__law_value.nd rfl (.inl rfl) (pe_lst (pa_cons pe_int (pa_cons (pe_un un_neg pe_int) (pa_cons (pv 1) (pa_cons (pe_un un_neg (pv 1)) (pa_cons pe_bl (pa_cons pe_bl (pa_cons pe_non (pa_cons pe_str (pa_cons (pv 2) (pa_cons (pe_tup (pa_cons (pv 2) (pa_cons pe_int pa_nil))) (pa_cons (pe_tup pa_nil) (pa_cons (pe_disp (pps_cons (pv 2) (pv 1) pps_nil) (by rfl) (by rfl) (fun z => by cases z) (by decide)) (pa_cons (pe_tup (pa_cons pe_str (pa_cons pe_str (pa_cons pe_int (pa_cons pe_int pa_nil))))) pa_nil)))))))))))))))
    (pss_cons (ps_set (i := 4) sc__law_value.nd rfl (.inl rfl) (pe_ca CT (hr.mono (by decide)) (by rfl) (pa_cons (pv 0) (pa_cons (pe_op op_add (pe_callB call_len_seq (by rfl) T.n_len (by decide +kernel) (pa_cons (pv 3) pa_nil)) pe_int) pa_nil))))
    (pss_cons (ps_if (pt_cmpR op_eq (pv 4) (pe_callB call_len_seq (by rfl) T.n_len (by decide +kernel) (pa_cons (pv 3) pa_nil)) (nomark _))
      (pss_one (ps_ret (pe_make mkK FK (hr.mono (by decide)) (by rfl) L.gC bK .nil pass0 (pa_cons (pe_disp (pps_cons pe_str pe_int pps_nil) (by rfl) (by rfl) (fun z => by cases z) (by decide)) pa_nil))))
      pss_nil)
    (pss_one (ps_ret (pe_ifExp (pt_cmpR op_gt (pv 4) (pe_callB call_len_seq (by rfl) T.n_len (by decide +kernel) (pa_cons (pv 3) pa_nil)) (nomark _)) (pe_oex0 Z.x12.ox cU tU FU (hr.mono (by decide)) bU (by rfl) Z.x12.g) (pe_ix ix_list (pv 3) (pv 4) (fun _ _ => rfl))))))))), ?_⟩
    -- far
    refine ⟨_, rfl, p, 40, rfl, hb, by decide, by decide, fun r0 l0 u0 => ?_⟩
    obtain ⟨j, rfl⟩ : ∃ j : Nat, r0 = (j : Int) := ⟨r0.toNat, by omega⟩
    have hj : j < 40 := by omega
    have z24 : sizeLine = 16777216 := rfl
    have zl := far_len j hj
    refine ⟨_, j, rfl, rfl, by omega, rfl, by show (repS "0" j).length ≤ _; omega, _, _, rfl, rfl, by show 1 + (repS "0" j).length ≤ _; omega, _, _, rfl, far_int j hj, zl.1, ?_⟩
    generalize (10 : Int) ^ j = far
    refine ⟨_, rfl, p, 1, rfl, hb, by decide, by decide, fun an ys H1 e1 nan han nys nz => ?_⟩
    have ly : ys.length = 1 := nys.len
    refine ⟨an, _, 0, .str (ys[0]'(by omega)), rfl, rfl, SqL.of han, atI_nat (j := 0) (ix_get 0 (by omega)), _, _, rfl, ?_⟩
    generalize ys[0]'(by omega) = nm
    refine ⟨_, rfl, _, rfl, _, rfl, _, rfl, _, rfl, _, rfl, by show 2 ≤ sizeLine; decide, fun p1 h1 => ⟨by show 0 ≤ sizeLine; decide, fun p2 h2 => fun p3 h3 => ⟨_, rfl, _, rfl, upd_same, [(.inr nm, .int far)], rfl, by simp, by show 4 ≤ sizeLine; decide, fun p4 h4 => ⟨by show 13 ≤ sizeLine; decide, fun p5 h5 => ?_⟩⟩⟩⟩
    have y1 := Ext.new (H := H1) (o := .tup [.str nm, .int 1]) h1
    generalize upd H1 p1 _ = H2 at *
    have y2 := Ext.new (H := H2) (o := .tup []) h2
    generalize upd H2 p2 _ = H3 at *
    have y3 : Ext H3 (upd (upd H3 p3 (.dK [])) p3 (.dK (mergeK [] [(.inr nm, .int far)]))) := Ext.mut (Ext.new h3) h3
    generalize upd (upd H3 p3 (.dK [])) p3 _ = H4 at *
    have y4 := Ext.new (H := H4) (o := .tup [.str "step", .str "", .int 0, .int 1]) h4
    generalize upd H4 p4 _ = H5 at *
    have y5 := Ext.new (H := H5) (o := .lst [.int 0, .int (-1), .int far, .int (-far), .bl true, .bl false, .non, .str "", .str nm, .ref p1, .ref p2, .ref p3, .ref p4]) h5
    have a5 : (upd H5 p5 (.lst [.int 0, .int (-1), .int far, .int (-far), .bl true, .bl false, .non, .str "", .str nm, .ref p1, .ref p2, .ref p3, .ref p4])) p5 = some (.lst [.int 0, .int (-1), .int far, .int (-far), .bl true, .bl false, .non, .str "", .str nm, .ref p1, .ref p2, .ref p3, .ref p4]) := upd_same
    generalize upd H5 p5 _ = H6 at *
    have e6 := ((((e1.trans y1).trans y2).trans y3).trans y4).trans y5
    refine ⟨_, rfl, _, rfl, p5, _, rfl, .inl (SqL.of a5), _, _, rfl, rfl, p, _, rfl, hb.up e6, by show (0 : Int) < ((13 : Nat) : Int) + 2; decide, by show ((13 : Nat) : Int) + 2 < _; decide, fun st st0 st1 => ?_⟩
    have st1' : st < 15 := st1
    refine ⟨_, rfl, _, rfl, p5, _, rfl, .inl (SqL.of a5), rfl, _, rfl, ?_⟩
    refine ite2 (fun g => ?_) (fun g => ?_)
    · refine fun d0 hd0 => ⟨upd_same, [(.inr "a", .int 1)], rfl, by decide, ?_⟩
      have y7 : Ext H6 (upd (upd H6 d0 (.dK [])) d0 (.dK (mergeK [] [(.inr "a", .int 1)]))) := Ext.mut (Ext.new hd0) hd0
      have a7 : (upd (upd H6 d0 (.dK [])) d0 (.dK (mergeK [] [(.inr "a", .int 1)]))) d0 = some (.dK (kvI [("a", 1)])) := upd_same
      generalize upd (upd H6 d0 (.dK [])) d0 _ = H7 at *
      refine fun x dx nx ndx ne => ⟨H7, x, dx, d0, [("a", 1)], rfl, nx, Ext.mut (Ext.new ndx) nx, upd_same, a7, by simp, by simp, fun z hz => ?_, by simp, fun H8 ns e8 _ _ _ => ⟨rfl, q _ _ ((e6.trans y7).trans e8)⟩⟩
      rw [List.mem_singleton.mp hz]
      exact ⟨by decide +kernel, by decide⟩
    · refine ⟨_, rfl, _, rfl, p5, _, rfl, .inl (SqL.of a5), _, _, rfl, rfl, _, rfl, ?_⟩
      refine ite2 (fun g2 => ?_) (fun g2 => ?_)
      · exact fun a ha => q _ _ (e6.trans (Ext.new ha))
      · have n13 : st ≠ 13 := fun z => g (decide_eq_true (by rw [z]; rfl))
        have n14 : ¬ (13 : Int) < st := fun z => g2 (decide_eq_true z)
        obtain ⟨v, hv⟩ := pick (vl := [.int 0, .int (-1), .int far, .int (-far), .bl true, .bl false, .non, .str "", .str nm, .ref p1, .ref p2, .ref p3, .ref p4]) st0 (by show st < ((13 : Nat) : Int); omega)
        exact ⟨_, rfl, _, rfl, p5, _, _, v, rfl, rfl, SqL.of a5, hv, q _ _ e6⟩
end
end K16

set_option Elab.async false
set_option linter.all false
set_option maxRecDepth 100000
set_option maxHeartbeats 4000000
namespace K16
open PySem PySem.Spec PyProof.Rows L2 Ol
open TL (tl)
theorem sysUp {H H' : Hp} (h : Sys H) (e : Ext H H') : Sys H' := by
  obtain ⟨o, u, q⟩ := h
  exact ⟨o, u, e _ _ q⟩
theorem cutN {tf tg : TS} {D : Ends} {σ : L2.St} {H : Hp} (W : L2.St → Hp → Prop) (h1 : ∀ N : L2.St → Hp → Prop, (∀ σ' H', W σ' H' → N σ' H') → tf { D with nx := N } σ H) (h2 : ∀ σ' H', W σ' H' → tg D σ' H') : tSeq tf tg D σ H :=
  h1 _ h2
/-- what is told of the classes, as data -/
def clsD (k : Nat) : PyData := .list ((clsB k).map PyData.bool)
theorem dq_bools {H : Hp} : ∀ l : List Bool, DqAll H (l.map V.bl) (l.map PyData.bool)
  | [] => .nil
  | b :: l => .cons (.bl b) (dq_bools l)
theorem lay_all : ∀ {ds : List PyData}, (∀ d ∈ ds, d.canLay0 = true) → PyData.canLayAll0 ds = true
  | [], _ => by simp [PyData.canLayAll0]
  | d :: ds, h => by simp [PyData.canLayAll0, h d List.mem_cons_self, lay_all fun e he => h e (List.mem_cons_of_mem _ he)]
theorem cls_len (k : Nat) : (clsB k).length = 19 := by
  unfold clsB
  rw [List.length_append, List.length_map, List.length_range]
  rfl
theorem cls_gd (k : Nat) : ∀ d ∈ (clsB k).map PyData.bool, Gd 0 d := fun d hd => by
  obtain ⟨b, _, rfl⟩ := List.mem_map.mp hd
  exact gd_bl b
theorem cls_shaped (k : Nat) : SeqAt.shaped (clsD k) = true := by
  have lay : (clsD k).canLay0 = true := by
    unfold clsD
    rw [PyData.canLay0]
    refine lay_all fun d hd => ?_
    obtain ⟨b, _, rfl⟩ := List.mem_map.mp hd
    simp [PyData.canLay0]
  have dep : (clsD k).depth ≤ 64 := by
    have := (all_sh (cls_gd k)).2.1
    unfold clsD
    simp only [PyData.depth]
    omega
  unfold SeqAt.shaped
  rw [lay, decide_eq_true dep]
  rfl
theorem cls_fits (k : Nat) : Fits (clsD k) := by
  obtain ⟨h1, h2, h3, h4⟩ := all_sh (cls_gd k)
  refine ⟨by simpa [clsD, PyData.showable] using h1, by unfold clsD; simp only [PyData.depth]; omega, ?_⟩
  unfold clsD
  simp only [PyData.shown]
  have z := pile_le _ h3
  have z1 := listText_le (PyData.shownAll ((clsB k).map PyData.bool))
  rw [h4, List.length_map, cls_len] at z
  exact Nat.le_trans (show _ ≤ 19 * (200 * 8 ^ 0 + 2) + 2 by omega) (by decide)
section
variable {P : Program} {w : World} {K : PySem.W.Frag} {mg : Str → Option Value} {base : Heap} {B C : Addr} {cl : Nat → Addr}
/-! ### the law -/
abbrev s_law : Stmt := (topS 41)
abbrev nLaw : List Str := ["_law_script", "_law_bag_here", "_law_turn", "_law_k", "_law_one", "_law_two", "_law_due", "_law_shown", "_law_told", "_law_j"]
theorem sc_law : FnScope nLaw ["_law_script"] (defScope s_law) := ⟨rfl, rfl, rfl, by decide +kernel, rfl, by decide +kernel, by decide +kernel⟩
def spLaw (K : PySem.W.Frag) : Sp := fun vs H Q _ => ∃ (a : Addr) (ns : List Int), vs = [.ref a] ∧ Sys H ∧ SqL K H a (ns.map V.int) ∧ ns.length ≤ 63 ∧ ∀ H', Q (.bl true) H'
theorem ok_law {f : Addr} {fd : FuncData} (F : Fun K "law" "law" s_law f fd) (T : BT mg) (n_min : mg "min" = none)
    (CB : Ca P w K mg base 1 "_law_bag" ["_law_script"] (spBag K)) (CT : Ca P w K mg base 1 "_law_take" ["_law_bag_here", "_law_many"] spTake) (CVa : Ca P w K mg base 6 "_law_value" ["_law_bag_here"] spVal)
    (CTa : Ca P w K mg base 5 "_law_taken" pRa (spTaken cl)) (CA : Cg P w K mg base 1 "_law_alike" ["_law_found", "_law_due"] spAlike) :
    FnG P w K mg base 8 f fd ["_law_script"] (spLaw K) := by
  refine okG F sc_law (fun vs H Q E h => ?_) (fun cdv A outer s H vs Q E hG hr h => ?_)
  · obtain ⟨a, ns, rfl, _⟩ := h
    rfl
  · obtain ⟨a, zs0, rfl, hS, hs, hl, q⟩ := h
    refine ⟨_, (pss_cons (ps_set (i := 1) sc_law.nd rfl (.inl rfl) (pe_ca CB (hr.mono (by decide)) (by rfl) (pa_cons (pv 0) pa_nil)))
    (pss_cons (ps_for PassesOwn.never rfl (pi_range1 (by rfl) T.n_range (pa_cons pe_int pa_nil)) (pg_name (i := 2) sc_law.nd rfl (.inl rfl))
      (pss_cons (ps_set (i := 3) sc_law.nd rfl (.inr rfl) (pe_ca CT (hr.mono (by decide)) (by rfl) (pa_cons (pv 1) (pa_cons pe_int pa_nil))))
      (pss_cons (ps_par (i := 4) (j := 5) rfl sc_law.nd rfl rfl (by decide) rfl rfl (pa_cons (pe_lst (pa_cons (pe_ca CVa (hr.mono (by decide)) (by rfl) (pa_cons (pv 1) pa_nil)) pa_nil)) (pa_cons (pe_lst (pa_cons (pe_ca CVa (hr.mono (by decide)) (by rfl) (pa_cons (pv 1) pa_nil)) pa_nil)) pa_nil)) (by rfl))
      (pss_cons (ps_set (i := 6) sc_law.nd rfl (.inl rfl) (pe_op op_cat (pe_lc (own := [("_law_j", 9)]) (g := gName 9) (tt := tYes) rfl sc_law.nd (pi_range1 (by rfl) T.n_range (pa_cons pe_int pa_nil)) (blkOk_by (N := nLaw) (sc := defScope s_law) (by decide +kernel)) (fun _ _ _ _ _ => (pg_name (i := 9) sc_law.nd rfl (.inl rfl))) (fun _ _ _ _ _ => pts_nil) (fun _ _ _ _ _ => (pe_cmpR op_eq (pv 9) (pv 3) (nomark _)))) (pe_lst (pa_cons pe_bl (pa_cons pe_bl (pa_cons pe_bl pa_nil))))))
      (pss_cons (ps_set (i := 7) sc_law.nd rfl (.inl rfl) (pe_ifExp (pt_cmpR op_lt (pv 3) pe_int (nomark _)) (pe_ix ix_list (pe_lst (pa_cons (pe_lst (pa_cons (pv 4) pa_nil)) (pa_cons (pe_lst (pa_cons (pv 4) pa_nil)) (pa_cons (pe_lst (pa_cons (pv 4) (pa_cons (pv 5) pa_nil))) (pa_cons (pe_lst (pa_cons (pv 4) pa_nil)) pa_nil))))) (pe_callB (call_min2 rfl) (by rfl) n_min (by decide +kernel) (pa_cons (pv 3) (pa_cons pe_int pa_nil))) (fun _ _ => rfl)) (pe_lst pa_nil)))
      (pss_cons (ps_set (i := 8) sc_law.nd rfl (.inl rfl) (pe_ca CTa (hr.mono (by decide)) (by rfl) (pa_cons (pv 3) (pa_cons (pv 4) (pa_cons (pv 5) pa_nil)))))
      (pss_cons (ps_if (PW.pt (pw_or (pt_cmpR op_ne (pe_callB call_len_seq (by rfl) T.n_len (by decide +kernel) (pa_cons (pv 8) pa_nil)) pe_int (nomark _)) (pw_or (pt_not (pt_val (pe_cg CA hG (hr.mono (by decide)) (by rfl) (pa_cons (pe_ix ix_list (pv 8) pe_int (fun _ _ => rfl)) (pa_cons (pv 6) pa_nil))))) (pw_or1 (pt_cmpR (op_neId hr) (pe_ix ix_list (pv 8) pe_int (fun _ _ => rfl)) (pv 7) (nomark _))))))
        (pss_one (ps_ret pe_bl))
        pss_nil)
      (pss_cons (ps_expr (pe_bm PySem.F.plainAttrs_list PySem.F.slot_list_append PySem.F.type_list_append mt_append (pv 4) (pa_cons pe_str pa_nil)))
      (pss_cons (ps_expr (pe_bm PySem.F.plainAttrs_list PySem.F.slot_list_append PySem.F.type_list_append mt_append (pv 5) (pa_cons pe_str pa_nil)))
      (pss_cons (ps_if (PW.pt (pw_and (pt_cmpR op_eq (pv 3) pe_int (nomark _)) (pw_and1 (pt_cmpR op_ne (pe_ix ix_list (pe_ix ix_list (pe_ix ix_list (pv 8) pe_int (fun _ _ => rfl)) pe_int (fun _ _ => rfl)) (pe_un un_neg pe_int) (fun _ _ => rfl)) pe_str (nomark _)))))
        (pss_one (ps_ret pe_bl))
        pss_nil)
      (pss_one (ps_if (PW.pt (pw_or (pt_cmpR (op_neId hr) (pe_ix ix_list (pv 8) pe_int (fun _ _ => rfl)) (pv 7) (nomark _)) (pw_or1 (PW.pt (pw_and (pt_cmpR op_lt (pv 3) pe_int (nomark _)) (pw_and1 (pt_cmpR op_ne (pe_ix ix_list (pe_ix ix_list (pe_ix ix_list (pv 8) pe_int (fun _ _ => rfl)) pe_int (fun _ _ => rfl)) (pe_un un_neg pe_int) (fun _ _ => rfl)) pe_str (nomark _))))))))
        (pss_one (ps_ret pe_bl))
        pss_nil))))))))))))
    (pss_one (ps_ret pe_bl)))), ?_⟩
    refine ⟨_, rfl, a, zs0, rfl, hs, by omega, fun p H1 e1 hb => ?_⟩
    have S1 := sysUp hS e1
    refine ⟨_, rfl, by decide, by decide, for_range (n := 6) (fun i σ H' => ∃ s2 s3 s4 s5 s6 s7 s8, σ = [some (.ref a), some (.ref p), s2, s3, s4, s5, s6, s7, s8, none] ∧ Ext H1 H')
      ⟨none, none, none, none, none, none, none, rfl, Ext.refl _⟩ ?_ ?_⟩
    · rintro i σ H' hi ⟨s2, s3, s4, s5, s6, s7, s8, rfl, e⟩
      have hbE := hb.up e
      refine ⟨_, rfl, p, 16, rfl, hbE, by decide, by decide, fun r r0 r1 => ?_⟩
      obtain ⟨k, rfl⟩ : ∃ k : Nat, r = (k : Int) := ⟨r.toNat, by omega⟩
      have hk : k < 16 := by omega
      refine ⟨_, rfl, p, rfl, hbE, fun v1 H2 e2 => ⟨by show 1 ≤ sizeLine; decide, fun a1 n1 => ⟨_, rfl, p, rfl, (hbE.up e2).up (Ext.new n1), fun v2 H3 e3 => ⟨by show 1 ≤ sizeLine; decide, fun a2 n2 => ⟨_, _, rfl, ?_⟩⟩⟩⟩⟩
      have x1 := Ext.new (H := H2) (o := .lst [v1]) n1
      have k1 : (upd H2 a1 (.lst [v1])) a1 = some (.lst [v1]) := upd_same
      generalize upd H2 a1 _ = H2' at *
      have x2 := Ext.new (H := H3) (o := .lst [v2]) n2
      have k2 : (upd H3 a2 (.lst [v2])) a2 = some (.lst [v2]) := upd_same
      have f1 : H1 a1 = none := (e.trans e2).free n1
      have f2 : H1 a2 = none := (((e.trans e2).trans x1).trans e3).free n2
      have n12 : a2 ≠ a1 := fun z => by rw [z, e3 _ _ k1] at n2; cases n2
      generalize upd H3 a2 _ = H4 at *
      have k1' := x2 _ _ (e3 _ _ k1)
      have e4 := (((e.trans e2).trans x1).trans e3).trans x2
      -- what is due of the classes
      refine ⟨_, rfl, by decide, by decide, fun D hD => ?_⟩
      refine lc1_acc walk_range (fun j zs _ => zs = ((List.range j).map (fun j => decide (j = k))).map V.bl ∧ j ≤ 16) (fun _ _ _ _ _ h => h) ⟨rfl, by decide⟩ hD (fun j zs _ h => by rw [h.1, List.length_map, List.length_map, List.length_range]; exact Nat.lt_of_le_of_lt h.2 (by decide)) (fun _ _ => trivial) ?_ ?_
      · rintro j x Hi H5 zs hj e5 hy ⟨rfl, rfl⟩ ⟨hz, _⟩ QY QN kY kN
        refine ⟨rfl, tyes ⟨_, rfl, _, rfl, rfl, kY _ _ (Ext.refl _) ⟨?_, by omega⟩⟩⟩
        rw [hz, List.range_succ, List.map_append, List.map_append, List.map_singleton, List.map_singleton]
        congr 2
        have : decide (V.int (0 + (j : Int)) = V.int (k : Int)) = decide (j = k) := by
          by_cases c : j = k
          · rw [c, Int.zero_add, decide_eq_true rfl, decide_eq_true rfl]
          · rw [decide_eq_false c, decide_eq_false (fun z => by injection z with z; omega)]
        rw [this]
      rintro H5 zs e5 hD5 ⟨hz, _⟩
      refine ⟨by show 3 ≤ sizeLine; decide, fun t3 n3 => ?_⟩
      have x3 := Ext.new (H := H5) (o := .lst [.bl true, .bl true, .bl false]) n3
      have k3 : (upd H5 t3 (.lst [.bl true, .bl true, .bl false])) t3 = some (.lst [.bl true, .bl true, .bl false]) := upd_same
      generalize upd H5 t3 _ = H6 at *
      have hD6 := x3 _ _ hD5
      have lz : zs.length = 16 := by rw [hz, List.length_map, List.length_map, List.length_range]; rfl
      refine ⟨D, t3, zs, _, rfl, rfl, hD6, k3, by rw [lz]; show 16 + 3 ≤ _; decide, fun du ndu => ?_⟩
      have x4 := Ext.new (H := H6) (o := .lst (zs ++ [.bl true, .bl true, .bl false])) ndu
      have k4 : (upd H6 du (.lst (zs ++ [.bl true, .bl true, .bl false]))) du = some (.lst ((clsB k).map V.bl)) := by
        rw [upd_same, hz]
        unfold clsB
        rw [List.map_append (f := V.bl)]
        rfl
      generalize upd H6 du _ = H7 at *
      have e47 := (e5.trans x3).trans x4
      have ha1 := e47 _ _ k1'
      have ha2 := e47 _ _ k2
      dsimp only [gName]
      -- what is shown
      refine cutN (fun σ' G => ∃ (sh : Addr) (rs : List Addr), σ' = [some (.ref a), some (.ref p), some (.int (0 + (i : Int))), some (.int (k : Int)), some (.ref a1), some (.ref a2), some (.ref du), some (.ref sh), s8, none] ∧ Ext H7 G ∧ H7 sh = none ∧ G sh = some (.lst (rs.map V.ref)) ∧ valsOf k (.ref a1) (.ref a2) = rs.map V.ref) (fun N hN => ?_) ?_
      · refine ⟨_, rfl, _, _, rfl, rfl, _, rfl, ?_⟩
        refine ite2 (fun g => ?_) (fun g => ?_)
        · have g' : k < 12 := by
            have := of_decide_eq_true g
            omega
          refine ⟨_, rfl, by show 1 ≤ sizeLine; decide, fun b1 m1 => ⟨_, rfl, by show 1 ≤ sizeLine; decide, fun b2 m2 => ⟨_, rfl, _, rfl, by show 2 ≤ sizeLine; decide, fun b3 m3 => ⟨_, rfl, by show 1 ≤ sizeLine; decide, fun b4 m4 => ⟨by show 4 ≤ sizeLine; decide, fun bl mbl => ⟨_, rfl, _, _, rfl, ?_⟩⟩⟩⟩⟩⟩
          have z1 := Ext.new (H := H7) (o := .lst [.ref a1]) m1
          have w1 : (upd H7 b1 (.lst [.ref a1])) b1 = some (.lst ([a1].map V.ref)) := upd_same
          generalize upd H7 b1 _ = G1 at *
          have z2 := Ext.new (H := G1) (o := .lst [.ref a1]) m2
          have w2 : (upd G1 b2 (.lst [.ref a1])) b2 = some (.lst ([a1].map V.ref)) := upd_same
          have nb2 := z1.free m2
          generalize upd G1 b2 _ = G2 at *
          have z12 := z1.trans z2
          have z3 := Ext.new (H := G2) (o := .lst [.ref a1, .ref a2]) m3
          have w3 : (upd G2 b3 (.lst [.ref a1, .ref a2])) b3 = some (.lst ([a1, a2].map V.ref)) := upd_same
          have nb3 := z12.free m3
          generalize upd G2 b3 _ = G3 at *
          have z13 := z12.trans z3
          have z4 := Ext.new (H := G3) (o := .lst [.ref a1]) m4
          have w4 : (upd G3 b4 (.lst [.ref a1])) b4 = some (.lst ([a1].map V.ref)) := upd_same
          have nb4 := z13.free m4
          generalize upd G3 b4 _ = G4 at *
          have z14 := z13.trans z4
          have z5 := Ext.new (H := G4) (o := .lst [.ref b1, .ref b2, .ref b3, .ref b4]) mbl
          have w5 : (upd G4 bl (.lst [.ref b1, .ref b2, .ref b3, .ref b4])) bl = some (.lst [.ref b1, .ref b2, .ref b3, .ref b4]) := upd_same
          generalize upd G4 bl _ = G5 at *
          have z15 := z14.trans z5
          have c : k = 0 ∨ k = 1 ∨ k = 2 ∨ 3 ≤ k := by omega
          rcases c with rfl | rfl | rfl | c
          · exact ⟨bl, _, 0, .ref b1, rfl, rfl, SqL.of w5, by rfl, hN _ _ ⟨b1, [a1], rfl, z15, m1, (((z2.trans z3).trans z4).trans z5) _ _ w1, rfl⟩⟩
          · exact ⟨bl, _, 1, .ref b2, rfl, rfl, SqL.of w5, by rfl, hN _ _ ⟨b2, [a1], rfl, z15, nb2, ((z3.trans z4).trans z5) _ _ w2, rfl⟩⟩
          · exact ⟨bl, _, 2, .ref b3, rfl, rfl, SqL.of w5, by rfl, hN _ _ ⟨b3, [a1, a2], rfl, z15, nb3, (z4.trans z5) _ _ w3, rfl⟩⟩
          · have m3 : (if (3 : Int) < (k : Int) then (3 : Int) else (k : Int)) = 3 := by
              split <;> omega
            rw [m3]
            exact ⟨bl, _, 3, .ref b4, rfl, rfl, SqL.of w5, by rfl, hN _ _ ⟨b4, [a1], rfl, z15, nb4, z5 _ _ w4, by unfold valsOf; rw [if_neg (by omega), if_pos g']; rfl⟩⟩
        · have g' : ¬ k < 12 := fun z => g (decide_eq_true (by omega))
          refine ⟨by show 0 ≤ sizeLine; decide, fun b1 m1 => hN _ _ ⟨b1, [], rfl, Ext.new m1, m1, upd_same, ?_⟩⟩
          unfold valsOf
          rw [if_neg (by omega), if_neg g']
          rfl
      rintro σ' G ⟨sh, rs, rfl, eG, nsh, hsh, hvals⟩
      have S7 := sysUp S1 (e4.trans (e47.trans eG))
      refine ⟨_, rfl, _, rfl, _, rfl, k, .ref a1, .ref a2, rfl, hk, fun lt lc lf G2 nlt nlc nlf eT h1 h2 h3 => ?_⟩
      rw [hvals] at h3
      have hG1 := (eG.trans eT) _ _ ha1
      have hG2 := (eG.trans eT) _ _ ha2
      have hdu := (eG.trans eT) _ _ k4
      have hsh2 := eT _ _ hsh
      have S8 := sysUp S7 eT
      refine ⟨_, rfl, lt, _, rfl, .inl (SqL.of h1), rfl, _, rfl, ?_⟩
      refine iteF ?_
      refine ⟨_, rfl, lt, _, 0, .ref lc, rfl, rfl, SqL.of h1, by rfl, _, rfl, .ref lc, .ref du, clsD k, rfl, S8, .lst h2 (dq_bools _), .lst hdu (dq_bools _), cls_shaped k, cls_fits k, fun G3 e3' => ⟨_, rfl, ?_⟩⟩
      refine iteF ?_
      have h1' := e3' _ _ h1
      refine ⟨_, rfl, lt, _, 1, .ref lf, rfl, rfl, SqL.of h1', by rfl, _, rfl, lf, sh, rs, rfl, rfl, SqL.of (e3' _ _ h3), SqL.of (e3' _ _ hsh2), _, rfl, ?_⟩
      refine iteF ?_
      have hG1' := e3' _ _ hG1
      have hG2' := e3' _ _ hG2
      have base3 := ((e4.trans (e47.trans eG)).trans eT).trans e3'
      -- changed behind
      have nl1 : lt ≠ a1 := fun z => by rw [z, eG _ _ ha1] at nlt; cases nlt
      have nl2 : lt ≠ a2 := fun z => by rw [z, eG _ _ ha2] at nlt; cases nlt
      have nf1 : lf ≠ a1 := fun z => by rw [z, eG _ _ ha1] at nlf; cases nlf
      have nf2 : lf ≠ a2 := fun z => by rw [z, eG _ _ ha2] at nlf; cases nlf
      have ns1 : sh ≠ a1 := fun z => by rw [z, ha1] at nsh; cases nsh
      have ns2 : sh ≠ a2 := fun z => by rw [z, ha2] at nsh; cases nsh
      have h3' := e3' _ _ h3
      have hsh3 := e3' _ _ hsh2
      refine ⟨_, rfl, .inl ⟨rfl, _, SqL.of hG1'⟩, a1, _, _, rfl, rfl, hG1', by show 1 < 16777216; decide, ?_⟩
      have b1 : Ext H1 (upd G3 a1 (.lst ([v1] ++ [.str "more"]))) := Ext.mut base3 f1
      have t1 : (upd G3 a1 (.lst ([v1] ++ [.str "more"]))) a1 = some (.lst [v1, .str "more"]) := upd_same
      have u1 : (upd G3 a1 (.lst ([v1] ++ [.str "more"]))) a2 = some (.lst [v2]) := by rw [upd_ne n12]; exact hG2'
      have u2 : (upd G3 a1 (.lst ([v1] ++ [.str "more"]))) lt = some (.lst [.ref lc, .ref lf]) := by rw [upd_ne nl1]; exact h1'
      have u3 : (upd G3 a1 (.lst ([v1] ++ [.str "more"]))) lf = some (.lst (rs.map V.ref)) := by rw [upd_ne nf1]; exact h3'
      have u4 : (upd G3 a1 (.lst ([v1] ++ [.str "more"]))) sh = some (.lst (rs.map V.ref)) := by rw [upd_ne ns1]; exact hsh3
      generalize upd G3 a1 _ = G4 at *
      refine ⟨_, rfl, .inl ⟨rfl, _, SqL.of u1⟩, a2, _, _, rfl, rfl, u1, by show 1 < 16777216; decide, ?_⟩
      have b2 : Ext H1 (upd G4 a2 (.lst ([v2] ++ [.str "again"]))) := Ext.mut b1 f2
      have w1 : (upd G4 a2 (.lst ([v2] ++ [.str "again"]))) a1 = some (.lst [v1, .str "more"]) := by rw [upd_ne (Ne.symm n12)]; exact t1
      have w0 : (upd G4 a2 (.lst ([v2] ++ [.str "again"]))) a2 = some (.lst [v2, .str "again"]) := upd_same
      have w2 : (upd G4 a2 (.lst ([v2] ++ [.str "again"]))) lt = some (.lst [.ref lc, .ref lf]) := by rw [upd_ne nl2]; exact u2
      have w3 : (upd G4 a2 (.lst ([v2] ++ [.str "again"]))) lf = some (.lst (rs.map V.ref)) := by rw [upd_ne nf2]; exact u3
      have w4 : (upd G4 a2 (.lst ([v2] ++ [.str "again"]))) sh = some (.lst (rs.map V.ref)) := by rw [upd_ne ns2]; exact u4
      generalize upd G4 a2 _ = G5 at *
      have fin : ∃ s2 s3 s4 s5 s6 s7 s8, [some (V.ref a), some (.ref p), some (.int (0 + (i : Int))), some (.int (k : Int)), some (.ref a1), some (.ref a2), some (.ref du), some (.ref sh), some (.ref lt), none] = [some (V.ref a), some (.ref p), s2, s3, s4, s5, s6, s7, s8, none] ∧ Ext H1 G5 := ⟨_, _, _, _, _, _, _, rfl, b2⟩
      have last : k < 12 → ∃ rs', rs = a1 :: rs' := fun c => by
        unfold valsOf at hvals
        by_cases c2 : k = 2
        · rw [if_pos c2] at hvals
          cases rs with
          | nil => cases hvals
          | cons x t =>
            simp only [List.map_cons, List.cons.injEq, V.ref.injEq] at hvals
            exact ⟨t, by rw [hvals.1]⟩
        · rw [if_neg c2, if_pos c] at hvals
          cases rs with
          | nil => cases hvals
          | cons x t =>
            simp only [List.map_cons, List.cons.injEq, V.ref.injEq] at hvals
            exact ⟨t, by rw [hvals.1]⟩
      dsimp only [gName]
      refine cutN (fun σ' G => σ' = [some (V.ref a), some (.ref p), some (.int (0 + (i : Int))), some (.int (k : Int)), some (.ref a1), some (.ref a2), some (.ref du), some (.ref sh), some (.ref lt), none] ∧ G = G5) (fun N hN => ?_) ?_
      · refine ⟨_, rfl, rfl, _, rfl, ?_⟩
        refine ite2 (fun g => ?_) (fun _ => hN _ _ ⟨rfl, rfl⟩)
        have k2 : k = 2 := k_eq (i := 2) g
        subst k2
        have er : rs = [a1, a2] := by
          have z : [V.ref a1, V.ref a2] = rs.map V.ref := hvals
          match rs, z with
          | [x, y], z =>
            simp only [List.map_cons, List.map_nil, List.cons.injEq, V.ref.injEq] at z
            rw [z.1, z.2.1]
        subst er
        refine ⟨_, rfl, lt, _, 1, .ref lf, rfl, rfl, SqL.of w2, by rfl, lf, _, 1, .ref a2, rfl, rfl, SqL.of w3, by rfl, _, rfl, a2, _, _, .str "again", rfl, rfl, SqL.of w0, by rfl, rfl, _, rfl, ?_⟩
        exact iteNS rfl (hN _ _ ⟨rfl, rfl⟩)
      rintro σ' G6 ⟨rfl, rfl⟩
      refine ⟨_, rfl, lt, _, 1, .ref lf, rfl, rfl, SqL.of w2, by rfl, _, rfl, lf, sh, rs, rfl, rfl, SqL.of w3, SqL.of w4, _, rfl, ?_⟩
      refine iteF ?_
      refine ⟨_, rfl, _, _, rfl, rfl, _, rfl, ?_⟩
      refine ite2 (fun g => ?_) (fun _ => fin)
      have g' : k < 12 := by
        have := of_decide_eq_true g
        omega
      obtain ⟨rs', rfl⟩ := last g'
      refine ⟨_, rfl, lt, _, 1, .ref lf, rfl, rfl, SqL.of w2, by rfl, lf, _, 0, .ref a1, rfl, rfl, SqL.of w3, atI_nat (j := 0) rfl, _, rfl, a1, _, _, .str "more", rfl, rfl, SqL.of w1, by rfl, rfl, _, rfl, ?_⟩
      exact iteNS rfl fin
    · rintro σ H' ⟨s2, s3, s4, s5, s6, s7, s8, rfl, e⟩
      exact q _
end
end K16

set_option Elab.async false
set_option linter.all false
set_option maxRecDepth 100000
set_option maxHeartbeats 4000000
namespace K16
open PySem PySem.Spec PyProof.Rows L2 Ol
def clF (l : List Addr) (k : Nat) : Addr := l.getD k 0
theorem all16 {p : Nat → Prop} (h0 : p 0) (h1 : p 1) (h2 : p 2) (h3 : p 3) (h4 : p 4) (h5 : p 5) (h6 : p 6) (h7 : p 7) (h8 : p 8) (h9 : p 9) (h10 : p 10) (h11 : p 11) (h12 : p 12) (h13 : p 13) (h14 : p 14) (h15 : p 15) : ∀ k, k < 16 → p k := fun k hk => by
  have : k = 0 ∨ k = 1 ∨ k = 2 ∨ k = 3 ∨ k = 4 ∨ k = 5 ∨ k = 6 ∨ k = 7 ∨ k = 8 ∨ k = 9 ∨ k = 10 ∨ k = 11 ∨ k = 12 ∨ k = 13 ∨ k = 14 ∨ k = 15 := by omega
  rcases this with rfl | rfl | rfl | rfl | rfl | rfl | rfl | rfl | rfl | rfl | rfl | rfl | rfl | rfl | rfl | rfl <;> assumption
theorem all_mk {l : PySem.W.OpenLaw} {w : World} {K : PySem.W.Frag} {h : Heap} {mg : Str → Option Value} {fa C B R0 R1 R2 R3 R4 R5 R6 R7 R8 R9 R10 R11 R12 R13 R14 R15 : Addr} (X : K.In h) (G : h.Ns mainGlobals mg) (hfa : mg "law" = some (.ref fa))
    {f0 : Addr} {od0 an0 : Option Addr} {sl0 : Array (Option Value)} {oc0 kV0 dc0 pm0 cd0 ct0 : Value}
    (a0 : PySem.W.nsIn K mainGlobals "is_integer" = some (some (.ref f0)))
    (l0 : K.lookup f0 = some ⟨oc0, od0, .func (PySem.W.fnOf "is_integer" "is_integer" (defArgs s_is_integer) (defBody s_is_integer) (defScope s_is_integer) .none kV0 dc0 pm0 an0 cd0 ct0), sl0⟩)
    (c0 : PySem.W.codeIn K cd0 "is_integer" = true) (k0 : PySem.W.keepIn K (.ref f0) = true)
    {f1 : Addr} {od1 an1 : Option Addr} {sl1 : Array (Option Value)} {oc1 kV1 dc1 pm1 cd1 ct1 : Value}
    (a1 : PySem.W.nsIn K mainGlobals "is_name" = some (some (.ref f1)))
    (l1 : K.lookup f1 = some ⟨oc1, od1, .func (PySem.W.fnOf "is_name" "is_name" (defArgs s_is_name) (defBody s_is_name) (defScope s_is_name) .none kV1 dc1 pm1 an1 cd1 ct1), sl1⟩)
    (c1 : PySem.W.codeIn K cd1 "is_name" = true) (k1 : PySem.W.keepIn K (.ref f1) = true)
    {f2 : Addr} {od2 an2 : Option Addr} {sl2 : Array (Option Value)} {oc2 kV2 dc2 pm2 cd2 ct2 : Value}
    (a2 : PySem.W.nsIn K mainGlobals "is_bound" = some (some (.ref f2)))
    (l2 : K.lookup f2 = some ⟨oc2, od2, .func (PySem.W.fnOf "is_bound" "is_bound" (defArgs s_is_bound) (defBody s_is_bound) (defScope s_is_bound) .none kV2 dc2 pm2 an2 cd2 ct2), sl2⟩)
    (c2 : PySem.W.codeIn K cd2 "is_bound" = true) (k2 : PySem.W.keepIn K (.ref f2) = true)
    {f3 : Addr} {od3 an3 : Option Addr} {sl3 : Array (Option Value)} {oc3 kV3 dc3 pm3 cd3 ct3 : Value}
    (a3 : PySem.W.nsIn K mainGlobals "is_bounds" = some (some (.ref f3)))
    (l3 : K.lookup f3 = some ⟨oc3, od3, .func (PySem.W.fnOf "is_bounds" "is_bounds" (defArgs s_is_bounds) (defBody s_is_bounds) (defScope s_is_bounds) .none kV3 dc3 pm3 an3 cd3 ct3), sl3⟩)
    (c3 : PySem.W.codeIn K cd3 "is_bounds" = true) (k3 : PySem.W.keepIn K (.ref f3) = true)
    {f4 : Addr} {od4 an4 : Option Addr} {sl4 : Array (Option Value)} {oc4 kV4 dc4 pm4 cd4 ct4 : Value}
    (a4 : PySem.W.nsIn K mainGlobals "_law_bag" = some (some (.ref f4)))
    (l4 : K.lookup f4 = some ⟨oc4, od4, .func (PySem.W.fnOf "_law_bag" "_law_bag" (defArgs s__law_bag) (defBody s__law_bag) (defScope s__law_bag) .none kV4 dc4 pm4 an4 cd4 ct4), sl4⟩)
    (c4 : PySem.W.codeIn K cd4 "_law_bag" = true) (k4 : PySem.W.keepIn K (.ref f4) = true)
    {f5 : Addr} {od5 an5 : Option Addr} {sl5 : Array (Option Value)} {oc5 kV5 dc5 pm5 cd5 ct5 : Value}
    (a5 : PySem.W.nsIn K mainGlobals "_law_take" = some (some (.ref f5)))
    (l5 : K.lookup f5 = some ⟨oc5, od5, .func (PySem.W.fnOf "_law_take" "_law_take" (defArgs s__law_take) (defBody s__law_take) (defScope s__law_take) .none kV5 dc5 pm5 an5 cd5 ct5), sl5⟩)
    (c5 : PySem.W.codeIn K cd5 "_law_take" = true) (k5 : PySem.W.keepIn K (.ref f5) = true)
    {f6 : Addr} {od6 an6 : Option Addr} {sl6 : Array (Option Value)} {oc6 kV6 dc6 pm6 cd6 ct6 : Value}
    (a6 : PySem.W.nsIn K mainGlobals "_law_alike" = some (some (.ref f6)))
    (l6 : K.lookup f6 = some ⟨oc6, od6, .func (PySem.W.fnOf "_law_alike" "_law_alike" (defArgs s__law_alike) (defBody s__law_alike) (defScope s__law_alike) .none kV6 dc6 pm6 an6 cd6 ct6), sl6⟩)
    (c6 : PySem.W.codeIn K cd6 "_law_alike" = true) (k6 : PySem.W.keepIn K (.ref f6) = true)
    {f7 : Addr} {od7 an7 : Option Addr} {sl7 : Array (Option Value)} {oc7 kV7 dc7 pm7 cd7 ct7 : Value}
    (a7 : PySem.W.nsIn K mainGlobals "_law_names" = some (some (.ref f7)))
    (l7 : K.lookup f7 = some ⟨oc7, od7, .func (PySem.W.fnOf "_law_names" "_law_names" (defArgs s__law_names) (defBody s__law_names) (defScope s__law_names) .none kV7 dc7 pm7 an7 cd7 ct7), sl7⟩)
    (c7 : PySem.W.codeIn K cd7 "_law_names" = true) (k7 : PySem.W.keepIn K (.ref f7) = true)
    {f8 : Addr} {od8 an8 : Option Addr} {sl8 : Array (Option Value)} {oc8 kV8 dc8 pm8 cd8 ct8 : Value}
    (a8 : PySem.W.nsIn K mainGlobals "_law_raise" = some (some (.ref f8)))
    (l8 : K.lookup f8 = some ⟨oc8, od8, .func (PySem.W.fnOf "_law_raise" "_law_raise" (defArgs s_raise) (defBody s_raise) (defScope s_raise) .none kV8 dc8 pm8 an8 cd8 ct8), sl8⟩)
    (c8 : PySem.W.codeIn K cd8 "_law_raise" = true) (k8 : PySem.W.keepIn K (.ref f8) = true)
    {f9 : Addr} {od9 an9 : Option Addr} {sl9 : Array (Option Value)} {oc9 kV9 dc9 pm9 cd9 ct9 : Value}
    (a9 : PySem.W.nsIn K mainGlobals "_law_classes" = some (some (.ref f9)))
    (l9 : K.lookup f9 = some ⟨oc9, od9, .func (PySem.W.fnOf "_law_classes" "_law_classes" (defArgs s_cls) (defBody s_cls) (defScope s_cls) .none kV9 dc9 pm9 an9 cd9 ct9), sl9⟩)
    (c9 : PySem.W.codeIn K cd9 "_law_classes" = true) (k9 : PySem.W.keepIn K (.ref f9) = true)
    {f10 : Addr} {od10 an10 : Option Addr} {sl10 : Array (Option Value)} {oc10 kV10 dc10 pm10 cd10 ct10 : Value}
    (a10 : PySem.W.nsIn K mainGlobals "_law_fields" = some (some (.ref f10)))
    (l10 : K.lookup f10 = some ⟨oc10, od10, .func (PySem.W.fnOf "_law_fields" "_law_fields" (defArgs s_fi) (defBody s_fi) (defScope s_fi) .none kV10 dc10 pm10 an10 cd10 ct10), sl10⟩)
    (c10 : PySem.W.codeIn K cd10 "_law_fields" = true) (k10 : PySem.W.keepIn K (.ref f10) = true)
    {f11 : Addr} {od11 an11 : Option Addr} {sl11 : Array (Option Value)} {oc11 kV11 dc11 pm11 cd11 ct11 : Value}
    (a11 : PySem.W.nsIn K mainGlobals "_law_value" = some (some (.ref f11)))
    (l11 : K.lookup f11 = some ⟨oc11, od11, .func (PySem.W.fnOf "_law_value" "_law_value" (defArgs s__law_value) (defBody s__law_value) (defScope s__law_value) .none kV11 dc11 pm11 an11 cd11 ct11), sl11⟩)
    (c11 : PySem.W.codeIn K cd11 "_law_value" = true) (k11 : PySem.W.keepIn K (.ref f11) = true)
    {f12 : Addr} {od12 an12 : Option Addr} {sl12 : Array (Option Value)} {oc12 kV12 dc12 pm12 cd12 ct12 : Value}
    (a12 : PySem.W.nsIn K mainGlobals "_law_taken" = some (some (.ref f12)))
    (l12 : K.lookup f12 = some ⟨oc12, od12, .func (PySem.W.fnOf "_law_taken" "_law_taken" (defArgs s_tk) (defBody s_tk) (defScope s_tk) .none kV12 dc12 pm12 an12 cd12 ct12), sl12⟩)
    (c12 : PySem.W.codeIn K cd12 "_law_taken" = true) (k12 : PySem.W.keepIn K (.ref f12) = true)
    {f13 : Addr} {od13 an13 : Option Addr} {sl13 : Array (Option Value)} {oc13 kV13 dc13 pm13 cd13 ct13 : Value}
    (a13 : PySem.W.nsIn K mainGlobals "law" = some (some (.ref f13)))
    (l13 : K.lookup f13 = some ⟨oc13, od13, .func (PySem.W.fnOf "law" "law" (defArgs s_law) (defBody s_law) (defScope s_law) .none kV13 dc13 pm13 an13 cd13 ct13), sl13⟩)
    (c13 : PySem.W.codeIn K cd13 "law" = true) (k13 : PySem.W.keepIn K (.ref f13) = true)
    (aGC : PySem.W.nsIn K mainGlobals "Lanes" = some (some (.ref C)))
    (aGB : PySem.W.nsIn K mainGlobals "LaneError" = some (some (.ref B)))
    (aGR0 : PySem.W.nsIn K mainGlobals "Wrong" = some (some (.ref R0)))
    (aGR1 : PySem.W.nsIn K mainGlobals "NoLane" = some (some (.ref R1)))
    (aGR2 : PySem.W.nsIn K mainGlobals "Shut" = some (some (.ref R2)))
    (aGR3 : PySem.W.nsIn K mainGlobals "NoPlace" = some (some (.ref R3)))
    (aGR4 : PySem.W.nsIn K mainGlobals "NoArm" = some (some (.ref R4)))
    (aGR5 : PySem.W.nsIn K mainGlobals "TwoElse" = some (some (.ref R5)))
    (aGR6 : PySem.W.nsIn K mainGlobals "Refused" = some (some (.ref R6)))
    (aGR7 : PySem.W.nsIn K mainGlobals "NoKind" = some (some (.ref R7)))
    (aGR8 : PySem.W.nsIn K mainGlobals "NoSeat" = some (some (.ref R8)))
    (aGR9 : PySem.W.nsIn K mainGlobals "Stopped" = some (some (.ref R9)))
    (aGR10 : PySem.W.nsIn K mainGlobals "TooMany" = some (some (.ref R10)))
    (aGR11 : PySem.W.nsIn K mainGlobals "NoEntry" = some (some (.ref R11)))
    (aGR12 : PySem.W.nsIn K mainGlobals "Full" = some (some (.ref R12)))
    (aGR13 : PySem.W.nsIn K mainGlobals "Nothing" = some (some (.ref R13)))
    (aGR14 : PySem.W.nsIn K mainGlobals "NoText" = some (some (.ref R14)))
    (aGR15 : PySem.W.nsIn K mainGlobals "NoCommand" = some (some (.ref R15)))
    {fm0 : Addr} {odm0 anm0 : Option Addr} {slm0 : Array (Option Value)} {ocm0 kVm0 dcm0 pmm0 cdm0 ctm0 : Value}
    (am0 : PySem.W.findIn K (.ref C) "__init__" = some (some (.ref fm0)))
    (im0 : PySem.W.isFn K (.ref fm0) = true)
    (lm0 : K.lookup fm0 = some ⟨ocm0, odm0, .func (PySem.W.fnOf "__init__" "Lanes.__init__" (defArgs (cL 0)) (defBody (cL 0)) (defScope (cL 0)) .none kVm0 dcm0 pmm0 anm0 cdm0 ctm0), slm0⟩)
    (cm0 : PySem.W.codeIn K cdm0 "Lanes.__init__" = true) (km0 : PySem.W.keepIn K (.ref fm0) = true)
    {fm1 : Addr} {odm1 anm1 : Option Addr} {slm1 : Array (Option Value)} {ocm1 kVm1 dcm1 pmm1 cdm1 ctm1 : Value}
    (am1 : PySem.W.findIn K (.ref R0) "__init__" = some (some (.ref fm1)))
    (im1 : PySem.W.typeIn K (.ref fm1) = some (.type "function"))
    (lm1 : K.lookup fm1 = some ⟨ocm1, odm1, .func (PySem.W.fnOf "__init__" "Wrong.__init__" (defArgs s_x0) (defBody s_x0) (defScope s_x0) .none kVm1 dcm1 pmm1 anm1 cdm1 ctm1), slm1⟩)
    (cm1 : PySem.W.codeIn K cdm1 "Wrong.__init__" = true) (km1 : PySem.W.keepIn K (.ref fm1) = true)
    {fm2 : Addr} {odm2 anm2 : Option Addr} {slm2 : Array (Option Value)} {ocm2 kVm2 dcm2 pmm2 cdm2 ctm2 : Value}
    (am2 : PySem.W.findIn K (.ref R1) "__init__" = some (some (.ref fm2)))
    (im2 : PySem.W.typeIn K (.ref fm2) = some (.type "function"))
    (lm2 : K.lookup fm2 = some ⟨ocm2, odm2, .func (PySem.W.fnOf "__init__" "NoLane.__init__" (defArgs s_x1) (defBody s_x1) (defScope s_x1) .none kVm2 dcm2 pmm2 anm2 cdm2 ctm2), slm2⟩)
    (cm2 : PySem.W.codeIn K cdm2 "NoLane.__init__" = true) (km2 : PySem.W.keepIn K (.ref fm2) = true)
    {fm3 : Addr} {odm3 anm3 : Option Addr} {slm3 : Array (Option Value)} {ocm3 kVm3 dcm3 pmm3 cdm3 ctm3 : Value}
    (am3 : PySem.W.findIn K (.ref R2) "__init__" = some (some (.ref fm3)))
    (im3 : PySem.W.typeIn K (.ref fm3) = some (.type "function"))
    (lm3 : K.lookup fm3 = some ⟨ocm3, odm3, .func (PySem.W.fnOf "__init__" "Shut.__init__" (defArgs s_x2) (defBody s_x2) (defScope s_x2) .none kVm3 dcm3 pmm3 anm3 cdm3 ctm3), slm3⟩)
    (cm3 : PySem.W.codeIn K cdm3 "Shut.__init__" = true) (km3 : PySem.W.keepIn K (.ref fm3) = true)
    {fm4 : Addr} {odm4 anm4 : Option Addr} {slm4 : Array (Option Value)} {ocm4 kVm4 dcm4 pmm4 cdm4 ctm4 : Value}
    (am4 : PySem.W.findIn K (.ref R3) "__init__" = some (some (.ref fm4)))
    (im4 : PySem.W.typeIn K (.ref fm4) = some (.type "function"))
    (lm4 : K.lookup fm4 = some ⟨ocm4, odm4, .func (PySem.W.fnOf "__init__" "NoPlace.__init__" (defArgs s_x3) (defBody s_x3) (defScope s_x3) .none kVm4 dcm4 pmm4 anm4 cdm4 ctm4), slm4⟩)
    (cm4 : PySem.W.codeIn K cdm4 "NoPlace.__init__" = true) (km4 : PySem.W.keepIn K (.ref fm4) = true)
    {fm5 : Addr} {odm5 anm5 : Option Addr} {slm5 : Array (Option Value)} {ocm5 kVm5 dcm5 pmm5 cdm5 ctm5 : Value}
    (am5 : PySem.W.findIn K (.ref R4) "__init__" = some (some (.ref fm5)))
    (im5 : PySem.W.typeIn K (.ref fm5) = some (.type "function"))
    (lm5 : K.lookup fm5 = some ⟨ocm5, odm5, .func (PySem.W.fnOf "__init__" "NoArm.__init__" (defArgs s_x4) (defBody s_x4) (defScope s_x4) .none kVm5 dcm5 pmm5 anm5 cdm5 ctm5), slm5⟩)
    (cm5 : PySem.W.codeIn K cdm5 "NoArm.__init__" = true) (km5 : PySem.W.keepIn K (.ref fm5) = true)
    {fm6 : Addr} {odm6 anm6 : Option Addr} {slm6 : Array (Option Value)} {ocm6 kVm6 dcm6 pmm6 cdm6 ctm6 : Value}
    (am6 : PySem.W.findIn K (.ref R5) "__init__" = some (some (.ref fm6)))
    (im6 : PySem.W.typeIn K (.ref fm6) = some (.type "function"))
    (lm6 : K.lookup fm6 = some ⟨ocm6, odm6, .func (PySem.W.fnOf "__init__" "TwoElse.__init__" (defArgs s_x5) (defBody s_x5) (defScope s_x5) .none kVm6 dcm6 pmm6 anm6 cdm6 ctm6), slm6⟩)
    (cm6 : PySem.W.codeIn K cdm6 "TwoElse.__init__" = true) (km6 : PySem.W.keepIn K (.ref fm6) = true)
    {fm7 : Addr} {odm7 anm7 : Option Addr} {slm7 : Array (Option Value)} {ocm7 kVm7 dcm7 pmm7 cdm7 ctm7 : Value}
    (am7 : PySem.W.findIn K (.ref R6) "__init__" = some (some (.ref fm7)))
    (im7 : PySem.W.typeIn K (.ref fm7) = some (.type "function"))
    (lm7 : K.lookup fm7 = some ⟨ocm7, odm7, .func (PySem.W.fnOf "__init__" "Refused.__init__" (defArgs s_x6) (defBody s_x6) (defScope s_x6) .none kVm7 dcm7 pmm7 anm7 cdm7 ctm7), slm7⟩)
    (cm7 : PySem.W.codeIn K cdm7 "Refused.__init__" = true) (km7 : PySem.W.keepIn K (.ref fm7) = true)
    {fm8 : Addr} {odm8 anm8 : Option Addr} {slm8 : Array (Option Value)} {ocm8 kVm8 dcm8 pmm8 cdm8 ctm8 : Value}
    (am8 : PySem.W.findIn K (.ref R7) "__init__" = some (some (.ref fm8)))
    (im8 : PySem.W.typeIn K (.ref fm8) = some (.type "function"))
    (lm8 : K.lookup fm8 = some ⟨ocm8, odm8, .func (PySem.W.fnOf "__init__" "NoKind.__init__" (defArgs s_x7) (defBody s_x7) (defScope s_x7) .none kVm8 dcm8 pmm8 anm8 cdm8 ctm8), slm8⟩)
    (cm8 : PySem.W.codeIn K cdm8 "NoKind.__init__" = true) (km8 : PySem.W.keepIn K (.ref fm8) = true)
    {fm9 : Addr} {odm9 anm9 : Option Addr} {slm9 : Array (Option Value)} {ocm9 kVm9 dcm9 pmm9 cdm9 ctm9 : Value}
    (am9 : PySem.W.findIn K (.ref R8) "__init__" = some (some (.ref fm9)))
    (im9 : PySem.W.typeIn K (.ref fm9) = some (.type "function"))
    (lm9 : K.lookup fm9 = some ⟨ocm9, odm9, .func (PySem.W.fnOf "__init__" "NoSeat.__init__" (defArgs s_x8) (defBody s_x8) (defScope s_x8) .none kVm9 dcm9 pmm9 anm9 cdm9 ctm9), slm9⟩)
    (cm9 : PySem.W.codeIn K cdm9 "NoSeat.__init__" = true) (km9 : PySem.W.keepIn K (.ref fm9) = true)
    {fm10 : Addr} {odm10 anm10 : Option Addr} {slm10 : Array (Option Value)} {ocm10 kVm10 dcm10 pmm10 cdm10 ctm10 : Value}
    (am10 : PySem.W.findIn K (.ref R9) "__init__" = some (some (.ref fm10)))
    (im10 : PySem.W.typeIn K (.ref fm10) = some (.type "function"))
    (lm10 : K.lookup fm10 = some ⟨ocm10, odm10, .func (PySem.W.fnOf "__init__" "Stopped.__init__" (defArgs s_x9) (defBody s_x9) (defScope s_x9) .none kVm10 dcm10 pmm10 anm10 cdm10 ctm10), slm10⟩)
    (cm10 : PySem.W.codeIn K cdm10 "Stopped.__init__" = true) (km10 : PySem.W.keepIn K (.ref fm10) = true)
    {fm11 : Addr} {odm11 anm11 : Option Addr} {slm11 : Array (Option Value)} {ocm11 kVm11 dcm11 pmm11 cdm11 ctm11 : Value}
    (am11 : PySem.W.findIn K (.ref R10) "__init__" = some (some (.ref fm11)))
    (im11 : PySem.W.typeIn K (.ref fm11) = some (.type "function"))
    (lm11 : K.lookup fm11 = some ⟨ocm11, odm11, .func (PySem.W.fnOf "__init__" "TooMany.__init__" (defArgs s_x10) (defBody s_x10) (defScope s_x10) .none kVm11 dcm11 pmm11 anm11 cdm11 ctm11), slm11⟩)
    (cm11 : PySem.W.codeIn K cdm11 "TooMany.__init__" = true) (km11 : PySem.W.keepIn K (.ref fm11) = true)
    {fm12 : Addr} {odm12 anm12 : Option Addr} {slm12 : Array (Option Value)} {ocm12 kVm12 dcm12 pmm12 cdm12 ctm12 : Value}
    (am12 : PySem.W.findIn K (.ref R11) "__init__" = some (some (.ref fm12)))
    (im12 : PySem.W.typeIn K (.ref fm12) = some (.type "function"))
    (lm12 : K.lookup fm12 = some ⟨ocm12, odm12, .func (PySem.W.fnOf "__init__" "NoEntry.__init__" (defArgs s_x11) (defBody s_x11) (defScope s_x11) .none kVm12 dcm12 pmm12 anm12 cdm12 ctm12), slm12⟩)
    (cm12 : PySem.W.codeIn K cdm12 "NoEntry.__init__" = true) (km12 : PySem.W.keepIn K (.ref fm12) = true)
    {fm13 : Addr} {odm13 anm13 : Option Addr} {slm13 : Array (Option Value)} {ocm13 kVm13 dcm13 pmm13 cdm13 ctm13 : Value}
    (am13 : PySem.W.findIn K (.ref R12) "__init__" = some (some (.ref fm13)))
    (im13 : PySem.W.typeIn K (.ref fm13) = some (.type "function"))
    (lm13 : K.lookup fm13 = some ⟨ocm13, odm13, .func (PySem.W.fnOf "__init__" "Full.__init__" (defArgs s_x12) (defBody s_x12) (defScope s_x12) .none kVm13 dcm13 pmm13 anm13 cdm13 ctm13), slm13⟩)
    (cm13 : PySem.W.codeIn K cdm13 "Full.__init__" = true) (km13 : PySem.W.keepIn K (.ref fm13) = true)
    {fm14 : Addr} {odm14 anm14 : Option Addr} {slm14 : Array (Option Value)} {ocm14 kVm14 dcm14 pmm14 cdm14 ctm14 : Value}
    (am14 : PySem.W.findIn K (.ref R13) "__init__" = some (some (.ref fm14)))
    (im14 : PySem.W.typeIn K (.ref fm14) = some (.type "function"))
    (lm14 : K.lookup fm14 = some ⟨ocm14, odm14, .func (PySem.W.fnOf "__init__" "Nothing.__init__" (defArgs s_x13) (defBody s_x13) (defScope s_x13) .none kVm14 dcm14 pmm14 anm14 cdm14 ctm14), slm14⟩)
    (cm14 : PySem.W.codeIn K cdm14 "Nothing.__init__" = true) (km14 : PySem.W.keepIn K (.ref fm14) = true)
    {fm15 : Addr} {odm15 anm15 : Option Addr} {slm15 : Array (Option Value)} {ocm15 kVm15 dcm15 pmm15 cdm15 ctm15 : Value}
    (am15 : PySem.W.findIn K (.ref R14) "__init__" = some (some (.ref fm15)))
    (im15 : PySem.W.typeIn K (.ref fm15) = some (.type "function"))
    (lm15 : K.lookup fm15 = some ⟨ocm15, odm15, .func (PySem.W.fnOf "__init__" "NoText.__init__" (defArgs s_x14) (defBody s_x14) (defScope s_x14) .none kVm15 dcm15 pmm15 anm15 cdm15 ctm15), slm15⟩)
    (cm15 : PySem.W.codeIn K cdm15 "NoText.__init__" = true) (km15 : PySem.W.keepIn K (.ref fm15) = true)
    {fm16 : Addr} {odm16 anm16 : Option Addr} {slm16 : Array (Option Value)} {ocm16 kVm16 dcm16 pmm16 cdm16 ctm16 : Value}
    (am16 : PySem.W.findIn K (.ref R15) "__init__" = some (some (.ref fm16)))
    (im16 : PySem.W.typeIn K (.ref fm16) = some (.type "function"))
    (lm16 : K.lookup fm16 = some ⟨ocm16, odm16, .func (PySem.W.fnOf "__init__" "NoCommand.__init__" (defArgs s_x15) (defBody s_x15) (defScope s_x15) .none kVm16 dcm16 pmm16 anm16 cdm16 ctm16), slm16⟩)
    (cm16 : PySem.W.codeIn K cdm16 "NoCommand.__init__" = true) (km16 : PySem.W.keepIn K (.ref fm16) = true)
    (pgC : PySem.W.plainGet K C Str.empty = true) (hdC : PySem.W.hasDictIn K C = true) (poC : PySem.W.plainOver K C = true) (saC : PySem.W.findIn K (.ref C) "__setattr__" = some (some (.builtin "object.__setattr__"))) (mkC : PySem.W.makesIn K C = true) (kcC : PySem.W.keepIn K (.ref C) = true)
    (nN : PySem.W.findIn K (.ref C) "_names" = some none) (nB : PySem.W.findIn K (.ref C) "_bounds" = some none) (nS : PySem.W.findIn K (.ref C) "_spots" = some none)
    {nmR0 qR0 : Str} {NR0 : Addr} {bsR0 bmR0 : List Value} {snR0 : List Str} {subR0 : List Value} {abR0 : Bool} {colR0 : Option Bool} {ddR0 : Option Addr} {m0R0 m1R0 m2R0 m3R0 m5R0 : Option Value}
    (xR0 : K.lookup R0 = some (excClassObj nmR0 qR0 R0 NR0 bsR0 bmR0 true snR0 subR0 abR0 colR0 ddR0 m0R0 m1R0 m2R0 m3R0 m5R0 "ValueError.__new__")) (vR0 : PySem.HandSPX.refsVE bmR0 = true)
    (saR0 : PySem.W.findIn K (.ref R0) "__setattr__" = some (some (.builtin "object.__setattr__"))) (exR0 : PySem.W.subIn K (.ref R0) (.type "BaseException") = some true) (tyR0 : PySem.W.typeIn K (.ref R0) = some (.type "type")) (kR0 : PySem.W.keepIn K (.ref R0) = true)
    (gaR0 : PySem.W.findIn K (.ref R0) "__getattribute__" = some (some (.builtin "BaseException.__getattribute__"))) (ggR0 : PySem.W.findIn K (.ref R0) "__getattr__" = some none) (hdR0 : PySem.W.hasDictIn K R0 = true)
    (clR0 : PySem.W.findIn K (.ref R0) "__class__" = some (some (.builtin "object.__class__"))) (moR0 : PySem.W.mroIn K R0 (.type "object") = some true) (sBR0 : PySem.W.subIn K (.ref R0) (.ref B) = some true)
    (nFR0_place : PySem.W.findIn K (.ref R0) "place" = some none)
    {nmR1 qR1 : Str} {NR1 : Addr} {bsR1 bmR1 : List Value} {snR1 : List Str} {subR1 : List Value} {abR1 : Bool} {colR1 : Option Bool} {ddR1 : Option Addr} {m0R1 m1R1 m2R1 m3R1 m5R1 : Option Value}
    (xR1 : K.lookup R1 = some (excClassObj nmR1 qR1 R1 NR1 bsR1 bmR1 true snR1 subR1 abR1 colR1 ddR1 m0R1 m1R1 m2R1 m3R1 m5R1 "ValueError.__new__")) (vR1 : PySem.HandSPX.refsVE bmR1 = true)
    (saR1 : PySem.W.findIn K (.ref R1) "__setattr__" = some (some (.builtin "object.__setattr__"))) (exR1 : PySem.W.subIn K (.ref R1) (.type "BaseException") = some true) (tyR1 : PySem.W.typeIn K (.ref R1) = some (.type "type")) (kR1 : PySem.W.keepIn K (.ref R1) = true)
    (gaR1 : PySem.W.findIn K (.ref R1) "__getattribute__" = some (some (.builtin "BaseException.__getattribute__"))) (ggR1 : PySem.W.findIn K (.ref R1) "__getattr__" = some none) (hdR1 : PySem.W.hasDictIn K R1 = true)
    (clR1 : PySem.W.findIn K (.ref R1) "__class__" = some (some (.builtin "object.__class__"))) (moR1 : PySem.W.mroIn K R1 (.type "object") = some true) (sBR1 : PySem.W.subIn K (.ref R1) (.ref B) = some true)
    (nFR1_lane : PySem.W.findIn K (.ref R1) "lane" = some none)
    {nmR2 qR2 : Str} {NR2 : Addr} {bsR2 bmR2 : List Value} {snR2 : List Str} {subR2 : List Value} {abR2 : Bool} {colR2 : Option Bool} {ddR2 : Option Addr} {m0R2 m1R2 m2R2 m3R2 m5R2 : Option Value}
    (xR2 : K.lookup R2 = some (excClassObj nmR2 qR2 R2 NR2 bsR2 bmR2 true snR2 subR2 abR2 colR2 ddR2 m0R2 m1R2 m2R2 m3R2 m5R2 "ValueError.__new__")) (vR2 : PySem.HandSPX.refsVE bmR2 = true)
    (saR2 : PySem.W.findIn K (.ref R2) "__setattr__" = some (some (.builtin "object.__setattr__"))) (exR2 : PySem.W.subIn K (.ref R2) (.type "BaseException") = some true) (tyR2 : PySem.W.typeIn K (.ref R2) = some (.type "type")) (kR2 : PySem.W.keepIn K (.ref R2) = true)
    (gaR2 : PySem.W.findIn K (.ref R2) "__getattribute__" = some (some (.builtin "BaseException.__getattribute__"))) (ggR2 : PySem.W.findIn K (.ref R2) "__getattr__" = some none) (hdR2 : PySem.W.hasDictIn K R2 = true)
    (clR2 : PySem.W.findIn K (.ref R2) "__class__" = some (some (.builtin "object.__class__"))) (moR2 : PySem.W.mroIn K R2 (.type "object") = some true) (sBR2 : PySem.W.subIn K (.ref R2) (.ref B) = some true)
    (nFR2_word : PySem.W.findIn K (.ref R2) "word" = some none)
    (nFR2_lane : PySem.W.findIn K (.ref R2) "lane" = some none)
    {nmR3 qR3 : Str} {NR3 : Addr} {bsR3 bmR3 : List Value} {snR3 : List Str} {subR3 : List Value} {abR3 : Bool} {colR3 : Option Bool} {ddR3 : Option Addr} {m0R3 m1R3 m2R3 m3R3 m5R3 : Option Value}
    (xR3 : K.lookup R3 = some (excClassObj nmR3 qR3 R3 NR3 bsR3 bmR3 true snR3 subR3 abR3 colR3 ddR3 m0R3 m1R3 m2R3 m3R3 m5R3 "ValueError.__new__")) (vR3 : PySem.HandSPX.refsVE bmR3 = true)
    (saR3 : PySem.W.findIn K (.ref R3) "__setattr__" = some (some (.builtin "object.__setattr__"))) (exR3 : PySem.W.subIn K (.ref R3) (.type "BaseException") = some true) (tyR3 : PySem.W.typeIn K (.ref R3) = some (.type "type")) (kR3 : PySem.W.keepIn K (.ref R3) = true)
    (gaR3 : PySem.W.findIn K (.ref R3) "__getattribute__" = some (some (.builtin "BaseException.__getattribute__"))) (ggR3 : PySem.W.findIn K (.ref R3) "__getattr__" = some none) (hdR3 : PySem.W.hasDictIn K R3 = true)
    (clR3 : PySem.W.findIn K (.ref R3) "__class__" = some (some (.builtin "object.__class__"))) (moR3 : PySem.W.mroIn K R3 (.type "object") = some true) (sBR3 : PySem.W.subIn K (.ref R3) (.ref B) = some true)
    (nFR3_place : PySem.W.findIn K (.ref R3) "place" = some none)
    {nmR4 qR4 : Str} {NR4 : Addr} {bsR4 bmR4 : List Value} {snR4 : List Str} {subR4 : List Value} {abR4 : Bool} {colR4 : Option Bool} {ddR4 : Option Addr} {m0R4 m1R4 m2R4 m3R4 m5R4 : Option Value}
    (xR4 : K.lookup R4 = some (excClassObj nmR4 qR4 R4 NR4 bsR4 bmR4 true snR4 subR4 abR4 colR4 ddR4 m0R4 m1R4 m2R4 m3R4 m5R4 "ValueError.__new__")) (vR4 : PySem.HandSPX.refsVE bmR4 = true)
    (saR4 : PySem.W.findIn K (.ref R4) "__setattr__" = some (some (.builtin "object.__setattr__"))) (exR4 : PySem.W.subIn K (.ref R4) (.type "BaseException") = some true) (tyR4 : PySem.W.typeIn K (.ref R4) = some (.type "type")) (kR4 : PySem.W.keepIn K (.ref R4) = true)
    (gaR4 : PySem.W.findIn K (.ref R4) "__getattribute__" = some (some (.builtin "BaseException.__getattribute__"))) (ggR4 : PySem.W.findIn K (.ref R4) "__getattr__" = some none) (hdR4 : PySem.W.hasDictIn K R4 = true)
    (clR4 : PySem.W.findIn K (.ref R4) "__class__" = some (some (.builtin "object.__class__"))) (moR4 : PySem.W.mroIn K R4 (.type "object") = some true) (sBR4 : PySem.W.subIn K (.ref R4) (.ref B) = some true)
    (nFR4_index : PySem.W.findIn K (.ref R4) "index" = some none)
    {nmR5 qR5 : Str} {NR5 : Addr} {bsR5 bmR5 : List Value} {snR5 : List Str} {subR5 : List Value} {abR5 : Bool} {colR5 : Option Bool} {ddR5 : Option Addr} {m0R5 m1R5 m2R5 m3R5 m5R5 : Option Value}
    (xR5 : K.lookup R5 = some (excClassObj nmR5 qR5 R5 NR5 bsR5 bmR5 true snR5 subR5 abR5 colR5 ddR5 m0R5 m1R5 m2R5 m3R5 m5R5 "ValueError.__new__")) (vR5 : PySem.HandSPX.refsVE bmR5 = true)
    (saR5 : PySem.W.findIn K (.ref R5) "__setattr__" = some (some (.builtin "object.__setattr__"))) (exR5 : PySem.W.subIn K (.ref R5) (.type "BaseException") = some true) (tyR5 : PySem.W.typeIn K (.ref R5) = some (.type "type")) (kR5 : PySem.W.keepIn K (.ref R5) = true)
    (gaR5 : PySem.W.findIn K (.ref R5) "__getattribute__" = some (some (.builtin "BaseException.__getattribute__"))) (ggR5 : PySem.W.findIn K (.ref R5) "__getattr__" = some none) (hdR5 : PySem.W.hasDictIn K R5 = true)
    (clR5 : PySem.W.findIn K (.ref R5) "__class__" = some (some (.builtin "object.__class__"))) (moR5 : PySem.W.mroIn K R5 (.type "object") = some true) (sBR5 : PySem.W.subIn K (.ref R5) (.ref B) = some true)
    (nFR5_place : PySem.W.findIn K (.ref R5) "place" = some none)
    {nmR6 qR6 : Str} {NR6 : Addr} {bsR6 bmR6 : List Value} {snR6 : List Str} {subR6 : List Value} {abR6 : Bool} {colR6 : Option Bool} {ddR6 : Option Addr} {m0R6 m1R6 m2R6 m3R6 m5R6 : Option Value}
    (xR6 : K.lookup R6 = some (excClassObj nmR6 qR6 R6 NR6 bsR6 bmR6 true snR6 subR6 abR6 colR6 ddR6 m0R6 m1R6 m2R6 m3R6 m5R6 "ValueError.__new__")) (vR6 : PySem.HandSPX.refsVE bmR6 = true)
    (saR6 : PySem.W.findIn K (.ref R6) "__setattr__" = some (some (.builtin "object.__setattr__"))) (exR6 : PySem.W.subIn K (.ref R6) (.type "BaseException") = some true) (tyR6 : PySem.W.typeIn K (.ref R6) = some (.type "type")) (kR6 : PySem.W.keepIn K (.ref R6) = true)
    (gaR6 : PySem.W.findIn K (.ref R6) "__getattribute__" = some (some (.builtin "BaseException.__getattribute__"))) (ggR6 : PySem.W.findIn K (.ref R6) "__getattr__" = some none) (hdR6 : PySem.W.hasDictIn K R6 = true)
    (clR6 : PySem.W.findIn K (.ref R6) "__class__" = some (some (.builtin "object.__class__"))) (moR6 : PySem.W.mroIn K R6 (.type "object") = some true) (sBR6 : PySem.W.subIn K (.ref R6) (.ref B) = some true)
    (nFR6_what : PySem.W.findIn K (.ref R6) "what" = some none)
    {nmR7 qR7 : Str} {NR7 : Addr} {bsR7 bmR7 : List Value} {snR7 : List Str} {subR7 : List Value} {abR7 : Bool} {colR7 : Option Bool} {ddR7 : Option Addr} {m0R7 m1R7 m2R7 m3R7 m5R7 : Option Value}
    (xR7 : K.lookup R7 = some (excClassObj nmR7 qR7 R7 NR7 bsR7 bmR7 true snR7 subR7 abR7 colR7 ddR7 m0R7 m1R7 m2R7 m3R7 m5R7 "ValueError.__new__")) (vR7 : PySem.HandSPX.refsVE bmR7 = true)
    (saR7 : PySem.W.findIn K (.ref R7) "__setattr__" = some (some (.builtin "object.__setattr__"))) (exR7 : PySem.W.subIn K (.ref R7) (.type "BaseException") = some true) (tyR7 : PySem.W.typeIn K (.ref R7) = some (.type "type")) (kR7 : PySem.W.keepIn K (.ref R7) = true)
    (gaR7 : PySem.W.findIn K (.ref R7) "__getattribute__" = some (some (.builtin "BaseException.__getattribute__"))) (ggR7 : PySem.W.findIn K (.ref R7) "__getattr__" = some none) (hdR7 : PySem.W.hasDictIn K R7 = true)
    (clR7 : PySem.W.findIn K (.ref R7) "__class__" = some (some (.builtin "object.__class__"))) (moR7 : PySem.W.mroIn K R7 (.type "object") = some true) (sBR7 : PySem.W.subIn K (.ref R7) (.ref B) = some true)
    (nFR7_kind : PySem.W.findIn K (.ref R7) "kind" = some none)
    {nmR8 qR8 : Str} {NR8 : Addr} {bsR8 bmR8 : List Value} {snR8 : List Str} {subR8 : List Value} {abR8 : Bool} {colR8 : Option Bool} {ddR8 : Option Addr} {m0R8 m1R8 m2R8 m3R8 m5R8 : Option Value}
    (xR8 : K.lookup R8 = some (excClassObj nmR8 qR8 R8 NR8 bsR8 bmR8 true snR8 subR8 abR8 colR8 ddR8 m0R8 m1R8 m2R8 m3R8 m5R8 "ValueError.__new__")) (vR8 : PySem.HandSPX.refsVE bmR8 = true)
    (saR8 : PySem.W.findIn K (.ref R8) "__setattr__" = some (some (.builtin "object.__setattr__"))) (exR8 : PySem.W.subIn K (.ref R8) (.type "BaseException") = some true) (tyR8 : PySem.W.typeIn K (.ref R8) = some (.type "type")) (kR8 : PySem.W.keepIn K (.ref R8) = true)
    (gaR8 : PySem.W.findIn K (.ref R8) "__getattribute__" = some (some (.builtin "BaseException.__getattribute__"))) (ggR8 : PySem.W.findIn K (.ref R8) "__getattr__" = some none) (hdR8 : PySem.W.hasDictIn K R8 = true)
    (clR8 : PySem.W.findIn K (.ref R8) "__class__" = some (some (.builtin "object.__class__"))) (moR8 : PySem.W.mroIn K R8 (.type "object") = some true) (sBR8 : PySem.W.subIn K (.ref R8) (.ref B) = some true)
    (nFR8_place : PySem.W.findIn K (.ref R8) "place" = some none)
    {nmR9 qR9 : Str} {NR9 : Addr} {bsR9 bmR9 : List Value} {snR9 : List Str} {subR9 : List Value} {abR9 : Bool} {colR9 : Option Bool} {ddR9 : Option Addr} {m0R9 m1R9 m2R9 m3R9 m5R9 : Option Value}
    (xR9 : K.lookup R9 = some (excClassObj nmR9 qR9 R9 NR9 bsR9 bmR9 true snR9 subR9 abR9 colR9 ddR9 m0R9 m1R9 m2R9 m3R9 m5R9 "ValueError.__new__")) (vR9 : PySem.HandSPX.refsVE bmR9 = true)
    (saR9 : PySem.W.findIn K (.ref R9) "__setattr__" = some (some (.builtin "object.__setattr__"))) (exR9 : PySem.W.subIn K (.ref R9) (.type "BaseException") = some true) (tyR9 : PySem.W.typeIn K (.ref R9) = some (.type "type")) (kR9 : PySem.W.keepIn K (.ref R9) = true)
    (gaR9 : PySem.W.findIn K (.ref R9) "__getattribute__" = some (some (.builtin "BaseException.__getattribute__"))) (ggR9 : PySem.W.findIn K (.ref R9) "__getattr__" = some none) (hdR9 : PySem.W.hasDictIn K R9 = true)
    (clR9 : PySem.W.findIn K (.ref R9) "__class__" = some (some (.builtin "object.__class__"))) (moR9 : PySem.W.mroIn K R9 (.type "object") = some true) (sBR9 : PySem.W.subIn K (.ref R9) (.ref B) = some true)
    (nFR9_index : PySem.W.findIn K (.ref R9) "index" = some none)
    {nmR10 qR10 : Str} {NR10 : Addr} {bsR10 bmR10 : List Value} {snR10 : List Str} {subR10 : List Value} {abR10 : Bool} {colR10 : Option Bool} {ddR10 : Option Addr} {m0R10 m1R10 m2R10 m3R10 m5R10 : Option Value}
    (xR10 : K.lookup R10 = some (excClassObj nmR10 qR10 R10 NR10 bsR10 bmR10 true snR10 subR10 abR10 colR10 ddR10 m0R10 m1R10 m2R10 m3R10 m5R10 "ValueError.__new__")) (vR10 : PySem.HandSPX.refsVE bmR10 = true)
    (saR10 : PySem.W.findIn K (.ref R10) "__setattr__" = some (some (.builtin "object.__setattr__"))) (exR10 : PySem.W.subIn K (.ref R10) (.type "BaseException") = some true) (tyR10 : PySem.W.typeIn K (.ref R10) = some (.type "type")) (kR10 : PySem.W.keepIn K (.ref R10) = true)
    (gaR10 : PySem.W.findIn K (.ref R10) "__getattribute__" = some (some (.builtin "BaseException.__getattribute__"))) (ggR10 : PySem.W.findIn K (.ref R10) "__getattr__" = some none) (hdR10 : PySem.W.hasDictIn K R10 = true)
    (clR10 : PySem.W.findIn K (.ref R10) "__class__" = some (some (.builtin "object.__class__"))) (moR10 : PySem.W.mroIn K R10 (.type "object") = some true) (sBR10 : PySem.W.subIn K (.ref R10) (.ref B) = some true)
    (nFR10_most : PySem.W.findIn K (.ref R10) "most" = some none)
    {nmR11 qR11 : Str} {NR11 : Addr} {bsR11 bmR11 : List Value} {snR11 : List Str} {subR11 : List Value} {abR11 : Bool} {colR11 : Option Bool} {ddR11 : Option Addr} {m0R11 m1R11 m2R11 m3R11 m5R11 : Option Value}
    (xR11 : K.lookup R11 = some (excClassObj nmR11 qR11 R11 NR11 bsR11 bmR11 true snR11 subR11 abR11 colR11 ddR11 m0R11 m1R11 m2R11 m3R11 m5R11 "ValueError.__new__")) (vR11 : PySem.HandSPX.refsVE bmR11 = true)
    (saR11 : PySem.W.findIn K (.ref R11) "__setattr__" = some (some (.builtin "object.__setattr__"))) (exR11 : PySem.W.subIn K (.ref R11) (.type "BaseException") = some true) (tyR11 : PySem.W.typeIn K (.ref R11) = some (.type "type")) (kR11 : PySem.W.keepIn K (.ref R11) = true)
    (gaR11 : PySem.W.findIn K (.ref R11) "__getattribute__" = some (some (.builtin "BaseException.__getattribute__"))) (ggR11 : PySem.W.findIn K (.ref R11) "__getattr__" = some none) (hdR11 : PySem.W.hasDictIn K R11 = true)
    (clR11 : PySem.W.findIn K (.ref R11) "__class__" = some (some (.builtin "object.__class__"))) (moR11 : PySem.W.mroIn K R11 (.type "object") = some true) (sBR11 : PySem.W.subIn K (.ref R11) (.ref B) = some true)
    (nFR11_many : PySem.W.findIn K (.ref R11) "many" = some none)
    {nmR12 qR12 : Str} {NR12 : Addr} {bsR12 bmR12 : List Value} {snR12 : List Str} {subR12 : List Value} {abR12 : Bool} {colR12 : Option Bool} {ddR12 : Option Addr} {m0R12 m1R12 m2R12 m3R12 m5R12 : Option Value}
    (xR12 : K.lookup R12 = some (excClassObj nmR12 qR12 R12 NR12 bsR12 bmR12 true snR12 subR12 abR12 colR12 ddR12 m0R12 m1R12 m2R12 m3R12 m5R12 "ValueError.__new__")) (vR12 : PySem.HandSPX.refsVE bmR12 = true)
    (saR12 : PySem.W.findIn K (.ref R12) "__setattr__" = some (some (.builtin "object.__setattr__"))) (exR12 : PySem.W.subIn K (.ref R12) (.type "BaseException") = some true) (tyR12 : PySem.W.typeIn K (.ref R12) = some (.type "type")) (kR12 : PySem.W.keepIn K (.ref R12) = true)
    (gaR12 : PySem.W.findIn K (.ref R12) "__getattribute__" = some (some (.builtin "BaseException.__getattribute__"))) (ggR12 : PySem.W.findIn K (.ref R12) "__getattr__" = some none) (hdR12 : PySem.W.hasDictIn K R12 = true)
    (clR12 : PySem.W.findIn K (.ref R12) "__class__" = some (some (.builtin "object.__class__"))) (moR12 : PySem.W.mroIn K R12 (.type "object") = some true) (sBR12 : PySem.W.subIn K (.ref R12) (.ref B) = some true)
    {nmR13 qR13 : Str} {NR13 : Addr} {bsR13 bmR13 : List Value} {snR13 : List Str} {subR13 : List Value} {abR13 : Bool} {colR13 : Option Bool} {ddR13 : Option Addr} {m0R13 m1R13 m2R13 m3R13 m5R13 : Option Value}
    (xR13 : K.lookup R13 = some (excClassObj nmR13 qR13 R13 NR13 bsR13 bmR13 true snR13 subR13 abR13 colR13 ddR13 m0R13 m1R13 m2R13 m3R13 m5R13 "ValueError.__new__")) (vR13 : PySem.HandSPX.refsVE bmR13 = true)
    (saR13 : PySem.W.findIn K (.ref R13) "__setattr__" = some (some (.builtin "object.__setattr__"))) (exR13 : PySem.W.subIn K (.ref R13) (.type "BaseException") = some true) (tyR13 : PySem.W.typeIn K (.ref R13) = some (.type "type")) (kR13 : PySem.W.keepIn K (.ref R13) = true)
    (gaR13 : PySem.W.findIn K (.ref R13) "__getattribute__" = some (some (.builtin "BaseException.__getattribute__"))) (ggR13 : PySem.W.findIn K (.ref R13) "__getattr__" = some none) (hdR13 : PySem.W.hasDictIn K R13 = true)
    (clR13 : PySem.W.findIn K (.ref R13) "__class__" = some (some (.builtin "object.__class__"))) (moR13 : PySem.W.mroIn K R13 (.type "object") = some true) (sBR13 : PySem.W.subIn K (.ref R13) (.ref B) = some true)
    {nmR14 qR14 : Str} {NR14 : Addr} {bsR14 bmR14 : List Value} {snR14 : List Str} {subR14 : List Value} {abR14 : Bool} {colR14 : Option Bool} {ddR14 : Option Addr} {m0R14 m1R14 m2R14 m3R14 m5R14 : Option Value}
    (xR14 : K.lookup R14 = some (excClassObj nmR14 qR14 R14 NR14 bsR14 bmR14 true snR14 subR14 abR14 colR14 ddR14 m0R14 m1R14 m2R14 m3R14 m5R14 "ValueError.__new__")) (vR14 : PySem.HandSPX.refsVE bmR14 = true)
    (saR14 : PySem.W.findIn K (.ref R14) "__setattr__" = some (some (.builtin "object.__setattr__"))) (exR14 : PySem.W.subIn K (.ref R14) (.type "BaseException") = some true) (tyR14 : PySem.W.typeIn K (.ref R14) = some (.type "type")) (kR14 : PySem.W.keepIn K (.ref R14) = true)
    (gaR14 : PySem.W.findIn K (.ref R14) "__getattribute__" = some (some (.builtin "BaseException.__getattribute__"))) (ggR14 : PySem.W.findIn K (.ref R14) "__getattr__" = some none) (hdR14 : PySem.W.hasDictIn K R14 = true)
    (clR14 : PySem.W.findIn K (.ref R14) "__class__" = some (some (.builtin "object.__class__"))) (moR14 : PySem.W.mroIn K R14 (.type "object") = some true) (sBR14 : PySem.W.subIn K (.ref R14) (.ref B) = some true)
    {nmR15 qR15 : Str} {NR15 : Addr} {bsR15 bmR15 : List Value} {snR15 : List Str} {subR15 : List Value} {abR15 : Bool} {colR15 : Option Bool} {ddR15 : Option Addr} {m0R15 m1R15 m2R15 m3R15 m5R15 : Option Value}
    (xR15 : K.lookup R15 = some (excClassObj nmR15 qR15 R15 NR15 bsR15 bmR15 true snR15 subR15 abR15 colR15 ddR15 m0R15 m1R15 m2R15 m3R15 m5R15 "ValueError.__new__")) (vR15 : PySem.HandSPX.refsVE bmR15 = true)
    (saR15 : PySem.W.findIn K (.ref R15) "__setattr__" = some (some (.builtin "object.__setattr__"))) (exR15 : PySem.W.subIn K (.ref R15) (.type "BaseException") = some true) (tyR15 : PySem.W.typeIn K (.ref R15) = some (.type "type")) (kR15 : PySem.W.keepIn K (.ref R15) = true)
    (gaR15 : PySem.W.findIn K (.ref R15) "__getattribute__" = some (some (.builtin "BaseException.__getattribute__"))) (ggR15 : PySem.W.findIn K (.ref R15) "__getattr__" = some none) (hdR15 : PySem.W.hasDictIn K R15 = true)
    (clR15 : PySem.W.findIn K (.ref R15) "__class__" = some (some (.builtin "object.__class__"))) (moR15 : PySem.W.mroIn K R15 (.type "object") = some true) (sBR15 : PySem.W.subIn K (.ref R15) (.ref B) = some true)
    (exB : PySem.W.subIn K (.ref B) (.type "BaseException") = some true) (hdB : PySem.W.hasDictIn K B = true) (tyB : PySem.W.typeIn K (.ref B) = some (.type "type"))
    (ocg : PySem.W.specialIn K (.builtin "object.__class__") "__get__" = some (some (.builtin "getset_descriptor.__get__"))) (oct : PySem.W.takesIn K (.builtin "object.__class__") = some true)
    (k_0_0 : PySem.W.kitOne K (.ref R0) (.ref R0) = some true)
    (k_0_1 : PySem.W.kitOne K (.ref R0) (.ref R1) = some false)
    (k_0_2 : PySem.W.kitOne K (.ref R0) (.ref R2) = some false)
    (k_0_3 : PySem.W.kitOne K (.ref R0) (.ref R3) = some false)
    (k_0_4 : PySem.W.kitOne K (.ref R0) (.ref R4) = some false)
    (k_0_5 : PySem.W.kitOne K (.ref R0) (.ref R5) = some false)
    (k_0_6 : PySem.W.kitOne K (.ref R0) (.ref R6) = some false)
    (k_0_7 : PySem.W.kitOne K (.ref R0) (.ref R7) = some false)
    (k_0_8 : PySem.W.kitOne K (.ref R0) (.ref R8) = some false)
    (k_0_9 : PySem.W.kitOne K (.ref R0) (.ref R9) = some false)
    (k_0_10 : PySem.W.kitOne K (.ref R0) (.ref R10) = some false)
    (k_0_11 : PySem.W.kitOne K (.ref R0) (.ref R11) = some false)
    (k_0_12 : PySem.W.kitOne K (.ref R0) (.ref R12) = some false)
    (k_0_13 : PySem.W.kitOne K (.ref R0) (.ref R13) = some false)
    (k_0_14 : PySem.W.kitOne K (.ref R0) (.ref R14) = some false)
    (k_0_15 : PySem.W.kitOne K (.ref R0) (.ref R15) = some false)
    (kB_0 : PySem.W.kitOne K (.ref R0) (.ref B) = some true) (kV_0 : PySem.W.kitOne K (.ref R0) (.type "ValueError") = some true) (kL_0 : PySem.W.kitOne K (.ref R0) (.type "LookupError") = some false)
    (k_1_0 : PySem.W.kitOne K (.ref R1) (.ref R0) = some false)
    (k_1_1 : PySem.W.kitOne K (.ref R1) (.ref R1) = some true)
    (k_1_2 : PySem.W.kitOne K (.ref R1) (.ref R2) = some false)
    (k_1_3 : PySem.W.kitOne K (.ref R1) (.ref R3) = some false)
    (k_1_4 : PySem.W.kitOne K (.ref R1) (.ref R4) = some false)
    (k_1_5 : PySem.W.kitOne K (.ref R1) (.ref R5) = some false)
    (k_1_6 : PySem.W.kitOne K (.ref R1) (.ref R6) = some false)
    (k_1_7 : PySem.W.kitOne K (.ref R1) (.ref R7) = some false)
    (k_1_8 : PySem.W.kitOne K (.ref R1) (.ref R8) = some false)
    (k_1_9 : PySem.W.kitOne K (.ref R1) (.ref R9) = some false)
    (k_1_10 : PySem.W.kitOne K (.ref R1) (.ref R10) = some false)
    (k_1_11 : PySem.W.kitOne K (.ref R1) (.ref R11) = some false)
    (k_1_12 : PySem.W.kitOne K (.ref R1) (.ref R12) = some false)
    (k_1_13 : PySem.W.kitOne K (.ref R1) (.ref R13) = some false)
    (k_1_14 : PySem.W.kitOne K (.ref R1) (.ref R14) = some false)
    (k_1_15 : PySem.W.kitOne K (.ref R1) (.ref R15) = some false)
    (kB_1 : PySem.W.kitOne K (.ref R1) (.ref B) = some true) (kV_1 : PySem.W.kitOne K (.ref R1) (.type "ValueError") = some true) (kL_1 : PySem.W.kitOne K (.ref R1) (.type "LookupError") = some false)
    (k_2_0 : PySem.W.kitOne K (.ref R2) (.ref R0) = some false)
    (k_2_1 : PySem.W.kitOne K (.ref R2) (.ref R1) = some false)
    (k_2_2 : PySem.W.kitOne K (.ref R2) (.ref R2) = some true)
    (k_2_3 : PySem.W.kitOne K (.ref R2) (.ref R3) = some false)
    (k_2_4 : PySem.W.kitOne K (.ref R2) (.ref R4) = some false)
    (k_2_5 : PySem.W.kitOne K (.ref R2) (.ref R5) = some false)
    (k_2_6 : PySem.W.kitOne K (.ref R2) (.ref R6) = some false)
    (k_2_7 : PySem.W.kitOne K (.ref R2) (.ref R7) = some false)
    (k_2_8 : PySem.W.kitOne K (.ref R2) (.ref R8) = some false)
    (k_2_9 : PySem.W.kitOne K (.ref R2) (.ref R9) = some false)
    (k_2_10 : PySem.W.kitOne K (.ref R2) (.ref R10) = some false)
    (k_2_11 : PySem.W.kitOne K (.ref R2) (.ref R11) = some false)
    (k_2_12 : PySem.W.kitOne K (.ref R2) (.ref R12) = some false)
    (k_2_13 : PySem.W.kitOne K (.ref R2) (.ref R13) = some false)
    (k_2_14 : PySem.W.kitOne K (.ref R2) (.ref R14) = some false)
    (k_2_15 : PySem.W.kitOne K (.ref R2) (.ref R15) = some false)
    (kB_2 : PySem.W.kitOne K (.ref R2) (.ref B) = some true) (kV_2 : PySem.W.kitOne K (.ref R2) (.type "ValueError") = some true) (kL_2 : PySem.W.kitOne K (.ref R2) (.type "LookupError") = some false)
    (k_3_0 : PySem.W.kitOne K (.ref R3) (.ref R0) = some false)
    (k_3_1 : PySem.W.kitOne K (.ref R3) (.ref R1) = some false)
    (k_3_2 : PySem.W.kitOne K (.ref R3) (.ref R2) = some false)
    (k_3_3 : PySem.W.kitOne K (.ref R3) (.ref R3) = some true)
    (k_3_4 : PySem.W.kitOne K (.ref R3) (.ref R4) = some false)
    (k_3_5 : PySem.W.kitOne K (.ref R3) (.ref R5) = some false)
    (k_3_6 : PySem.W.kitOne K (.ref R3) (.ref R6) = some false)
    (k_3_7 : PySem.W.kitOne K (.ref R3) (.ref R7) = some false)
    (k_3_8 : PySem.W.kitOne K (.ref R3) (.ref R8) = some false)
    (k_3_9 : PySem.W.kitOne K (.ref R3) (.ref R9) = some false)
    (k_3_10 : PySem.W.kitOne K (.ref R3) (.ref R10) = some false)
    (k_3_11 : PySem.W.kitOne K (.ref R3) (.ref R11) = some false)
    (k_3_12 : PySem.W.kitOne K (.ref R3) (.ref R12) = some false)
    (k_3_13 : PySem.W.kitOne K (.ref R3) (.ref R13) = some false)
    (k_3_14 : PySem.W.kitOne K (.ref R3) (.ref R14) = some false)
    (k_3_15 : PySem.W.kitOne K (.ref R3) (.ref R15) = some false)
    (kB_3 : PySem.W.kitOne K (.ref R3) (.ref B) = some true) (kV_3 : PySem.W.kitOne K (.ref R3) (.type "ValueError") = some true) (kL_3 : PySem.W.kitOne K (.ref R3) (.type "LookupError") = some false)
    (k_4_0 : PySem.W.kitOne K (.ref R4) (.ref R0) = some false)
    (k_4_1 : PySem.W.kitOne K (.ref R4) (.ref R1) = some false)
    (k_4_2 : PySem.W.kitOne K (.ref R4) (.ref R2) = some false)
    (k_4_3 : PySem.W.kitOne K (.ref R4) (.ref R3) = some false)
    (k_4_4 : PySem.W.kitOne K (.ref R4) (.ref R4) = some true)
    (k_4_5 : PySem.W.kitOne K (.ref R4) (.ref R5) = some false)
    (k_4_6 : PySem.W.kitOne K (.ref R4) (.ref R6) = some false)
    (k_4_7 : PySem.W.kitOne K (.ref R4) (.ref R7) = some false)
    (k_4_8 : PySem.W.kitOne K (.ref R4) (.ref R8) = some false)
    (k_4_9 : PySem.W.kitOne K (.ref R4) (.ref R9) = some false)
    (k_4_10 : PySem.W.kitOne K (.ref R4) (.ref R10) = some false)
    (k_4_11 : PySem.W.kitOne K (.ref R4) (.ref R11) = some false)
    (k_4_12 : PySem.W.kitOne K (.ref R4) (.ref R12) = some false)
    (k_4_13 : PySem.W.kitOne K (.ref R4) (.ref R13) = some false)
    (k_4_14 : PySem.W.kitOne K (.ref R4) (.ref R14) = some false)
    (k_4_15 : PySem.W.kitOne K (.ref R4) (.ref R15) = some false)
    (kB_4 : PySem.W.kitOne K (.ref R4) (.ref B) = some true) (kV_4 : PySem.W.kitOne K (.ref R4) (.type "ValueError") = some true) (kL_4 : PySem.W.kitOne K (.ref R4) (.type "LookupError") = some false)
    (k_5_0 : PySem.W.kitOne K (.ref R5) (.ref R0) = some false)
    (k_5_1 : PySem.W.kitOne K (.ref R5) (.ref R1) = some false)
    (k_5_2 : PySem.W.kitOne K (.ref R5) (.ref R2) = some false)
    (k_5_3 : PySem.W.kitOne K (.ref R5) (.ref R3) = some false)
    (k_5_4 : PySem.W.kitOne K (.ref R5) (.ref R4) = some false)
    (k_5_5 : PySem.W.kitOne K (.ref R5) (.ref R5) = some true)
    (k_5_6 : PySem.W.kitOne K (.ref R5) (.ref R6) = some false)
    (k_5_7 : PySem.W.kitOne K (.ref R5) (.ref R7) = some false)
    (k_5_8 : PySem.W.kitOne K (.ref R5) (.ref R8) = some false)
    (k_5_9 : PySem.W.kitOne K (.ref R5) (.ref R9) = some false)
    (k_5_10 : PySem.W.kitOne K (.ref R5) (.ref R10) = some false)
    (k_5_11 : PySem.W.kitOne K (.ref R5) (.ref R11) = some false)
    (k_5_12 : PySem.W.kitOne K (.ref R5) (.ref R12) = some false)
    (k_5_13 : PySem.W.kitOne K (.ref R5) (.ref R13) = some false)
    (k_5_14 : PySem.W.kitOne K (.ref R5) (.ref R14) = some false)
    (k_5_15 : PySem.W.kitOne K (.ref R5) (.ref R15) = some false)
    (kB_5 : PySem.W.kitOne K (.ref R5) (.ref B) = some true) (kV_5 : PySem.W.kitOne K (.ref R5) (.type "ValueError") = some true) (kL_5 : PySem.W.kitOne K (.ref R5) (.type "LookupError") = some false)
    (k_6_0 : PySem.W.kitOne K (.ref R6) (.ref R0) = some false)
    (k_6_1 : PySem.W.kitOne K (.ref R6) (.ref R1) = some false)
    (k_6_2 : PySem.W.kitOne K (.ref R6) (.ref R2) = some false)
    (k_6_3 : PySem.W.kitOne K (.ref R6) (.ref R3) = some false)
    (k_6_4 : PySem.W.kitOne K (.ref R6) (.ref R4) = some false)
    (k_6_5 : PySem.W.kitOne K (.ref R6) (.ref R5) = some false)
    (k_6_6 : PySem.W.kitOne K (.ref R6) (.ref R6) = some true)
    (k_6_7 : PySem.W.kitOne K (.ref R6) (.ref R7) = some false)
    (k_6_8 : PySem.W.kitOne K (.ref R6) (.ref R8) = some false)
    (k_6_9 : PySem.W.kitOne K (.ref R6) (.ref R9) = some false)
    (k_6_10 : PySem.W.kitOne K (.ref R6) (.ref R10) = some false)
    (k_6_11 : PySem.W.kitOne K (.ref R6) (.ref R11) = some false)
    (k_6_12 : PySem.W.kitOne K (.ref R6) (.ref R12) = some false)
    (k_6_13 : PySem.W.kitOne K (.ref R6) (.ref R13) = some false)
    (k_6_14 : PySem.W.kitOne K (.ref R6) (.ref R14) = some false)
    (k_6_15 : PySem.W.kitOne K (.ref R6) (.ref R15) = some false)
    (kB_6 : PySem.W.kitOne K (.ref R6) (.ref B) = some true) (kV_6 : PySem.W.kitOne K (.ref R6) (.type "ValueError") = some true) (kL_6 : PySem.W.kitOne K (.ref R6) (.type "LookupError") = some false)
    (k_7_0 : PySem.W.kitOne K (.ref R7) (.ref R0) = some false)
    (k_7_1 : PySem.W.kitOne K (.ref R7) (.ref R1) = some false)
    (k_7_2 : PySem.W.kitOne K (.ref R7) (.ref R2) = some false)
    (k_7_3 : PySem.W.kitOne K (.ref R7) (.ref R3) = some false)
    (k_7_4 : PySem.W.kitOne K (.ref R7) (.ref R4) = some false)
    (k_7_5 : PySem.W.kitOne K (.ref R7) (.ref R5) = some false)
    (k_7_6 : PySem.W.kitOne K (.ref R7) (.ref R6) = some false)
    (k_7_7 : PySem.W.kitOne K (.ref R7) (.ref R7) = some true)
    (k_7_8 : PySem.W.kitOne K (.ref R7) (.ref R8) = some false)
    (k_7_9 : PySem.W.kitOne K (.ref R7) (.ref R9) = some false)
    (k_7_10 : PySem.W.kitOne K (.ref R7) (.ref R10) = some false)
    (k_7_11 : PySem.W.kitOne K (.ref R7) (.ref R11) = some false)
    (k_7_12 : PySem.W.kitOne K (.ref R7) (.ref R12) = some false)
    (k_7_13 : PySem.W.kitOne K (.ref R7) (.ref R13) = some false)
    (k_7_14 : PySem.W.kitOne K (.ref R7) (.ref R14) = some false)
    (k_7_15 : PySem.W.kitOne K (.ref R7) (.ref R15) = some false)
    (kB_7 : PySem.W.kitOne K (.ref R7) (.ref B) = some true) (kV_7 : PySem.W.kitOne K (.ref R7) (.type "ValueError") = some true) (kL_7 : PySem.W.kitOne K (.ref R7) (.type "LookupError") = some false)
    (k_8_0 : PySem.W.kitOne K (.ref R8) (.ref R0) = some false)
    (k_8_1 : PySem.W.kitOne K (.ref R8) (.ref R1) = some false)
    (k_8_2 : PySem.W.kitOne K (.ref R8) (.ref R2) = some false)
    (k_8_3 : PySem.W.kitOne K (.ref R8) (.ref R3) = some false)
    (k_8_4 : PySem.W.kitOne K (.ref R8) (.ref R4) = some false)
    (k_8_5 : PySem.W.kitOne K (.ref R8) (.ref R5) = some false)
    (k_8_6 : PySem.W.kitOne K (.ref R8) (.ref R6) = some false)
    (k_8_7 : PySem.W.kitOne K (.ref R8) (.ref R7) = some false)
    (k_8_8 : PySem.W.kitOne K (.ref R8) (.ref R8) = some true)
    (k_8_9 : PySem.W.kitOne K (.ref R8) (.ref R9) = some false)
    (k_8_10 : PySem.W.kitOne K (.ref R8) (.ref R10) = some false)
    (k_8_11 : PySem.W.kitOne K (.ref R8) (.ref R11) = some false)
    (k_8_12 : PySem.W.kitOne K (.ref R8) (.ref R12) = some false)
    (k_8_13 : PySem.W.kitOne K (.ref R8) (.ref R13) = some false)
    (k_8_14 : PySem.W.kitOne K (.ref R8) (.ref R14) = some false)
    (k_8_15 : PySem.W.kitOne K (.ref R8) (.ref R15) = some false)
    (kB_8 : PySem.W.kitOne K (.ref R8) (.ref B) = some true) (kV_8 : PySem.W.kitOne K (.ref R8) (.type "ValueError") = some true) (kL_8 : PySem.W.kitOne K (.ref R8) (.type "LookupError") = some false)
    (k_9_0 : PySem.W.kitOne K (.ref R9) (.ref R0) = some false)
    (k_9_1 : PySem.W.kitOne K (.ref R9) (.ref R1) = some false)
    (k_9_2 : PySem.W.kitOne K (.ref R9) (.ref R2) = some false)
    (k_9_3 : PySem.W.kitOne K (.ref R9) (.ref R3) = some false)
    (k_9_4 : PySem.W.kitOne K (.ref R9) (.ref R4) = some false)
    (k_9_5 : PySem.W.kitOne K (.ref R9) (.ref R5) = some false)
    (k_9_6 : PySem.W.kitOne K (.ref R9) (.ref R6) = some false)
    (k_9_7 : PySem.W.kitOne K (.ref R9) (.ref R7) = some false)
    (k_9_8 : PySem.W.kitOne K (.ref R9) (.ref R8) = some false)
    (k_9_9 : PySem.W.kitOne K (.ref R9) (.ref R9) = some true)
    (k_9_10 : PySem.W.kitOne K (.ref R9) (.ref R10) = some false)
    (k_9_11 : PySem.W.kitOne K (.ref R9) (.ref R11) = some false)
    (k_9_12 : PySem.W.kitOne K (.ref R9) (.ref R12) = some false)
    (k_9_13 : PySem.W.kitOne K (.ref R9) (.ref R13) = some false)
    (k_9_14 : PySem.W.kitOne K (.ref R9) (.ref R14) = some false)
    (k_9_15 : PySem.W.kitOne K (.ref R9) (.ref R15) = some false)
    (kB_9 : PySem.W.kitOne K (.ref R9) (.ref B) = some true) (kV_9 : PySem.W.kitOne K (.ref R9) (.type "ValueError") = some true) (kL_9 : PySem.W.kitOne K (.ref R9) (.type "LookupError") = some false)
    (k_10_0 : PySem.W.kitOne K (.ref R10) (.ref R0) = some false)
    (k_10_1 : PySem.W.kitOne K (.ref R10) (.ref R1) = some false)
    (k_10_2 : PySem.W.kitOne K (.ref R10) (.ref R2) = some false)
    (k_10_3 : PySem.W.kitOne K (.ref R10) (.ref R3) = some false)
    (k_10_4 : PySem.W.kitOne K (.ref R10) (.ref R4) = some false)
    (k_10_5 : PySem.W.kitOne K (.ref R10) (.ref R5) = some false)
    (k_10_6 : PySem.W.kitOne K (.ref R10) (.ref R6) = some false)
    (k_10_7 : PySem.W.kitOne K (.ref R10) (.ref R7) = some false)
    (k_10_8 : PySem.W.kitOne K (.ref R10) (.ref R8) = some false)
    (k_10_9 : PySem.W.kitOne K (.ref R10) (.ref R9) = some false)
    (k_10_10 : PySem.W.kitOne K (.ref R10) (.ref R10) = some true)
    (k_10_11 : PySem.W.kitOne K (.ref R10) (.ref R11) = some false)
    (k_10_12 : PySem.W.kitOne K (.ref R10) (.ref R12) = some false)
    (k_10_13 : PySem.W.kitOne K (.ref R10) (.ref R13) = some false)
    (k_10_14 : PySem.W.kitOne K (.ref R10) (.ref R14) = some false)
    (k_10_15 : PySem.W.kitOne K (.ref R10) (.ref R15) = some false)
    (kB_10 : PySem.W.kitOne K (.ref R10) (.ref B) = some true) (kV_10 : PySem.W.kitOne K (.ref R10) (.type "ValueError") = some true) (kL_10 : PySem.W.kitOne K (.ref R10) (.type "LookupError") = some false)
    (k_11_0 : PySem.W.kitOne K (.ref R11) (.ref R0) = some false)
    (k_11_1 : PySem.W.kitOne K (.ref R11) (.ref R1) = some false)
    (k_11_2 : PySem.W.kitOne K (.ref R11) (.ref R2) = some false)
    (k_11_3 : PySem.W.kitOne K (.ref R11) (.ref R3) = some false)
    (k_11_4 : PySem.W.kitOne K (.ref R11) (.ref R4) = some false)
    (k_11_5 : PySem.W.kitOne K (.ref R11) (.ref R5) = some false)
    (k_11_6 : PySem.W.kitOne K (.ref R11) (.ref R6) = some false)
    (k_11_7 : PySem.W.kitOne K (.ref R11) (.ref R7) = some false)
    (k_11_8 : PySem.W.kitOne K (.ref R11) (.ref R8) = some false)
    (k_11_9 : PySem.W.kitOne K (.ref R11) (.ref R9) = some false)
    (k_11_10 : PySem.W.kitOne K (.ref R11) (.ref R10) = some false)
    (k_11_11 : PySem.W.kitOne K (.ref R11) (.ref R11) = some true)
    (k_11_12 : PySem.W.kitOne K (.ref R11) (.ref R12) = some false)
    (k_11_13 : PySem.W.kitOne K (.ref R11) (.ref R13) = some false)
    (k_11_14 : PySem.W.kitOne K (.ref R11) (.ref R14) = some false)
    (k_11_15 : PySem.W.kitOne K (.ref R11) (.ref R15) = some false)
    (kB_11 : PySem.W.kitOne K (.ref R11) (.ref B) = some true) (kV_11 : PySem.W.kitOne K (.ref R11) (.type "ValueError") = some true) (kL_11 : PySem.W.kitOne K (.ref R11) (.type "LookupError") = some false)
    (k_12_0 : PySem.W.kitOne K (.ref R12) (.ref R0) = some false)
    (k_12_1 : PySem.W.kitOne K (.ref R12) (.ref R1) = some false)
    (k_12_2 : PySem.W.kitOne K (.ref R12) (.ref R2) = some false)
    (k_12_3 : PySem.W.kitOne K (.ref R12) (.ref R3) = some false)
    (k_12_4 : PySem.W.kitOne K (.ref R12) (.ref R4) = some false)
    (k_12_5 : PySem.W.kitOne K (.ref R12) (.ref R5) = some false)
    (k_12_6 : PySem.W.kitOne K (.ref R12) (.ref R6) = some false)
    (k_12_7 : PySem.W.kitOne K (.ref R12) (.ref R7) = some false)
    (k_12_8 : PySem.W.kitOne K (.ref R12) (.ref R8) = some false)
    (k_12_9 : PySem.W.kitOne K (.ref R12) (.ref R9) = some false)
    (k_12_10 : PySem.W.kitOne K (.ref R12) (.ref R10) = some false)
    (k_12_11 : PySem.W.kitOne K (.ref R12) (.ref R11) = some false)
    (k_12_12 : PySem.W.kitOne K (.ref R12) (.ref R12) = some true)
    (k_12_13 : PySem.W.kitOne K (.ref R12) (.ref R13) = some false)
    (k_12_14 : PySem.W.kitOne K (.ref R12) (.ref R14) = some false)
    (k_12_15 : PySem.W.kitOne K (.ref R12) (.ref R15) = some false)
    (kB_12 : PySem.W.kitOne K (.ref R12) (.ref B) = some true) (kV_12 : PySem.W.kitOne K (.ref R12) (.type "ValueError") = some true) (kL_12 : PySem.W.kitOne K (.ref R12) (.type "LookupError") = some false)
    (k_13_0 : PySem.W.kitOne K (.ref R13) (.ref R0) = some false)
    (k_13_1 : PySem.W.kitOne K (.ref R13) (.ref R1) = some false)
    (k_13_2 : PySem.W.kitOne K (.ref R13) (.ref R2) = some false)
    (k_13_3 : PySem.W.kitOne K (.ref R13) (.ref R3) = some false)
    (k_13_4 : PySem.W.kitOne K (.ref R13) (.ref R4) = some false)
    (k_13_5 : PySem.W.kitOne K (.ref R13) (.ref R5) = some false)
    (k_13_6 : PySem.W.kitOne K (.ref R13) (.ref R6) = some false)
    (k_13_7 : PySem.W.kitOne K (.ref R13) (.ref R7) = some false)
    (k_13_8 : PySem.W.kitOne K (.ref R13) (.ref R8) = some false)
    (k_13_9 : PySem.W.kitOne K (.ref R13) (.ref R9) = some false)
    (k_13_10 : PySem.W.kitOne K (.ref R13) (.ref R10) = some false)
    (k_13_11 : PySem.W.kitOne K (.ref R13) (.ref R11) = some false)
    (k_13_12 : PySem.W.kitOne K (.ref R13) (.ref R12) = some false)
    (k_13_13 : PySem.W.kitOne K (.ref R13) (.ref R13) = some true)
    (k_13_14 : PySem.W.kitOne K (.ref R13) (.ref R14) = some false)
    (k_13_15 : PySem.W.kitOne K (.ref R13) (.ref R15) = some false)
    (kB_13 : PySem.W.kitOne K (.ref R13) (.ref B) = some true) (kV_13 : PySem.W.kitOne K (.ref R13) (.type "ValueError") = some true) (kL_13 : PySem.W.kitOne K (.ref R13) (.type "LookupError") = some false)
    (k_14_0 : PySem.W.kitOne K (.ref R14) (.ref R0) = some false)
    (k_14_1 : PySem.W.kitOne K (.ref R14) (.ref R1) = some false)
    (k_14_2 : PySem.W.kitOne K (.ref R14) (.ref R2) = some false)
    (k_14_3 : PySem.W.kitOne K (.ref R14) (.ref R3) = some false)
    (k_14_4 : PySem.W.kitOne K (.ref R14) (.ref R4) = some false)
    (k_14_5 : PySem.W.kitOne K (.ref R14) (.ref R5) = some false)
    (k_14_6 : PySem.W.kitOne K (.ref R14) (.ref R6) = some false)
    (k_14_7 : PySem.W.kitOne K (.ref R14) (.ref R7) = some false)
    (k_14_8 : PySem.W.kitOne K (.ref R14) (.ref R8) = some false)
    (k_14_9 : PySem.W.kitOne K (.ref R14) (.ref R9) = some false)
    (k_14_10 : PySem.W.kitOne K (.ref R14) (.ref R10) = some false)
    (k_14_11 : PySem.W.kitOne K (.ref R14) (.ref R11) = some false)
    (k_14_12 : PySem.W.kitOne K (.ref R14) (.ref R12) = some false)
    (k_14_13 : PySem.W.kitOne K (.ref R14) (.ref R13) = some false)
    (k_14_14 : PySem.W.kitOne K (.ref R14) (.ref R14) = some true)
    (k_14_15 : PySem.W.kitOne K (.ref R14) (.ref R15) = some false)
    (kB_14 : PySem.W.kitOne K (.ref R14) (.ref B) = some true) (kV_14 : PySem.W.kitOne K (.ref R14) (.type "ValueError") = some true) (kL_14 : PySem.W.kitOne K (.ref R14) (.type "LookupError") = some false)
    (k_15_0 : PySem.W.kitOne K (.ref R15) (.ref R0) = some false)
    (k_15_1 : PySem.W.kitOne K (.ref R15) (.ref R1) = some false)
    (k_15_2 : PySem.W.kitOne K (.ref R15) (.ref R2) = some false)
    (k_15_3 : PySem.W.kitOne K (.ref R15) (.ref R3) = some false)
    (k_15_4 : PySem.W.kitOne K (.ref R15) (.ref R4) = some false)
    (k_15_5 : PySem.W.kitOne K (.ref R15) (.ref R5) = some false)
    (k_15_6 : PySem.W.kitOne K (.ref R15) (.ref R6) = some false)
    (k_15_7 : PySem.W.kitOne K (.ref R15) (.ref R7) = some false)
    (k_15_8 : PySem.W.kitOne K (.ref R15) (.ref R8) = some false)
    (k_15_9 : PySem.W.kitOne K (.ref R15) (.ref R9) = some false)
    (k_15_10 : PySem.W.kitOne K (.ref R15) (.ref R10) = some false)
    (k_15_11 : PySem.W.kitOne K (.ref R15) (.ref R11) = some false)
    (k_15_12 : PySem.W.kitOne K (.ref R15) (.ref R12) = some false)
    (k_15_13 : PySem.W.kitOne K (.ref R15) (.ref R13) = some false)
    (k_15_14 : PySem.W.kitOne K (.ref R15) (.ref R14) = some false)
    (k_15_15 : PySem.W.kitOne K (.ref R15) (.ref R15) = some true)
    (kB_15 : PySem.W.kitOne K (.ref R15) (.ref B) = some true) (kV_15 : PySem.W.kitOne K (.ref R15) (.type "ValueError") = some true) (kL_15 : PySem.W.kitOne K (.ref R15) (.type "LookupError") = some false)
    {tl0 tn0 : Tok} (gLet : PySem.W.nsIn K mainGlobals "LETTERS" = some (some (.str abc tl0))) (gLong : PySem.W.nsIn K mainGlobals "LONGEST" = some (some (.int 8 tn0)))
    (z_len : PySem.W.nsIn K mainGlobals "len" = some none)
    (z_int : PySem.W.nsIn K mainGlobals "int" = some none)
    (z_abs : PySem.W.nsIn K mainGlobals "abs" = some none)
    (z_range : PySem.W.nsIn K mainGlobals "range" = some none)
    (z_repr : PySem.W.nsIn K mainGlobals "repr" = some none)
    (z_isinstance : PySem.W.nsIn K mainGlobals "isinstance" = some none)
    (z_all : PySem.W.nsIn K mainGlobals "all" = some none)
    (z_tuple : PySem.W.nsIn K mainGlobals "tuple" = some none)
    (z_list : PySem.W.nsIn K mainGlobals "list" = some none)
    (z_str : PySem.W.nsIn K mainGlobals "str" = some none)
    (z_bool : PySem.W.nsIn K mainGlobals "bool" = some none)
    (z_dict : PySem.W.nsIn K mainGlobals "dict" = some none)
    (z_sorted : PySem.W.nsIn K mainGlobals "sorted" = some none)
    (z_enumerate : PySem.W.nsIn K mainGlobals "enumerate" = some none)
    (z_zip : PySem.W.nsIn K mainGlobals "zip" = some none)
    (z_min : PySem.W.nsIn K mainGlobals "min" = some none)
    (z_ValueError : PySem.W.nsIn K mainGlobals "ValueError" = some none)
    (z_LookupError : PySem.W.nsIn K mainGlobals "LookupError" = some none)
    : ∃ fd : FuncData, (∀ (s : Shared) (v : Value), BindsTo s fd ⟨[v], []⟩ [("_law_script", v)]) ∧ ∀ base : Heap, K.In base → base.Ns mainGlobals mg → FnG l.prog w K mg base 8 fa fd ["_law_script"] (spLaw K) := by
  have e := hfa.symm.trans (PySem.W.mg_of X G a13)
  cases e
  have F0 := fun_mk (st := s_is_integer) l0 c0 k0
  have b0 := F0.binds (ps := ["thing"]) fun _ _ _ _ _ _ us hl => match us, hl with | [_], _ => rfl
  have g0 := PySem.W.mg_of X G a0
  have F1 := fun_mk (st := s_is_name) l1 c1 k1
  have b1 := F1.binds (ps := ["thing"]) fun _ _ _ _ _ _ us hl => match us, hl with | [_], _ => rfl
  have g1 := PySem.W.mg_of X G a1
  have F2 := fun_mk (st := s_is_bound) l2 c2 k2
  have b2 := F2.binds (ps := ["thing"]) fun _ _ _ _ _ _ us hl => match us, hl with | [_], _ => rfl
  have g2 := PySem.W.mg_of X G a2
  have F3 := fun_mk (st := s_is_bounds) l3 c3 k3
  have b3 := F3.binds (ps := ["thing"]) fun _ _ _ _ _ _ us hl => match us, hl with | [_], _ => rfl
  have g3 := PySem.W.mg_of X G a3
  have F4 := fun_mk (st := s__law_bag) l4 c4 k4
  have b4 := F4.binds (ps := ["_law_script"]) fun _ _ _ _ _ _ us hl => match us, hl with | [_], _ => rfl
  have g4 := PySem.W.mg_of X G a4
  have F5 := fun_mk (st := s__law_take) l5 c5 k5
  have b5 := F5.binds (ps := ["_law_bag_here", "_law_many"]) fun _ _ _ _ _ _ us hl => match us, hl with | [_, _], _ => rfl
  have g5 := PySem.W.mg_of X G a5
  have F6 := fun_mk (st := s__law_alike) l6 c6 k6
  have b6 := F6.binds (ps := ["_law_found", "_law_due"]) fun _ _ _ _ _ _ us hl => match us, hl with | [_, _], _ => rfl
  have g6 := PySem.W.mg_of X G a6
  have F7 := fun_mk (st := s__law_names) l7 c7 k7
  have b7 := F7.binds (ps := ["_law_bag_here", "_law_many"]) fun _ _ _ _ _ _ us hl => match us, hl with | [_, _], _ => rfl
  have g7 := PySem.W.mg_of X G a7
  have F8 := fun_mk (st := s_raise) l8 c8 k8
  have b8 := F8.binds (ps := ["_law_k", "_law_one", "_law_two"]) fun _ _ _ _ _ _ us hl => match us, hl with | [_, _, _], _ => rfl
  have g8 := PySem.W.mg_of X G a8
  have F9 := fun_mk (st := s_cls) l9 c9 k9
  have b9 := F9.binds (ps := ["_law_e"]) fun _ _ _ _ _ _ us hl => match us, hl with | [_], _ => rfl
  have g9 := PySem.W.mg_of X G a9
  have F10 := fun_mk (st := s_fi) l10 c10 k10
  have b10 := F10.binds (ps := ["_law_k", "_law_e"]) fun _ _ _ _ _ _ us hl => match us, hl with | [_, _], _ => rfl
  have g10 := PySem.W.mg_of X G a10
  have F11 := fun_mk (st := s__law_value) l11 c11 k11
  have b11 := F11.binds (ps := ["_law_bag_here"]) fun _ _ _ _ _ _ us hl => match us, hl with | [_], _ => rfl
  have g11 := PySem.W.mg_of X G a11
  have F12 := fun_mk (st := s_tk) l12 c12 k12
  have b12 := F12.binds (ps := ["_law_k", "_law_one", "_law_two"]) fun _ _ _ _ _ _ us hl => match us, hl with | [_, _, _], _ => rfl
  have g12 := PySem.W.mg_of X G a12
  have F13 := fun_mk (st := s_law) l13 c13 k13
  have Fm0 := fun_mk (st := (cL 0)) lm0 cm0 km0
  have bm0 := Fm0.binds (ps := ["self", "bounds"]) fun _ _ _ _ _ _ us hl => match us, hl with | [_, _], _ => rfl
  have Fm1 := fun_mk (st := s_x0) lm1 cm1 km1
  have bm1 := Fm1.binds (ps := ["self", "place"]) fun _ _ _ _ _ _ us hl => match us, hl with | [_, _], _ => rfl
  have Fm2 := fun_mk (st := s_x1) lm2 cm2 km2
  have bm2 := Fm2.binds (ps := ["self", "lane"]) fun _ _ _ _ _ _ us hl => match us, hl with | [_, _], _ => rfl
  have Fm3 := fun_mk (st := s_x2) lm3 cm3 km3
  have bm3 := Fm3.binds (ps := ["self", "word", "lane"]) fun _ _ _ _ _ _ us hl => match us, hl with | [_, _, _], _ => rfl
  have Fm4 := fun_mk (st := s_x3) lm4 cm4 km4
  have bm4 := Fm4.binds (ps := ["self", "place"]) fun _ _ _ _ _ _ us hl => match us, hl with | [_, _], _ => rfl
  have Fm5 := fun_mk (st := s_x4) lm5 cm5 km5
  have bm5 := Fm5.binds (ps := ["self", "index"]) fun _ _ _ _ _ _ us hl => match us, hl with | [_, _], _ => rfl
  have Fm6 := fun_mk (st := s_x5) lm6 cm6 km6
  have bm6 := Fm6.binds (ps := ["self", "place"]) fun _ _ _ _ _ _ us hl => match us, hl with | [_, _], _ => rfl
  have Fm7 := fun_mk (st := s_x6) lm7 cm7 km7
  have bm7 := Fm7.binds (ps := ["self", "what"]) fun _ _ _ _ _ _ us hl => match us, hl with | [_, _], _ => rfl
  have Fm8 := fun_mk (st := s_x7) lm8 cm8 km8
  have bm8 := Fm8.binds (ps := ["self", "kind"]) fun _ _ _ _ _ _ us hl => match us, hl with | [_, _], _ => rfl
  have Fm9 := fun_mk (st := s_x8) lm9 cm9 km9
  have bm9 := Fm9.binds (ps := ["self", "place"]) fun _ _ _ _ _ _ us hl => match us, hl with | [_, _], _ => rfl
  have Fm10 := fun_mk (st := s_x9) lm10 cm10 km10
  have bm10 := Fm10.binds (ps := ["self", "index"]) fun _ _ _ _ _ _ us hl => match us, hl with | [_, _], _ => rfl
  have Fm11 := fun_mk (st := s_x10) lm11 cm11 km11
  have bm11 := Fm11.binds (ps := ["self", "most"]) fun _ _ _ _ _ _ us hl => match us, hl with | [_, _], _ => rfl
  have Fm12 := fun_mk (st := s_x11) lm12 cm12 km12
  have bm12 := Fm12.binds (ps := ["self", "many"]) fun _ _ _ _ _ _ us hl => match us, hl with | [_, _], _ => rfl
  have Fm13 := fun_mk (st := s_x12) lm13 cm13 km13
  have bm13 := Fm13.binds (ps := ["self"]) fun _ _ _ _ _ _ us hl => match us, hl with | [_], _ => rfl
  have Fm14 := fun_mk (st := s_x13) lm14 cm14 km14
  have bm14 := Fm14.binds (ps := ["self"]) fun _ _ _ _ _ _ us hl => match us, hl with | [_], _ => rfl
  have Fm15 := fun_mk (st := s_x14) lm15 cm15 km15
  have bm15 := Fm15.binds (ps := ["self"]) fun _ _ _ _ _ _ us hl => match us, hl with | [_], _ => rfl
  have Fm16 := fun_mk (st := s_x15) lm16 cm16 km16
  have bm16 := Fm16.binds (ps := ["self"]) fun _ _ _ _ _ _ us hl => match us, hl with | [_], _ => rfl
  have T : BT mg := ⟨PySem.W.mg_none_of X G z_len, PySem.W.mg_none_of X G z_int, PySem.W.mg_none_of X G z_abs, PySem.W.mg_none_of X G z_range, PySem.W.mg_none_of X G z_repr, PySem.W.mg_none_of X G z_isinstance, PySem.W.mg_none_of X G z_all, PySem.W.mg_none_of X G z_tuple, PySem.W.mg_none_of X G z_list, PySem.W.mg_none_of X G z_str, PySem.W.mg_none_of X G z_bool, PySem.W.mg_none_of X G z_dict, PySem.W.mg_none_of X G z_sorted⟩
  have L : LT K mg C := ⟨⟨pgC, hdC, poC, saC⟩, nN, nB, nS, PySem.W.mg_of X G aGC, PySem.W.mg_none_of X G z_enumerate, PySem.W.mg_none_of X G z_zip⟩
  have X0 : XC K mg "Wrong" R0 := ⟨PySem.W.mg_of X G aGR0, ⟨⟨_, _, _, _, _, _, _, _, _, _, _, _, _, _, _, xR0, vR0⟩, saR0, exR0, tyR0, kR0⟩, ⟨gaR0, ggR0, exR0, hdR0, clR0, ocg, oct, moR0⟩, ⟨gaR0, ggR0, exR0, hdR0⟩⟩
  have X1 : XC K mg "NoLane" R1 := ⟨PySem.W.mg_of X G aGR1, ⟨⟨_, _, _, _, _, _, _, _, _, _, _, _, _, _, _, xR1, vR1⟩, saR1, exR1, tyR1, kR1⟩, ⟨gaR1, ggR1, exR1, hdR1, clR1, ocg, oct, moR1⟩, ⟨gaR1, ggR1, exR1, hdR1⟩⟩
  have X2 : XC K mg "Shut" R2 := ⟨PySem.W.mg_of X G aGR2, ⟨⟨_, _, _, _, _, _, _, _, _, _, _, _, _, _, _, xR2, vR2⟩, saR2, exR2, tyR2, kR2⟩, ⟨gaR2, ggR2, exR2, hdR2, clR2, ocg, oct, moR2⟩, ⟨gaR2, ggR2, exR2, hdR2⟩⟩
  have X3 : XC K mg "NoPlace" R3 := ⟨PySem.W.mg_of X G aGR3, ⟨⟨_, _, _, _, _, _, _, _, _, _, _, _, _, _, _, xR3, vR3⟩, saR3, exR3, tyR3, kR3⟩, ⟨gaR3, ggR3, exR3, hdR3, clR3, ocg, oct, moR3⟩, ⟨gaR3, ggR3, exR3, hdR3⟩⟩
  have X4 : XC K mg "NoArm" R4 := ⟨PySem.W.mg_of X G aGR4, ⟨⟨_, _, _, _, _, _, _, _, _, _, _, _, _, _, _, xR4, vR4⟩, saR4, exR4, tyR4, kR4⟩, ⟨gaR4, ggR4, exR4, hdR4, clR4, ocg, oct, moR4⟩, ⟨gaR4, ggR4, exR4, hdR4⟩⟩
  have X5 : XC K mg "TwoElse" R5 := ⟨PySem.W.mg_of X G aGR5, ⟨⟨_, _, _, _, _, _, _, _, _, _, _, _, _, _, _, xR5, vR5⟩, saR5, exR5, tyR5, kR5⟩, ⟨gaR5, ggR5, exR5, hdR5, clR5, ocg, oct, moR5⟩, ⟨gaR5, ggR5, exR5, hdR5⟩⟩
  have X6 : XC K mg "Refused" R6 := ⟨PySem.W.mg_of X G aGR6, ⟨⟨_, _, _, _, _, _, _, _, _, _, _, _, _, _, _, xR6, vR6⟩, saR6, exR6, tyR6, kR6⟩, ⟨gaR6, ggR6, exR6, hdR6, clR6, ocg, oct, moR6⟩, ⟨gaR6, ggR6, exR6, hdR6⟩⟩
  have X7 : XC K mg "NoKind" R7 := ⟨PySem.W.mg_of X G aGR7, ⟨⟨_, _, _, _, _, _, _, _, _, _, _, _, _, _, _, xR7, vR7⟩, saR7, exR7, tyR7, kR7⟩, ⟨gaR7, ggR7, exR7, hdR7, clR7, ocg, oct, moR7⟩, ⟨gaR7, ggR7, exR7, hdR7⟩⟩
  have X8 : XC K mg "NoSeat" R8 := ⟨PySem.W.mg_of X G aGR8, ⟨⟨_, _, _, _, _, _, _, _, _, _, _, _, _, _, _, xR8, vR8⟩, saR8, exR8, tyR8, kR8⟩, ⟨gaR8, ggR8, exR8, hdR8, clR8, ocg, oct, moR8⟩, ⟨gaR8, ggR8, exR8, hdR8⟩⟩
  have X9 : XC K mg "Stopped" R9 := ⟨PySem.W.mg_of X G aGR9, ⟨⟨_, _, _, _, _, _, _, _, _, _, _, _, _, _, _, xR9, vR9⟩, saR9, exR9, tyR9, kR9⟩, ⟨gaR9, ggR9, exR9, hdR9, clR9, ocg, oct, moR9⟩, ⟨gaR9, ggR9, exR9, hdR9⟩⟩
  have X10 : XC K mg "TooMany" R10 := ⟨PySem.W.mg_of X G aGR10, ⟨⟨_, _, _, _, _, _, _, _, _, _, _, _, _, _, _, xR10, vR10⟩, saR10, exR10, tyR10, kR10⟩, ⟨gaR10, ggR10, exR10, hdR10, clR10, ocg, oct, moR10⟩, ⟨gaR10, ggR10, exR10, hdR10⟩⟩
  have X11 : XC K mg "NoEntry" R11 := ⟨PySem.W.mg_of X G aGR11, ⟨⟨_, _, _, _, _, _, _, _, _, _, _, _, _, _, _, xR11, vR11⟩, saR11, exR11, tyR11, kR11⟩, ⟨gaR11, ggR11, exR11, hdR11, clR11, ocg, oct, moR11⟩, ⟨gaR11, ggR11, exR11, hdR11⟩⟩
  have X12 : XC K mg "Full" R12 := ⟨PySem.W.mg_of X G aGR12, ⟨⟨_, _, _, _, _, _, _, _, _, _, _, _, _, _, _, xR12, vR12⟩, saR12, exR12, tyR12, kR12⟩, ⟨gaR12, ggR12, exR12, hdR12, clR12, ocg, oct, moR12⟩, ⟨gaR12, ggR12, exR12, hdR12⟩⟩
  have X13 : XC K mg "Nothing" R13 := ⟨PySem.W.mg_of X G aGR13, ⟨⟨_, _, _, _, _, _, _, _, _, _, _, _, _, _, _, xR13, vR13⟩, saR13, exR13, tyR13, kR13⟩, ⟨gaR13, ggR13, exR13, hdR13, clR13, ocg, oct, moR13⟩, ⟨gaR13, ggR13, exR13, hdR13⟩⟩
  have X14 : XC K mg "NoText" R14 := ⟨PySem.W.mg_of X G aGR14, ⟨⟨_, _, _, _, _, _, _, _, _, _, _, _, _, _, _, xR14, vR14⟩, saR14, exR14, tyR14, kR14⟩, ⟨gaR14, ggR14, exR14, hdR14, clR14, ocg, oct, moR14⟩, ⟨gaR14, ggR14, exR14, hdR14⟩⟩
  have X15 : XC K mg "NoCommand" R15 := ⟨PySem.W.mg_of X G aGR15, ⟨⟨_, _, _, _, _, _, _, _, _, _, _, _, _, _, _, xR15, vR15⟩, saR15, exR15, tyR15, kR15⟩, ⟨gaR15, ggR15, exR15, hdR15, clR15, ocg, oct, moR15⟩, ⟨gaR15, ggR15, exR15, hdR15⟩⟩
  refine ⟨PySem.W.fnOf "law" "law" (defArgs s_law) (defBody s_law) (defScope s_law) .none kV13 dc13 pm13 an13 cd13 ct13, fun s v => .of_eq rfl, fun base _ _ => ?_⟩
  have I0 : XI l.prog w K mg base R0 ["self", "place"] (spX1 "place" R0) := ⟨_, _, ok_x0 Fm1 X0.ox nFR0_place, am1, im1, bm1⟩
  have I1 : XI l.prog w K mg base R1 ["self", "lane"] (spX1 "lane" R1) := ⟨_, _, ok_x1 Fm2 X1.ox nFR1_lane, am2, im2, bm2⟩
  have I2 : XI l.prog w K mg base R2 ["self", "word", "lane"] (spX2 R2) := ⟨_, _, ok_x2 Fm3 X2.ox nFR2_word nFR2_lane, am3, im3, bm3⟩
  have I3 : XI l.prog w K mg base R3 ["self", "place"] (spX1 "place" R3) := ⟨_, _, ok_x3 Fm4 X3.ox nFR3_place, am4, im4, bm4⟩
  have I4 : XI l.prog w K mg base R4 ["self", "index"] (spX1 "index" R4) := ⟨_, _, ok_x4 Fm5 X4.ox nFR4_index, am5, im5, bm5⟩
  have I5 : XI l.prog w K mg base R5 ["self", "place"] (spX1 "place" R5) := ⟨_, _, ok_x5 Fm6 X5.ox nFR5_place, am6, im6, bm6⟩
  have I6 : XI l.prog w K mg base R6 ["self", "what"] (spX1 "what" R6) := ⟨_, _, ok_x6 Fm7 X6.ox nFR6_what, am7, im7, bm7⟩
  have I7 : XI l.prog w K mg base R7 ["self", "kind"] (spX1 "kind" R7) := ⟨_, _, ok_x7 Fm8 X7.ox nFR7_kind, am8, im8, bm8⟩
  have I8 : XI l.prog w K mg base R8 ["self", "place"] (spX1 "place" R8) := ⟨_, _, ok_x8 Fm9 X8.ox nFR8_place, am9, im9, bm9⟩
  have I9 : XI l.prog w K mg base R9 ["self", "index"] (spX1 "index" R9) := ⟨_, _, ok_x9 Fm10 X9.ox nFR9_index, am10, im10, bm10⟩
  have I10 : XI l.prog w K mg base R10 ["self", "most"] (spX1 "most" R10) := ⟨_, _, ok_x10 Fm11 X10.ox nFR10_most, am11, im11, bm11⟩
  have I11 : XI l.prog w K mg base R11 ["self", "many"] (spX1 "many" R11) := ⟨_, _, ok_x11 Fm12 X11.ox nFR11_many, am12, im12, bm12⟩
  have I12 : XI l.prog w K mg base R12 ["self"] (spPass) := ⟨_, _, ok_x12 Fm13, am13, im13, bm13⟩
  have I13 : XI l.prog w K mg base R13 ["self"] (spPass) := ⟨_, _, ok_x13 Fm14, am14, im14, bm14⟩
  have I14 : XI l.prog w K mg base R14 ["self"] (spPass) := ⟨_, _, ok_x14 Fm15, am15, im15, bm15⟩
  have I15 : XI l.prog w K mg base R15 ["self"] (spPass) := ⟨_, _, ok_x15 Fm16, am16, im16, bm16⟩
  have ec : ∀ k, k < 16 → ExcC K (clF [R0, R1, R2, R3, R4, R5, R6, R7, R8, R9, R10, R11, R12, R13, R14, R15] k) := all16 X0.ec X1.ec X2.ec X3.ec X4.ec X5.ec X6.ec X7.ec X8.ec X9.ec X10.ec X11.ec X12.ec X13.ec X14.ec X15.ec
  have kk : ∀ k, k < 16 → ∀ j, j < 16 → PySem.W.kitOne K (.ref (clF [R0, R1, R2, R3, R4, R5, R6, R7, R8, R9, R10, R11, R12, R13, R14, R15] k)) (.ref (clF [R0, R1, R2, R3, R4, R5, R6, R7, R8, R9, R10, R11, R12, R13, R14, R15] j)) = some (decide (j = k)) := all16 (all16 k_0_0 k_0_1 k_0_2 k_0_3 k_0_4 k_0_5 k_0_6 k_0_7 k_0_8 k_0_9 k_0_10 k_0_11 k_0_12 k_0_13 k_0_14 k_0_15) (all16 k_1_0 k_1_1 k_1_2 k_1_3 k_1_4 k_1_5 k_1_6 k_1_7 k_1_8 k_1_9 k_1_10 k_1_11 k_1_12 k_1_13 k_1_14 k_1_15) (all16 k_2_0 k_2_1 k_2_2 k_2_3 k_2_4 k_2_5 k_2_6 k_2_7 k_2_8 k_2_9 k_2_10 k_2_11 k_2_12 k_2_13 k_2_14 k_2_15) (all16 k_3_0 k_3_1 k_3_2 k_3_3 k_3_4 k_3_5 k_3_6 k_3_7 k_3_8 k_3_9 k_3_10 k_3_11 k_3_12 k_3_13 k_3_14 k_3_15) (all16 k_4_0 k_4_1 k_4_2 k_4_3 k_4_4 k_4_5 k_4_6 k_4_7 k_4_8 k_4_9 k_4_10 k_4_11 k_4_12 k_4_13 k_4_14 k_4_15) (all16 k_5_0 k_5_1 k_5_2 k_5_3 k_5_4 k_5_5 k_5_6 k_5_7 k_5_8 k_5_9 k_5_10 k_5_11 k_5_12 k_5_13 k_5_14 k_5_15) (all16 k_6_0 k_6_1 k_6_2 k_6_3 k_6_4 k_6_5 k_6_6 k_6_7 k_6_8 k_6_9 k_6_10 k_6_11 k_6_12 k_6_13 k_6_14 k_6_15) (all16 k_7_0 k_7_1 k_7_2 k_7_3 k_7_4 k_7_5 k_7_6 k_7_7 k_7_8 k_7_9 k_7_10 k_7_11 k_7_12 k_7_13 k_7_14 k_7_15) (all16 k_8_0 k_8_1 k_8_2 k_8_3 k_8_4 k_8_5 k_8_6 k_8_7 k_8_8 k_8_9 k_8_10 k_8_11 k_8_12 k_8_13 k_8_14 k_8_15) (all16 k_9_0 k_9_1 k_9_2 k_9_3 k_9_4 k_9_5 k_9_6 k_9_7 k_9_8 k_9_9 k_9_10 k_9_11 k_9_12 k_9_13 k_9_14 k_9_15) (all16 k_10_0 k_10_1 k_10_2 k_10_3 k_10_4 k_10_5 k_10_6 k_10_7 k_10_8 k_10_9 k_10_10 k_10_11 k_10_12 k_10_13 k_10_14 k_10_15) (all16 k_11_0 k_11_1 k_11_2 k_11_3 k_11_4 k_11_5 k_11_6 k_11_7 k_11_8 k_11_9 k_11_10 k_11_11 k_11_12 k_11_13 k_11_14 k_11_15) (all16 k_12_0 k_12_1 k_12_2 k_12_3 k_12_4 k_12_5 k_12_6 k_12_7 k_12_8 k_12_9 k_12_10 k_12_11 k_12_12 k_12_13 k_12_14 k_12_15) (all16 k_13_0 k_13_1 k_13_2 k_13_3 k_13_4 k_13_5 k_13_6 k_13_7 k_13_8 k_13_9 k_13_10 k_13_11 k_13_12 k_13_13 k_13_14 k_13_15) (all16 k_14_0 k_14_1 k_14_2 k_14_3 k_14_4 k_14_5 k_14_6 k_14_7 k_14_8 k_14_9 k_14_10 k_14_11 k_14_12 k_14_13 k_14_14 k_14_15) (all16 k_15_0 k_15_1 k_15_2 k_15_3 k_15_4 k_15_5 k_15_6 k_15_7 k_15_8 k_15_9 k_15_10 k_15_11 k_15_12 k_15_13 k_15_14 k_15_15)
  have Z : Cls16 l.prog w K mg base B (clF [R0, R1, R2, R3, R4, R5, R6, R7, R8, R9, R10, R11, R12, R13, R14, R15]) := ⟨X0, I0, nFR0_place, X1, I1, nFR1_lane, X2, I2, nFR2_word, nFR2_lane, X3, I3, nFR3_place, X4, I4, nFR4_index, X5, I5, nFR5_place, X6, I6, nFR6_what, X7, I7, nFR7_kind, X8, I8, nFR8_place, X9, I9, nFR9_index, X10, I10, nFR10_most, X11, I11, nFR11_many, X12, I12, X13, I13, X14, I14, X15, I15, ec, PySem.W.mg_of X G aGB, all16 (PySem.W.exm_ref exB hdB tyB sBR0) (PySem.W.exm_ref exB hdB tyB sBR1) (PySem.W.exm_ref exB hdB tyB sBR2) (PySem.W.exm_ref exB hdB tyB sBR3) (PySem.W.exm_ref exB hdB tyB sBR4) (PySem.W.exm_ref exB hdB tyB sBR5) (PySem.W.exm_ref exB hdB tyB sBR6) (PySem.W.exm_ref exB hdB tyB sBR7) (PySem.W.exm_ref exB hdB tyB sBR8) (PySem.W.exm_ref exB hdB tyB sBR9) (PySem.W.exm_ref exB hdB tyB sBR10) (PySem.W.exm_ref exB hdB tyB sBR11) (PySem.W.exm_ref exB hdB tyB sBR12) (PySem.W.exm_ref exB hdB tyB sBR13) (PySem.W.exm_ref exB hdB tyB sBR14) (PySem.W.exm_ref exB hdB tyB sBR15), fun j k hj hk => kk k hk j hj, all16 kB_0 kB_1 kB_2 kB_3 kB_4 kB_5 kB_6 kB_7 kB_8 kB_9 kB_10 kB_11 kB_12 kB_13 kB_14 kB_15, all16 kV_0 kV_1 kV_2 kV_3 kV_4 kV_5 kV_6 kV_7 kV_8 kV_9 kV_10 kV_11 kV_12 kV_13 kV_14 kV_15, all16 kL_0 kL_1 kL_2 kL_3 kL_4 kL_5 kL_6 kL_7 kL_8 kL_9 kL_10 kL_11 kL_12 kL_13 kL_14 kL_15, PySem.W.mg_none_of X G z_ValueError, PySem.W.mg_none_of X G z_LookupError⟩
  have C1 : Ca l.prog w K mg base 1 "is_integer" ["thing"] (spPred Any isIntD) := ⟨_, _, ok_is_integer F0 T, g0, k0, b0⟩
  have C3 : Ca l.prog w K mg base 1 "is_name" ["thing"] (spPred Ok1 isNameD) := ⟨_, _, ok_is_name F1 T (PySem.W.mg_of X G gLet) (PySem.W.mg_of X G gLong), g1, k1, b1⟩
  have C4 : Ca l.prog w K mg base 2 "is_bound" ["thing"] (spPred Any isBoundD) := ⟨_, _, ok_is_bound F2 C1, g2, k2, b2⟩
  have C5 : Ca l.prog w K mg base 3 "is_bounds" ["thing"] (spIsBounds) := ⟨_, _, ok_is_bounds F3 T C3 C4, g3, k3, b3⟩
  have ML : MkL l.prog w K mg base C := ⟨_, _, ok_init Fm0 T L C5, ⟨mkC, am0, im0, kcC⟩, bm0⟩
  have CB : Ca l.prog w K mg base 1 "_law_bag" ["_law_script"] (spBag K) := ⟨_, _, hideBag (ok_bag F4 T), g4, k4, b4⟩
  have CT : Ca l.prog w K mg base 1 "_law_take" ["_law_bag_here", "_law_many"] (spTake) := ⟨_, _, hide (ok_take F5 T), g5, k5, b5⟩
  have CA : Cg l.prog w K mg base 1 "_law_alike" ["_law_found", "_law_due"] (spAlike) := ⟨_, _, ok_alike F6 T, g6, k6, b6⟩
  have CN : Ca l.prog w K mg base 2 "_law_names" ["_law_bag_here", "_law_many"] (spNamesZ) := ⟨_, _, ok_names F7 T CT, g7, k7, b7⟩
  have CRa : CaN l.prog w K mg base 3 "_law_raise" ["_law_k", "_law_one", "_law_two"] (spRaise (clF [R0, R1, R2, R3, R4, R5, R6, R7, R8, R9, R10, R11, R12, R13, R14, R15])) := ⟨_, _, ok_raise F8 Z, g8, k8, b8⟩
  have CCl : CaE l.prog w K mg base 1 "_law_classes" ["_law_e"] (spCl (clF [R0, R1, R2, R3, R4, R5, R6, R7, R8, R9, R10, R11, R12, R13, R14, R15])) := ⟨_, _, ok_cls F9 T Z, g9, k9, b9⟩
  have CFi : CaE l.prog w K mg base 1 "_law_fields" ["_law_k", "_law_e"] (spFi (clF [R0, R1, R2, R3, R4, R5, R6, R7, R8, R9, R10, R11, R12, R13, R14, R15])) := ⟨_, _, ok_fi F10 T Z, g10, k10, b10⟩
  have CVa : Ca l.prog w K mg base 6 "_law_value" ["_law_bag_here"] (spVal) := ⟨_, _, ok_val F11 T Z L CT CN ML, g11, k11, b11⟩
  have CTa : Ca l.prog w K mg base 5 "_law_taken" ["_law_k", "_law_one", "_law_two"] (spTaken (clF [R0, R1, R2, R3, R4, R5, R6, R7, R8, R9, R10, R11, R12, R13, R14, R15])) := ⟨_, _, ok_tk F12 T Z CRa CCl CFi, g12, k12, b12⟩
  exact ok_law F13 T (PySem.W.mg_none_of X G z_min) CB CT CVa CTa CA
end K16
open PySem PySem.W PyProof.Rows
set_option maxRecDepth 100000 in
set_option maxHeartbeats 0 in
theorem PySem.Challenge.cw_openlanes_k16_errors_kept_holds : PySem.Challenge.rw_openlanes_k16_errors_kept.Holds := by
  w_on; o_law; k_head; (case hw => w_witness2)
  k_fill
  refine Ol.walkG (l := PySem.Challenge.rw_openlanes_k16_errors_kept) (n := 63) (k := 8) (x := "_law_script") (sp := fun w => K16.spLaw _) rfl (by rfl) (by decide) rfl ⟨rfl, by decide, by decide⟩ (fun w h Y => PySem.W.kIn_of Y) (fun w => by rfl) ?F (fun w H a ns hl hS hL => ⟨a, ns, rfl, hS, hL, hl, fun _ => rfl⟩)
  case F =>
    intro w mg fa h KX G hmg
    refine' K16.all_mk KX G hmg ?a0 ?l0 ?c0 ?k0 ?a1 ?l1 ?c1 ?k1 ?a2 ?l2 ?c2 ?k2 ?a3 ?l3 ?c3 ?k3 ?a4 ?l4 ?c4 ?k4 ?a5 ?l5 ?c5 ?k5 ?a6 ?l6 ?c6 ?k6 ?a7 ?l7 ?c7 ?k7 ?a8 ?l8 ?c8 ?k8 ?a9 ?l9 ?c9 ?k9 ?a10 ?l10 ?c10 ?k10 ?a11 ?l11 ?c11 ?k11 ?a12 ?l12 ?c12 ?k12 ?a13 ?l13 ?c13 ?k13 ?aGC ?aGB ?aGR0 ?aGR1 ?aGR2 ?aGR3 ?aGR4 ?aGR5 ?aGR6 ?aGR7 ?aGR8 ?aGR9 ?aGR10 ?aGR11 ?aGR12 ?aGR13 ?aGR14 ?aGR15 ?am0 ?im0 ?lm0 ?cm0 ?km0 ?am1 ?im1 ?lm1 ?cm1 ?km1 ?am2 ?im2 ?lm2 ?cm2 ?km2 ?am3 ?im3 ?lm3 ?cm3 ?km3 ?am4 ?im4 ?lm4 ?cm4 ?km4 ?am5 ?im5 ?lm5 ?cm5 ?km5 ?am6 ?im6 ?lm6 ?cm6 ?km6 ?am7 ?im7 ?lm7 ?cm7 ?km7 ?am8 ?im8 ?lm8 ?cm8 ?km8 ?am9 ?im9 ?lm9 ?cm9 ?km9 ?am10 ?im10 ?lm10 ?cm10 ?km10 ?am11 ?im11 ?lm11 ?cm11 ?km11 ?am12 ?im12 ?lm12 ?cm12 ?km12 ?am13 ?im13 ?lm13 ?cm13 ?km13 ?am14 ?im14 ?lm14 ?cm14 ?km14 ?am15 ?im15 ?lm15 ?cm15 ?km15 ?am16 ?im16 ?lm16 ?cm16 ?km16 ?pgC ?hdC ?poC ?saC ?mkC ?kcC ?nN ?nB ?nS ?xR0 ?vR0 ?saR0 ?exR0 ?tyR0 ?kR0 ?gaR0 ?ggR0 ?hdR0 ?clR0 ?moR0 ?sBR0 ?nFR0_place ?xR1 ?vR1 ?saR1 ?exR1 ?tyR1 ?kR1 ?gaR1 ?ggR1 ?hdR1 ?clR1 ?moR1 ?sBR1 ?nFR1_lane ?xR2 ?vR2 ?saR2 ?exR2 ?tyR2 ?kR2 ?gaR2 ?ggR2 ?hdR2 ?clR2 ?moR2 ?sBR2 ?nFR2_word ?nFR2_lane ?xR3 ?vR3 ?saR3 ?exR3 ?tyR3 ?kR3 ?gaR3 ?ggR3 ?hdR3 ?clR3 ?moR3 ?sBR3 ?nFR3_place ?xR4 ?vR4 ?saR4 ?exR4 ?tyR4 ?kR4 ?gaR4 ?ggR4 ?hdR4 ?clR4 ?moR4 ?sBR4 ?nFR4_index ?xR5 ?vR5 ?saR5 ?exR5 ?tyR5 ?kR5 ?gaR5 ?ggR5 ?hdR5 ?clR5 ?moR5 ?sBR5 ?nFR5_place ?xR6 ?vR6 ?saR6 ?exR6 ?tyR6 ?kR6 ?gaR6 ?ggR6 ?hdR6 ?clR6 ?moR6 ?sBR6 ?nFR6_what ?xR7 ?vR7 ?saR7 ?exR7 ?tyR7 ?kR7 ?gaR7 ?ggR7 ?hdR7 ?clR7 ?moR7 ?sBR7 ?nFR7_kind ?xR8 ?vR8 ?saR8 ?exR8 ?tyR8 ?kR8 ?gaR8 ?ggR8 ?hdR8 ?clR8 ?moR8 ?sBR8 ?nFR8_place ?xR9 ?vR9 ?saR9 ?exR9 ?tyR9 ?kR9 ?gaR9 ?ggR9 ?hdR9 ?clR9 ?moR9 ?sBR9 ?nFR9_index ?xR10 ?vR10 ?saR10 ?exR10 ?tyR10 ?kR10 ?gaR10 ?ggR10 ?hdR10 ?clR10 ?moR10 ?sBR10 ?nFR10_most ?xR11 ?vR11 ?saR11 ?exR11 ?tyR11 ?kR11 ?gaR11 ?ggR11 ?hdR11 ?clR11 ?moR11 ?sBR11 ?nFR11_many ?xR12 ?vR12 ?saR12 ?exR12 ?tyR12 ?kR12 ?gaR12 ?ggR12 ?hdR12 ?clR12 ?moR12 ?sBR12 ?xR13 ?vR13 ?saR13 ?exR13 ?tyR13 ?kR13 ?gaR13 ?ggR13 ?hdR13 ?clR13 ?moR13 ?sBR13 ?xR14 ?vR14 ?saR14 ?exR14 ?tyR14 ?kR14 ?gaR14 ?ggR14 ?hdR14 ?clR14 ?moR14 ?sBR14 ?xR15 ?vR15 ?saR15 ?exR15 ?tyR15 ?kR15 ?gaR15 ?ggR15 ?hdR15 ?clR15 ?moR15 ?sBR15 ?exB ?hdB ?tyB ?ocg ?oct ?k_0_0 ?k_0_1 ?k_0_2 ?k_0_3 ?k_0_4 ?k_0_5 ?k_0_6 ?k_0_7 ?k_0_8 ?k_0_9 ?k_0_10 ?k_0_11 ?k_0_12 ?k_0_13 ?k_0_14 ?k_0_15 ?kB_0 ?kV_0 ?kL_0 ?k_1_0 ?k_1_1 ?k_1_2 ?k_1_3 ?k_1_4 ?k_1_5 ?k_1_6 ?k_1_7 ?k_1_8 ?k_1_9 ?k_1_10 ?k_1_11 ?k_1_12 ?k_1_13 ?k_1_14 ?k_1_15 ?kB_1 ?kV_1 ?kL_1 ?k_2_0 ?k_2_1 ?k_2_2 ?k_2_3 ?k_2_4 ?k_2_5 ?k_2_6 ?k_2_7 ?k_2_8 ?k_2_9 ?k_2_10 ?k_2_11 ?k_2_12 ?k_2_13 ?k_2_14 ?k_2_15 ?kB_2 ?kV_2 ?kL_2 ?k_3_0 ?k_3_1 ?k_3_2 ?k_3_3 ?k_3_4 ?k_3_5 ?k_3_6 ?k_3_7 ?k_3_8 ?k_3_9 ?k_3_10 ?k_3_11 ?k_3_12 ?k_3_13 ?k_3_14 ?k_3_15 ?kB_3 ?kV_3 ?kL_3 ?k_4_0 ?k_4_1 ?k_4_2 ?k_4_3 ?k_4_4 ?k_4_5 ?k_4_6 ?k_4_7 ?k_4_8 ?k_4_9 ?k_4_10 ?k_4_11 ?k_4_12 ?k_4_13 ?k_4_14 ?k_4_15 ?kB_4 ?kV_4 ?kL_4 ?k_5_0 ?k_5_1 ?k_5_2 ?k_5_3 ?k_5_4 ?k_5_5 ?k_5_6 ?k_5_7 ?k_5_8 ?k_5_9 ?k_5_10 ?k_5_11 ?k_5_12 ?k_5_13 ?k_5_14 ?k_5_15 ?kB_5 ?kV_5 ?kL_5 ?k_6_0 ?k_6_1 ?k_6_2 ?k_6_3 ?k_6_4 ?k_6_5 ?k_6_6 ?k_6_7 ?k_6_8 ?k_6_9 ?k_6_10 ?k_6_11 ?k_6_12 ?k_6_13 ?k_6_14 ?k_6_15 ?kB_6 ?kV_6 ?kL_6 ?k_7_0 ?k_7_1 ?k_7_2 ?k_7_3 ?k_7_4 ?k_7_5 ?k_7_6 ?k_7_7 ?k_7_8 ?k_7_9 ?k_7_10 ?k_7_11 ?k_7_12 ?k_7_13 ?k_7_14 ?k_7_15 ?kB_7 ?kV_7 ?kL_7 ?k_8_0 ?k_8_1 ?k_8_2 ?k_8_3 ?k_8_4 ?k_8_5 ?k_8_6 ?k_8_7 ?k_8_8 ?k_8_9 ?k_8_10 ?k_8_11 ?k_8_12 ?k_8_13 ?k_8_14 ?k_8_15 ?kB_8 ?kV_8 ?kL_8 ?k_9_0 ?k_9_1 ?k_9_2 ?k_9_3 ?k_9_4 ?k_9_5 ?k_9_6 ?k_9_7 ?k_9_8 ?k_9_9 ?k_9_10 ?k_9_11 ?k_9_12 ?k_9_13 ?k_9_14 ?k_9_15 ?kB_9 ?kV_9 ?kL_9 ?k_10_0 ?k_10_1 ?k_10_2 ?k_10_3 ?k_10_4 ?k_10_5 ?k_10_6 ?k_10_7 ?k_10_8 ?k_10_9 ?k_10_10 ?k_10_11 ?k_10_12 ?k_10_13 ?k_10_14 ?k_10_15 ?kB_10 ?kV_10 ?kL_10 ?k_11_0 ?k_11_1 ?k_11_2 ?k_11_3 ?k_11_4 ?k_11_5 ?k_11_6 ?k_11_7 ?k_11_8 ?k_11_9 ?k_11_10 ?k_11_11 ?k_11_12 ?k_11_13 ?k_11_14 ?k_11_15 ?kB_11 ?kV_11 ?kL_11 ?k_12_0 ?k_12_1 ?k_12_2 ?k_12_3 ?k_12_4 ?k_12_5 ?k_12_6 ?k_12_7 ?k_12_8 ?k_12_9 ?k_12_10 ?k_12_11 ?k_12_12 ?k_12_13 ?k_12_14 ?k_12_15 ?kB_12 ?kV_12 ?kL_12 ?k_13_0 ?k_13_1 ?k_13_2 ?k_13_3 ?k_13_4 ?k_13_5 ?k_13_6 ?k_13_7 ?k_13_8 ?k_13_9 ?k_13_10 ?k_13_11 ?k_13_12 ?k_13_13 ?k_13_14 ?k_13_15 ?kB_13 ?kV_13 ?kL_13 ?k_14_0 ?k_14_1 ?k_14_2 ?k_14_3 ?k_14_4 ?k_14_5 ?k_14_6 ?k_14_7 ?k_14_8 ?k_14_9 ?k_14_10 ?k_14_11 ?k_14_12 ?k_14_13 ?k_14_14 ?k_14_15 ?kB_14 ?kV_14 ?kL_14 ?k_15_0 ?k_15_1 ?k_15_2 ?k_15_3 ?k_15_4 ?k_15_5 ?k_15_6 ?k_15_7 ?k_15_8 ?k_15_9 ?k_15_10 ?k_15_11 ?k_15_12 ?k_15_13 ?k_15_14 ?k_15_15 ?kB_15 ?kV_15 ?kL_15 ?gLet ?gLong ?z_len ?z_int ?z_abs ?z_range ?z_repr ?z_isinstance ?z_all ?z_tuple ?z_list ?z_str ?z_bool ?z_dict ?z_sorted ?z_enumerate ?z_zip ?z_min ?z_ValueError ?z_LookupError
    (case a0 => k_is)
    (case l0 => k_is)
    (case c0 => k_is)
    (case k0 => k_is)
    (case a1 => k_is)
    (case l1 => k_is)
    (case c1 => k_is)
    (case k1 => k_is)
    (case a2 => k_is)
    (case l2 => k_is)
    (case c2 => k_is)
    (case k2 => k_is)
    (case a3 => k_is)
    (case l3 => k_is)
    (case c3 => k_is)
    (case k3 => k_is)
    (case a4 => k_is)
    (case l4 => k_is)
    (case c4 => k_is)
    (case k4 => k_is)
    (case a5 => k_is)
    (case l5 => k_is)
    (case c5 => k_is)
    (case k5 => k_is)
    (case a6 => k_is)
    (case l6 => k_is)
    (case c6 => k_is)
    (case k6 => k_is)
    (case a7 => k_is)
    (case l7 => k_is)
    (case c7 => k_is)
    (case k7 => k_is)
    (case a8 => k_is)
    (case l8 => k_is)
    (case c8 => k_is)
    (case k8 => k_is)
    (case a9 => k_is)
    (case l9 => k_is)
    (case c9 => k_is)
    (case k9 => k_is)
    (case a10 => k_is)
    (case l10 => k_is)
    (case c10 => k_is)
    (case k10 => k_is)
    (case a11 => k_is)
    (case l11 => k_is)
    (case c11 => k_is)
    (case k11 => k_is)
    (case a12 => k_is)
    (case l12 => k_is)
    (case c12 => k_is)
    (case k12 => k_is)
    (case a13 => k_is)
    (case l13 => k_is)
    (case c13 => k_is)
    (case k13 => k_is)
    (case aGC => k_is)
    (case aGB => k_is)
    (case aGR0 => k_is)
    (case aGR1 => k_is)
    (case aGR2 => k_is)
    (case aGR3 => k_is)
    (case aGR4 => k_is)
    (case aGR5 => k_is)
    (case aGR6 => k_is)
    (case aGR7 => k_is)
    (case aGR8 => k_is)
    (case aGR9 => k_is)
    (case aGR10 => k_is)
    (case aGR11 => k_is)
    (case aGR12 => k_is)
    (case aGR13 => k_is)
    (case aGR14 => k_is)
    (case aGR15 => k_is)
    (case am0 => k_is)
    (case im0 => k_is)
    (case lm0 => k_is)
    (case cm0 => k_is)
    (case km0 => k_is)
    (case am1 => k_is)
    (case im1 => k_is)
    (case lm1 => k_is)
    (case cm1 => k_is)
    (case km1 => k_is)
    (case am2 => k_is)
    (case im2 => k_is)
    (case lm2 => k_is)
    (case cm2 => k_is)
    (case km2 => k_is)
    (case am3 => k_is)
    (case im3 => k_is)
    (case lm3 => k_is)
    (case cm3 => k_is)
    (case km3 => k_is)
    (case am4 => k_is)
    (case im4 => k_is)
    (case lm4 => k_is)
    (case cm4 => k_is)
    (case km4 => k_is)
    (case am5 => k_is)
    (case im5 => k_is)
    (case lm5 => k_is)
    (case cm5 => k_is)
    (case km5 => k_is)
    (case am6 => k_is)
    (case im6 => k_is)
    (case lm6 => k_is)
    (case cm6 => k_is)
    (case km6 => k_is)
    (case am7 => k_is)
    (case im7 => k_is)
    (case lm7 => k_is)
    (case cm7 => k_is)
    (case km7 => k_is)
    (case am8 => k_is)
    (case im8 => k_is)
    (case lm8 => k_is)
    (case cm8 => k_is)
    (case km8 => k_is)
    (case am9 => k_is)
    (case im9 => k_is)
    (case lm9 => k_is)
    (case cm9 => k_is)
    (case km9 => k_is)
    (case am10 => k_is)
    (case im10 => k_is)
    (case lm10 => k_is)
    (case cm10 => k_is)
    (case km10 => k_is)
    (case am11 => k_is)
    (case im11 => k_is)
    (case lm11 => k_is)
    (case cm11 => k_is)
    (case km11 => k_is)
    (case am12 => k_is)
    (case im12 => k_is)
    (case lm12 => k_is)
    (case cm12 => k_is)
    (case km12 => k_is)
    (case am13 => k_is)
    (case im13 => k_is)
    (case lm13 => k_is)
    (case cm13 => k_is)
    (case km13 => k_is)
    (case am14 => k_is)
    (case im14 => k_is)
    (case lm14 => k_is)
    (case cm14 => k_is)
    (case km14 => k_is)
    (case am15 => k_is)
    (case im15 => k_is)
    (case lm15 => k_is)
    (case cm15 => k_is)
    (case km15 => k_is)
    (case am16 => k_is)
    (case im16 => k_is)
    (case lm16 => k_is)
    (case cm16 => k_is)
    (case km16 => k_is)
    (case pgC => k_is)
    (case hdC => k_is)
    (case poC => k_is)
    (case saC => k_is)
    (case mkC => k_is)
    (case kcC => k_is)
    (case nN => k_is)
    (case nB => k_is)
    (case nS => k_is)
    (case xR0 => first | k_is | rfl | decide +kernel)
    (case vR0 => first | k_is | rfl | decide +kernel)
    (case saR0 => k_is)
    (case exR0 => k_is)
    (case tyR0 => k_is)
    (case kR0 => k_is)
    (case gaR0 => k_is)
    (case ggR0 => k_is)
    (case hdR0 => k_is)
    (case clR0 => k_is)
    (case moR0 => k_is)
    (case sBR0 => k_is)
    (case nFR0_place => k_is)
    (case xR1 => first | k_is | rfl | decide +kernel)
    (case vR1 => first | k_is | rfl | decide +kernel)
    (case saR1 => k_is)
    (case exR1 => k_is)
    (case tyR1 => k_is)
    (case kR1 => k_is)
    (case gaR1 => k_is)
    (case ggR1 => k_is)
    (case hdR1 => k_is)
    (case clR1 => k_is)
    (case moR1 => k_is)
    (case sBR1 => k_is)
    (case nFR1_lane => k_is)
    (case xR2 => first | k_is | rfl | decide +kernel)
    (case vR2 => first | k_is | rfl | decide +kernel)
    (case saR2 => k_is)
    (case exR2 => k_is)
    (case tyR2 => k_is)
    (case kR2 => k_is)
    (case gaR2 => k_is)
    (case ggR2 => k_is)
    (case hdR2 => k_is)
    (case clR2 => k_is)
    (case moR2 => k_is)
    (case sBR2 => k_is)
    (case nFR2_word => k_is)
    (case nFR2_lane => k_is)
    (case xR3 => first | k_is | rfl | decide +kernel)
    (case vR3 => first | k_is | rfl | decide +kernel)
    (case saR3 => k_is)
    (case exR3 => k_is)
    (case tyR3 => k_is)
    (case kR3 => k_is)
    (case gaR3 => k_is)
    (case ggR3 => k_is)
    (case hdR3 => k_is)
    (case clR3 => k_is)
    (case moR3 => k_is)
    (case sBR3 => k_is)
    (case nFR3_place => k_is)
    (case xR4 => first | k_is | rfl | decide +kernel)
    (case vR4 => first | k_is | rfl | decide +kernel)
    (case saR4 => k_is)
    (case exR4 => k_is)
    (case tyR4 => k_is)
    (case kR4 => k_is)
    (case gaR4 => k_is)
    (case ggR4 => k_is)
    (case hdR4 => k_is)
    (case clR4 => k_is)
    (case moR4 => k_is)
    (case sBR4 => k_is)
    (case nFR4_index => k_is)
    (case xR5 => first | k_is | rfl | decide +kernel)
    (case vR5 => first | k_is | rfl | decide +kernel)
    (case saR5 => k_is)
    (case exR5 => k_is)
    (case tyR5 => k_is)
    (case kR5 => k_is)
    (case gaR5 => k_is)
    (case ggR5 => k_is)
    (case hdR5 => k_is)
    (case clR5 => k_is)
    (case moR5 => k_is)
    (case sBR5 => k_is)
    (case nFR5_place => k_is)
    (case xR6 => first | k_is | rfl | decide +kernel)
    (case vR6 => first | k_is | rfl | decide +kernel)
    (case saR6 => k_is)
    (case exR6 => k_is)
    (case tyR6 => k_is)
    (case kR6 => k_is)
    (case gaR6 => k_is)
    (case ggR6 => k_is)
    (case hdR6 => k_is)
    (case clR6 => k_is)
    (case moR6 => k_is)
    (case sBR6 => k_is)
    (case nFR6_what => k_is)
    (case xR7 => first | k_is | rfl | decide +kernel)
    (case vR7 => first | k_is | rfl | decide +kernel)
    (case saR7 => k_is)
    (case exR7 => k_is)
    (case tyR7 => k_is)
    (case kR7 => k_is)
    (case gaR7 => k_is)
    (case ggR7 => k_is)
    (case hdR7 => k_is)
    (case clR7 => k_is)
    (case moR7 => k_is)
    (case sBR7 => k_is)
    (case nFR7_kind => k_is)
    (case xR8 => first | k_is | rfl | decide +kernel)
    (case vR8 => first | k_is | rfl | decide +kernel)
    (case saR8 => k_is)
    (case exR8 => k_is)
    (case tyR8 => k_is)
    (case kR8 => k_is)
    (case gaR8 => k_is)
    (case ggR8 => k_is)
    (case hdR8 => k_is)
    (case clR8 => k_is)
    (case moR8 => k_is)
    (case sBR8 => k_is)
    (case nFR8_place => k_is)
    (case xR9 => first | k_is | rfl | decide +kernel)
    (case vR9 => first | k_is | rfl | decide +kernel)
    (case saR9 => k_is)
    (case exR9 => k_is)
    (case tyR9 => k_is)
    (case kR9 => k_is)
    (case gaR9 => k_is)
    (case ggR9 => k_is)
    (case hdR9 => k_is)
    (case clR9 => k_is)
    (case moR9 => k_is)
    (case sBR9 => k_is)
    (case nFR9_index => k_is)
    (case xR10 => first | k_is | rfl | decide +kernel)
    (case vR10 => first | k_is | rfl | decide +kernel)
    (case saR10 => k_is)
    (case exR10 => k_is)
    (case tyR10 => k_is)
    (case kR10 => k_is)
    (case gaR10 => k_is)
    (case ggR10 => k_is)
    (case hdR10 => k_is)
    (case clR10 => k_is)
    (case moR10 => k_is)
    (case sBR10 => k_is)
    (case nFR10_most => k_is)
    (case xR11 => first | k_is | rfl | decide +kernel)
    (case vR11 => first | k_is | rfl | decide +kernel)
    (case saR11 => k_is)
    (case exR11 => k_is)
    (case tyR11 => k_is)
    (case kR11 => k_is)
    (case gaR11 => k_is)
    (case ggR11 => k_is)
    (case hdR11 => k_is)
    (case clR11 => k_is)
    (case moR11 => k_is)
    (case sBR11 => k_is)
    (case nFR11_many => k_is)
    (case xR12 => first | k_is | rfl | decide +kernel)
    (case vR12 => first | k_is | rfl | decide +kernel)
    (case saR12 => k_is)
    (case exR12 => k_is)
    (case tyR12 => k_is)
    (case kR12 => k_is)
    (case gaR12 => k_is)
    (case ggR12 => k_is)
    (case hdR12 => k_is)
    (case clR12 => k_is)
    (case moR12 => k_is)
    (case sBR12 => k_is)
    (case xR13 => first | k_is | rfl | decide +kernel)
    (case vR13 => first | k_is | rfl | decide +kernel)
    (case saR13 => k_is)
    (case exR13 => k_is)
    (case tyR13 => k_is)
    (case kR13 => k_is)
    (case gaR13 => k_is)
    (case ggR13 => k_is)
    (case hdR13 => k_is)
    (case clR13 => k_is)
    (case moR13 => k_is)
    (case sBR13 => k_is)
    (case xR14 => first | k_is | rfl | decide +kernel)
    (case vR14 => first | k_is | rfl | decide +kernel)
    (case saR14 => k_is)
    (case exR14 => k_is)
    (case tyR14 => k_is)
    (case kR14 => k_is)
    (case gaR14 => k_is)
    (case ggR14 => k_is)
    (case hdR14 => k_is)
    (case clR14 => k_is)
    (case moR14 => k_is)
    (case sBR14 => k_is)
    (case xR15 => first | k_is | rfl | decide +kernel)
    (case vR15 => first | k_is | rfl | decide +kernel)
    (case saR15 => k_is)
    (case exR15 => k_is)
    (case tyR15 => k_is)
    (case kR15 => k_is)
    (case gaR15 => k_is)
    (case ggR15 => k_is)
    (case hdR15 => k_is)
    (case clR15 => k_is)
    (case moR15 => k_is)
    (case sBR15 => k_is)
    (case exB => k_is)
    (case hdB => k_is)
    (case tyB => k_is)
    (case ocg => k_is)
    (case oct => k_is)
    (case k_0_0 => first | k_is | rfl | decide +kernel)
    (case k_0_1 => first | k_is | rfl | decide +kernel)
    (case k_0_2 => first | k_is | rfl | decide +kernel)
    (case k_0_3 => first | k_is | rfl | decide +kernel)
    (case k_0_4 => first | k_is | rfl | decide +kernel)
    (case k_0_5 => first | k_is | rfl | decide +kernel)
    (case k_0_6 => first | k_is | rfl | decide +kernel)
    (case k_0_7 => first | k_is | rfl | decide +kernel)
    (case k_0_8 => first | k_is | rfl | decide +kernel)
    (case k_0_9 => first | k_is | rfl | decide +kernel)
    (case k_0_10 => first | k_is | rfl | decide +kernel)
    (case k_0_11 => first | k_is | rfl | decide +kernel)
    (case k_0_12 => first | k_is | rfl | decide +kernel)
    (case k_0_13 => first | k_is | rfl | decide +kernel)
    (case k_0_14 => first | k_is | rfl | decide +kernel)
    (case k_0_15 => first | k_is | rfl | decide +kernel)
    (case kB_0 => first | k_is | rfl | decide +kernel)
    (case kV_0 => first | k_is | rfl | decide +kernel)
    (case kL_0 => first | k_is | rfl | decide +kernel)
    (case k_1_0 => first | k_is | rfl | decide +kernel)
    (case k_1_1 => first | k_is | rfl | decide +kernel)
    (case k_1_2 => first | k_is | rfl | decide +kernel)
    (case k_1_3 => first | k_is | rfl | decide +kernel)
    (case k_1_4 => first | k_is | rfl | decide +kernel)
    (case k_1_5 => first | k_is | rfl | decide +kernel)
    (case k_1_6 => first | k_is | rfl | decide +kernel)
    (case k_1_7 => first | k_is | rfl | decide +kernel)
    (case k_1_8 => first | k_is | rfl | decide +kernel)
    (case k_1_9 => first | k_is | rfl | decide +kernel)
    (case k_1_10 => first | k_is | rfl | decide +kernel)
    (case k_1_11 => first | k_is | rfl | decide +kernel)
    (case k_1_12 => first | k_is | rfl | decide +kernel)
    (case k_1_13 => first | k_is | rfl | decide +kernel)
    (case k_1_14 => first | k_is | rfl | decide +kernel)
    (case k_1_15 => first | k_is | rfl | decide +kernel)
    (case kB_1 => first | k_is | rfl | decide +kernel)
    (case kV_1 => first | k_is | rfl | decide +kernel)
    (case kL_1 => first | k_is | rfl | decide +kernel)
    (case k_2_0 => first | k_is | rfl | decide +kernel)
    (case k_2_1 => first | k_is | rfl | decide +kernel)
    (case k_2_2 => first | k_is | rfl | decide +kernel)
    (case k_2_3 => first | k_is | rfl | decide +kernel)
    (case k_2_4 => first | k_is | rfl | decide +kernel)
    (case k_2_5 => first | k_is | rfl | decide +kernel)
    (case k_2_6 => first | k_is | rfl | decide +kernel)
    (case k_2_7 => first | k_is | rfl | decide +kernel)
    (case k_2_8 => first | k_is | rfl | decide +kernel)
    (case k_2_9 => first | k_is | rfl | decide +kernel)
    (case k_2_10 => first | k_is | rfl | decide +kernel)
    (case k_2_11 => first | k_is | rfl | decide +kernel)
    (case k_2_12 => first | k_is | rfl | decide +kernel)
    (case k_2_13 => first | k_is | rfl | decide +kernel)
    (case k_2_14 => first | k_is | rfl | decide +kernel)
    (case k_2_15 => first | k_is | rfl | decide +kernel)
    (case kB_2 => first | k_is | rfl | decide +kernel)
    (case kV_2 => first | k_is | rfl | decide +kernel)
    (case kL_2 => first | k_is | rfl | decide +kernel)
    (case k_3_0 => first | k_is | rfl | decide +kernel)
    (case k_3_1 => first | k_is | rfl | decide +kernel)
    (case k_3_2 => first | k_is | rfl | decide +kernel)
    (case k_3_3 => first | k_is | rfl | decide +kernel)
    (case k_3_4 => first | k_is | rfl | decide +kernel)
    (case k_3_5 => first | k_is | rfl | decide +kernel)
    (case k_3_6 => first | k_is | rfl | decide +kernel)
    (case k_3_7 => first | k_is | rfl | decide +kernel)
    (case k_3_8 => first | k_is | rfl | decide +kernel)
    (case k_3_9 => first | k_is | rfl | decide +kernel)
    (case k_3_10 => first | k_is | rfl | decide +kernel)
    (case k_3_11 => first | k_is | rfl | decide +kernel)
    (case k_3_12 => first | k_is | rfl | decide +kernel)
    (case k_3_13 => first | k_is | rfl | decide +kernel)
    (case k_3_14 => first | k_is | rfl | decide +kernel)
    (case k_3_15 => first | k_is | rfl | decide +kernel)
    (case kB_3 => first | k_is | rfl | decide +kernel)
    (case kV_3 => first | k_is | rfl | decide +kernel)
    (case kL_3 => first | k_is | rfl | decide +kernel)
    (case k_4_0 => first | k_is | rfl | decide +kernel)
    (case k_4_1 => first | k_is | rfl | decide +kernel)
    (case k_4_2 => first | k_is | rfl | decide +kernel)
    (case k_4_3 => first | k_is | rfl | decide +kernel)
    (case k_4_4 => first | k_is | rfl | decide +kernel)
    (case k_4_5 => first | k_is | rfl | decide +kernel)
    (case k_4_6 => first | k_is | rfl | decide +kernel)
    (case k_4_7 => first | k_is | rfl | decide +kernel)
    (case k_4_8 => first | k_is | rfl | decide +kernel)
    (case k_4_9 => first | k_is | rfl | decide +kernel)
    (case k_4_10 => first | k_is | rfl | decide +kernel)
    (case k_4_11 => first | k_is | rfl | decide +kernel)
    (case k_4_12 => first | k_is | rfl | decide +kernel)
    (case k_4_13 => first | k_is | rfl | decide +kernel)
    (case k_4_14 => first | k_is | rfl | decide +kernel)
    (case k_4_15 => first | k_is | rfl | decide +kernel)
    (case kB_4 => first | k_is | rfl | decide +kernel)
    (case kV_4 => first | k_is | rfl | decide +kernel)
    (case kL_4 => first | k_is | rfl | decide +kernel)
    (case k_5_0 => first | k_is | rfl | decide +kernel)
    (case k_5_1 => first | k_is | rfl | decide +kernel)
    (case k_5_2 => first | k_is | rfl | decide +kernel)
    (case k_5_3 => first | k_is | rfl | decide +kernel)
    (case k_5_4 => first | k_is | rfl | decide +kernel)
    (case k_5_5 => first | k_is | rfl | decide +kernel)
    (case k_5_6 => first | k_is | rfl | decide +kernel)
    (case k_5_7 => first | k_is | rfl | decide +kernel)
    (case k_5_8 => first | k_is | rfl | decide +kernel)
    (case k_5_9 => first | k_is | rfl | decide +kernel)
    (case k_5_10 => first | k_is | rfl | decide +kernel)
    (case k_5_11 => first | k_is | rfl | decide +kernel)
    (case k_5_12 => first | k_is | rfl | decide +kernel)
    (case k_5_13 => first | k_is | rfl | decide +kernel)
    (case k_5_14 => first | k_is | rfl | decide +kernel)
    (case k_5_15 => first | k_is | rfl | decide +kernel)
    (case kB_5 => first | k_is | rfl | decide +kernel)
    (case kV_5 => first | k_is | rfl | decide +kernel)
    (case kL_5 => first | k_is | rfl | decide +kernel)
    (case k_6_0 => first | k_is | rfl | decide +kernel)
    (case k_6_1 => first | k_is | rfl | decide +kernel)
    (case k_6_2 => first | k_is | rfl | decide +kernel)
    (case k_6_3 => first | k_is | rfl | decide +kernel)
    (case k_6_4 => first | k_is | rfl | decide +kernel)
    (case k_6_5 => first | k_is | rfl | decide +kernel)
    (case k_6_6 => first | k_is | rfl | decide +kernel)
    (case k_6_7 => first | k_is | rfl | decide +kernel)
    (case k_6_8 => first | k_is | rfl | decide +kernel)
    (case k_6_9 => first | k_is | rfl | decide +kernel)
    (case k_6_10 => first | k_is | rfl | decide +kernel)
    (case k_6_11 => first | k_is | rfl | decide +kernel)
    (case k_6_12 => first | k_is | rfl | decide +kernel)
    (case k_6_13 => first | k_is | rfl | decide +kernel)
    (case k_6_14 => first | k_is | rfl | decide +kernel)
    (case k_6_15 => first | k_is | rfl | decide +kernel)
    (case kB_6 => first | k_is | rfl | decide +kernel)
    (case kV_6 => first | k_is | rfl | decide +kernel)
    (case kL_6 => first | k_is | rfl | decide +kernel)
    (case k_7_0 => first | k_is | rfl | decide +kernel)
    (case k_7_1 => first | k_is | rfl | decide +kernel)
    (case k_7_2 => first | k_is | rfl | decide +kernel)
    (case k_7_3 => first | k_is | rfl | decide +kernel)
    (case k_7_4 => first | k_is | rfl | decide +kernel)
    (case k_7_5 => first | k_is | rfl | decide +kernel)
    (case k_7_6 => first | k_is | rfl | decide +kernel)
    (case k_7_7 => first | k_is | rfl | decide +kernel)
    (case k_7_8 => first | k_is | rfl | decide +kernel)
    (case k_7_9 => first | k_is | rfl | decide +kernel)
    (case k_7_10 => first | k_is | rfl | decide +kernel)
    (case k_7_11 => first | k_is | rfl | decide +kernel)
    (case k_7_12 => first | k_is | rfl | decide +kernel)
    (case k_7_13 => first | k_is | rfl | decide +kernel)
    (case k_7_14 => first | k_is | rfl | decide +kernel)
    (case k_7_15 => first | k_is | rfl | decide +kernel)
    (case kB_7 => first | k_is | rfl | decide +kernel)
    (case kV_7 => first | k_is | rfl | decide +kernel)
    (case kL_7 => first | k_is | rfl | decide +kernel)
    (case k_8_0 => first | k_is | rfl | decide +kernel)
    (case k_8_1 => first | k_is | rfl | decide +kernel)
    (case k_8_2 => first | k_is | rfl | decide +kernel)
    (case k_8_3 => first | k_is | rfl | decide +kernel)
    (case k_8_4 => first | k_is | rfl | decide +kernel)
    (case k_8_5 => first | k_is | rfl | decide +kernel)
    (case k_8_6 => first | k_is | rfl | decide +kernel)
    (case k_8_7 => first | k_is | rfl | decide +kernel)
    (case k_8_8 => first | k_is | rfl | decide +kernel)
    (case k_8_9 => first | k_is | rfl | decide +kernel)
    (case k_8_10 => first | k_is | rfl | decide +kernel)
    (case k_8_11 => first | k_is | rfl | decide +kernel)
    (case k_8_12 => first | k_is | rfl | decide +kernel)
    (case k_8_13 => first | k_is | rfl | decide +kernel)
    (case k_8_14 => first | k_is | rfl | decide +kernel)
    (case k_8_15 => first | k_is | rfl | decide +kernel)
    (case kB_8 => first | k_is | rfl | decide +kernel)
    (case kV_8 => first | k_is | rfl | decide +kernel)
    (case kL_8 => first | k_is | rfl | decide +kernel)
    (case k_9_0 => first | k_is | rfl | decide +kernel)
    (case k_9_1 => first | k_is | rfl | decide +kernel)
    (case k_9_2 => first | k_is | rfl | decide +kernel)
    (case k_9_3 => first | k_is | rfl | decide +kernel)
    (case k_9_4 => first | k_is | rfl | decide +kernel)
    (case k_9_5 => first | k_is | rfl | decide +kernel)
    (case k_9_6 => first | k_is | rfl | decide +kernel)
    (case k_9_7 => first | k_is | rfl | decide +kernel)
    (case k_9_8 => first | k_is | rfl | decide +kernel)
    (case k_9_9 => first | k_is | rfl | decide +kernel)
    (case k_9_10 => first | k_is | rfl | decide +kernel)
    (case k_9_11 => first | k_is | rfl | decide +kernel)
    (case k_9_12 => first | k_is | rfl | decide +kernel)
    (case k_9_13 => first | k_is | rfl | decide +kernel)
    (case k_9_14 => first | k_is | rfl | decide +kernel)
    (case k_9_15 => first | k_is | rfl | decide +kernel)
    (case kB_9 => first | k_is | rfl | decide +kernel)
    (case kV_9 => first | k_is | rfl | decide +kernel)
    (case kL_9 => first | k_is | rfl | decide +kernel)
    (case k_10_0 => first | k_is | rfl | decide +kernel)
    (case k_10_1 => first | k_is | rfl | decide +kernel)
    (case k_10_2 => first | k_is | rfl | decide +kernel)
    (case k_10_3 => first | k_is | rfl | decide +kernel)
    (case k_10_4 => first | k_is | rfl | decide +kernel)
    (case k_10_5 => first | k_is | rfl | decide +kernel)
    (case k_10_6 => first | k_is | rfl | decide +kernel)
    (case k_10_7 => first | k_is | rfl | decide +kernel)
    (case k_10_8 => first | k_is | rfl | decide +kernel)
    (case k_10_9 => first | k_is | rfl | decide +kernel)
    (case k_10_10 => first | k_is | rfl | decide +kernel)
    (case k_10_11 => first | k_is | rfl | decide +kernel)
    (case k_10_12 => first | k_is | rfl | decide +kernel)
    (case k_10_13 => first | k_is | rfl | decide +kernel)
    (case k_10_14 => first | k_is | rfl | decide +kernel)
    (case k_10_15 => first | k_is | rfl | decide +kernel)
    (case kB_10 => first | k_is | rfl | decide +kernel)
    (case kV_10 => first | k_is | rfl | decide +kernel)
    (case kL_10 => first | k_is | rfl | decide +kernel)
    (case k_11_0 => first | k_is | rfl | decide +kernel)
    (case k_11_1 => first | k_is | rfl | decide +kernel)
    (case k_11_2 => first | k_is | rfl | decide +kernel)
    (case k_11_3 => first | k_is | rfl | decide +kernel)
    (case k_11_4 => first | k_is | rfl | decide +kernel)
    (case k_11_5 => first | k_is | rfl | decide +kernel)
    (case k_11_6 => first | k_is | rfl | decide +kernel)
    (case k_11_7 => first | k_is | rfl | decide +kernel)
    (case k_11_8 => first | k_is | rfl | decide +kernel)
    (case k_11_9 => first | k_is | rfl | decide +kernel)
    (case k_11_10 => first | k_is | rfl | decide +kernel)
    (case k_11_11 => first | k_is | rfl | decide +kernel)
    (case k_11_12 => first | k_is | rfl | decide +kernel)
    (case k_11_13 => first | k_is | rfl | decide +kernel)
    (case k_11_14 => first | k_is | rfl | decide +kernel)
    (case k_11_15 => first | k_is | rfl | decide +kernel)
    (case kB_11 => first | k_is | rfl | decide +kernel)
    (case kV_11 => first | k_is | rfl | decide +kernel)
    (case kL_11 => first | k_is | rfl | decide +kernel)
    (case k_12_0 => first | k_is | rfl | decide +kernel)
    (case k_12_1 => first | k_is | rfl | decide +kernel)
    (case k_12_2 => first | k_is | rfl | decide +kernel)
    (case k_12_3 => first | k_is | rfl | decide +kernel)
    (case k_12_4 => first | k_is | rfl | decide +kernel)
    (case k_12_5 => first | k_is | rfl | decide +kernel)
    (case k_12_6 => first | k_is | rfl | decide +kernel)
    (case k_12_7 => first | k_is | rfl | decide +kernel)
    (case k_12_8 => first | k_is | rfl | decide +kernel)
    (case k_12_9 => first | k_is | rfl | decide +kernel)
    (case k_12_10 => first | k_is | rfl | decide +kernel)
    (case k_12_11 => first | k_is | rfl | decide +kernel)
    (case k_12_12 => first | k_is | rfl | decide +kernel)
    (case k_12_13 => first | k_is | rfl | decide +kernel)
    (case k_12_14 => first | k_is | rfl | decide +kernel)
    (case k_12_15 => first | k_is | rfl | decide +kernel)
    (case kB_12 => first | k_is | rfl | decide +kernel)
    (case kV_12 => first | k_is | rfl | decide +kernel)
    (case kL_12 => first | k_is | rfl | decide +kernel)
    (case k_13_0 => first | k_is | rfl | decide +kernel)
    (case k_13_1 => first | k_is | rfl | decide +kernel)
    (case k_13_2 => first | k_is | rfl | decide +kernel)
    (case k_13_3 => first | k_is | rfl | decide +kernel)
    (case k_13_4 => first | k_is | rfl | decide +kernel)
    (case k_13_5 => first | k_is | rfl | decide +kernel)
    (case k_13_6 => first | k_is | rfl | decide +kernel)
    (case k_13_7 => first | k_is | rfl | decide +kernel)
    (case k_13_8 => first | k_is | rfl | decide +kernel)
    (case k_13_9 => first | k_is | rfl | decide +kernel)
    (case k_13_10 => first | k_is | rfl | decide +kernel)
    (case k_13_11 => first | k_is | rfl | decide +kernel)
    (case k_13_12 => first | k_is | rfl | decide +kernel)
    (case k_13_13 => first | k_is | rfl | decide +kernel)
    (case k_13_14 => first | k_is | rfl | decide +kernel)
    (case k_13_15 => first | k_is | rfl | decide +kernel)
    (case kB_13 => first | k_is | rfl | decide +kernel)
    (case kV_13 => first | k_is | rfl | decide +kernel)
    (case kL_13 => first | k_is | rfl | decide +kernel)
    (case k_14_0 => first | k_is | rfl | decide +kernel)
    (case k_14_1 => first | k_is | rfl | decide +kernel)
    (case k_14_2 => first | k_is | rfl | decide +kernel)
    (case k_14_3 => first | k_is | rfl | decide +kernel)
    (case k_14_4 => first | k_is | rfl | decide +kernel)
    (case k_14_5 => first | k_is | rfl | decide +kernel)
    (case k_14_6 => first | k_is | rfl | decide +kernel)
    (case k_14_7 => first | k_is | rfl | decide +kernel)
    (case k_14_8 => first | k_is | rfl | decide +kernel)
    (case k_14_9 => first | k_is | rfl | decide +kernel)
    (case k_14_10 => first | k_is | rfl | decide +kernel)
    (case k_14_11 => first | k_is | rfl | decide +kernel)
    (case k_14_12 => first | k_is | rfl | decide +kernel)
    (case k_14_13 => first | k_is | rfl | decide +kernel)
    (case k_14_14 => first | k_is | rfl | decide +kernel)
    (case k_14_15 => first | k_is | rfl | decide +kernel)
    (case kB_14 => first | k_is | rfl | decide +kernel)
    (case kV_14 => first | k_is | rfl | decide +kernel)
    (case kL_14 => first | k_is | rfl | decide +kernel)
    (case k_15_0 => first | k_is | rfl | decide +kernel)
    (case k_15_1 => first | k_is | rfl | decide +kernel)
    (case k_15_2 => first | k_is | rfl | decide +kernel)
    (case k_15_3 => first | k_is | rfl | decide +kernel)
    (case k_15_4 => first | k_is | rfl | decide +kernel)
    (case k_15_5 => first | k_is | rfl | decide +kernel)
    (case k_15_6 => first | k_is | rfl | decide +kernel)
    (case k_15_7 => first | k_is | rfl | decide +kernel)
    (case k_15_8 => first | k_is | rfl | decide +kernel)
    (case k_15_9 => first | k_is | rfl | decide +kernel)
    (case k_15_10 => first | k_is | rfl | decide +kernel)
    (case k_15_11 => first | k_is | rfl | decide +kernel)
    (case k_15_12 => first | k_is | rfl | decide +kernel)
    (case k_15_13 => first | k_is | rfl | decide +kernel)
    (case k_15_14 => first | k_is | rfl | decide +kernel)
    (case k_15_15 => first | k_is | rfl | decide +kernel)
    (case kB_15 => first | k_is | rfl | decide +kernel)
    (case kV_15 => first | k_is | rfl | decide +kernel)
    (case kL_15 => first | k_is | rfl | decide +kernel)
    (case gLet => k_is)
    (case gLong => k_is)
    (case z_len => k_is)
    (case z_int => k_is)
    (case z_abs => k_is)
    (case z_range => k_is)
    (case z_repr => k_is)
    (case z_isinstance => k_is)
    (case z_all => k_is)
    (case z_tuple => k_is)
    (case z_list => k_is)
    (case z_str => k_is)
    (case z_bool => k_is)
    (case z_dict => k_is)
    (case z_sorted => k_is)
    (case z_enumerate => k_is)
    (case z_zip => k_is)
    (case z_min => k_is)
    (case z_ValueError => k_is)
    (case z_LookupError => k_is)

