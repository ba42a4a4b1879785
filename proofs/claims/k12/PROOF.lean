import PyProof.Rows.All
import Wide.All
import OpenK.AllK
import Wide.FinOn
import HandS.ForMost
import HandS.IsInst
import PyProof.ReprRoads
import HandS.Walk
import HandS.Text
import PyProof.StrOps2
import PyProof.ReprText
import KE.GoesMore
import HandS.Iter
import HandS.DictComp
import HandS.More
import HandS.Property
import HandS.TupMul
import HandS.ExcInit
import HandS.ExcField
import HandS.WordsExc
import HandS.ExcOwn
import HandS.TryOnly
import HandS.Zip
import HandS.Deep
import HandS.ExcIs
import KE.KExcIs
import HandS.Strs
import HandS.SortRule
import HandS.Style
import HandS.WordsDict
import HandS.TupAny
import HandS.CallLocal
import HandS.ClsMeth
import HandS.Flow
import PySem.Challenge.RW_openlanes_k12_lanes_told
set_option Elab.async false
set_option linter.all false
set_option maxRecDepth 100000
set_option maxHeartbeats 4000000
/-! Own rules: defs that may show data (no display is under way), and the law's end for them. -/
namespace Ol
open PySem PySem.Spec PyProof.Rows L2

/-- a def's promise where no display is under way -/
structure FnG (P : Program) (w : World) (K : PySem.W.Frag)
    (mg : Str → Option Value) (base : Heap) (k : Nat)
    (f : Addr) (fd : FuncData) (ps : List Str) (sp : Sp) : Prop where
  len : ∀ vs H Q E, sp vs H Q E → vs.length = ps.length
  go : ∀ (A : Around) (outer : List Env) (s : Shared) (H : Hp)
    (args : Args) (us : List Value) (vs : List V) (Q : VK) (E : XK),
    A.guards = some [] → Room k A → Env0 P w K mg base A outer s H →
    BindsTo s fd args (ps.zip us) → Vals vs us → sp vs H Q E →
    codeAny (model P w) A (.call (.ref f) args)
      (CR CX0 outer P w H s Q E) s

section
variable {P : Program} {w : World} {K : PySem.W.Frag}
  {mg : Str → Option Value} {base : Heap} {k : Nat}

theorem FnG.of {f : Addr} {fd : FuncData} {ps : List Str} {sp : Sp}
    (F : FnOk P w K mg base CX0 k f fd ps sp) : FnG P w K mg base k f fd ps sp :=
  ⟨F.len, fun A o s H as us vs Q E _ r => F.run A o s H as us vs Q E r⟩

/-- the rule for a def, its body's context has no display under way -/
theorem okG {x qual : Str} {st : Stmt} {f : Addr} {fd : FuncData}
    {N ps : List Str} {sp : Sp} (F : Fun K x qual st f fd)
    (S : FnScope N ps (defScope st))
    (len : ∀ vs H Q E, sp vs H Q E → vs.length = ps.length)
    (body : ∀ (cdv : Value) (A : Around) (outer : List Env) (s : Shared)
      (H : Hp) (vs : List V) (Q : VK) (E : XK),
      (A.deeper (envOfC qual (defScope st) s.heap.objs.size f cdv)).guards = some [] →
      Room k (A.deeper (envOfC qual (defScope st) s.heap.objs.size f cdv)) →
      sp vs H Q E → ∃ t,
        PSs (cxOf CX0 P w K mg base N qual (defScope st) f cdv A outer s H E).nox
          (defBody st) t ∧
        t { nx := fun _ H' => Q .non H', rt := Q } (start N vs) H) :
    FnG P w K mg base (k + 1) f fd ps sp := by
  obtain ⟨oc, od, kV, doc, pm, an, cdv, ct, osl, rfl, lk, hcd⟩ := F.ex
  refine ⟨len, ?_⟩
  intro A outer s H args us vs Q E hG room e0 hb rv hsp
  have hlen := len _ _ _ _ hsp
  have kin : K.In s.heap :=
    e0.mod.kin.keeps (fun b o e => (e0.bs b o e).1)
  have nol : s.heap.NoLimit :=
    e0.mod.nolimit.keeps (fun b o e => (e0.bs b o e).1)
  have kinds : ∀ y ∈ ps.zip us,
      (defScope st).names.lookup y.1 = some .local ∨
      ((defScope st).names.lookup y.1 = some .cell ∧
        ((cellsFrom (s.heap.objs.size + 1) (defScope st).names []).lookup y.1).isSome = true) := by
    rintro ⟨n, v⟩ hy
    cases S.par n (List.of_mem_zip hy).1 with
    | inl q => exact Or.inl q
    | inr q => exact Or.inr ⟨q, PySem.W.cellsFrom_some _ _ _ (Or.inl q)⟩
  refine codeAny_call_function room.depth (kin _ _ lk) rfl S.co S.gen rfl
    (PySem.W.codeRec_of kin hcd) (hb _ _ _ _ ?_)
  refine wpAny_newFunctionEnv_cells S.kind kinds ?_
  intro env he s1 x
  subst he
  refine ⟨nol.keeps x.toInCall.keep, codeAny_func ?_⟩
  have hG' : (A.deeper (envOfC qual (defScope st) s.heap.objs.size f cdv)).guards = some [] := by
    exact hG
  obtain ⟨t, ht0, hq⟩ := body cdv A outer s H vs Q E hG' (room.deeper _) hsp
  have ht := ht0.nox
  have I := inv_start (CX := CX0) (E := E) S room.hd e0 hlen rv x
  have out : ∀ {σ' : L2.St} {H' : Hp} {v : V} {u : Value} {s' : Shared},
      Inv (cxOf CX0 P w K mg base N qual (defScope st) f cdv A outer s H E) [] σ' H' s' →
      RelV v u → Q v H' → CE outer P w H s Q u s' :=
    fun J r q => ⟨_, _, J.os, J.bare, J.base, J.hok, r, q⟩
  refine wpAny_mono (ht.run [] s1 (start N vs) H _ I hq) ?_ (fun _ _ z => z)
  intro fl s' hs
  cases fl with
  | next =>
    obtain ⟨_, _, J, q⟩ := hs
    exact out (v := V.non) (u := Value.none) J rfl q
  | ret u =>
    obtain ⟨_, _, _, J, r, q⟩ := hs
    exact out J r q
  | brk => exact hs.choose_spec.choose_spec.2.elim
  | cont => exact hs.choose_spec.choose_spec.2.elim
end

section
variable {X : Cx} {k : Nat} {f : Addr} {fd : FuncData} {ps : List Str}
  {sp : Sp} {E : XK} {x : Str} {e : Expr} {es : List Expr} {t : TA}
  {p pos : Pos} {ds : List Value} {dvs : List V}
/-- f(..) of such a def -/
theorem pe_callG (F : FnG X.prog X.w X.K X.mg X.base k f fd ps sp)
    (hG : X.A.guards = some []) (hr : Room k X.A) (hg : Gl X x)
    (hm : X.mg x = some (.ref f)) (hk : PySem.W.keepIn X.K (.ref f) = true)
    (hb : Binds X.K fd ps []) (ha : PA X (e :: es) t)
    (hdb : (x == ("__debug__" : Str)) = false := by decide)
    (he : starEach (e :: es) X.env = (false, eval e X.env) :: starEach es X.env := by rfl)
    (hpl : (backTo pos (starEach es X.env)).any (·.1) = false := by rfl) :
    PE X (.Call (.Name x p) (e :: es) [] pos) (tCall sp [] E0 t) := by
  constructor
  intro pins s σ H Q I h
  apply wpAny_Call_Name_kw
  apply ld_glob I hg hm (hd := hdb)
  refine PySem.W.callWith_K (h₀ := X.base) I.ok.mod.kin hk ?_ he hpl
  refine thn (ha.run pos pins s σ H _ I h) ?_
  rintro us s1 ⟨vs, H1, I1, r, q⟩
  refine ⟨I1.kIn, ?_⟩
  have q' : sp vs H1 Q E0 := by
    have z : sp (vs ++ []) H1 Q E0 := q
    rwa [List.append_nil] at z
  have hl : us.length = ps.length := by
    rw [← r.length]
    exact F.len _ _ _ _ q'
  have hbs := hb s1 us I1.kIn (by simpa using hl)
  rw [List.append_nil] at hbs
  refine wpAny_call (codeAny_mono (F.go X.A X.stack s1 H1 ⟨us, []⟩ us vs Q E0 hG hr I1.env0 hbs r q') ?_)
  intro res s2 hres
  cases res with
  | error z => exact False.elim hres
  | ok fl =>
    cases fl with
    | ret u => exact I1.after hres
    | next => exact False.elim hres
    | brk => exact False.elim hres
    | cont => exact False.elim hres
end
end Ol

set_option Elab.async false
set_option linter.all false
set_option maxRecDepth 100000
set_option maxHeartbeats 4000000
namespace Ol
open PySem PySem.Spec PyProof.Rows L2

/-- the table of modules is set aside: no list stands there -/
def Sys (H : Hp) : Prop := ∃ o u, H sysModules = some (.frz o u)

/-- every tracked object is locked -/
def Lockd (H : Hp) : Prop := ∀ b u, H b = some u → ∃ o v, u = .frz o v

section
variable {P : Program} {w : World} {K : PySem.W.Frag} {mg mb : Str → Option Value}
  {k : Nat} {fa a : Addr} {fd : FuncData} {x : Str} {sp : Sp} {s1 : Shared}

/-- the call of the law from a heap in which some objects are locked -/
theorem enterG (H : Hp) (hL : Lockd H) (ok : HOk P w H s1.heap)
    (hK : ∀ b, H b ≠ none → K.lookup b = none)
    (hN : ∀ b m, s1.heap.Ns b m → (b = 0 ∨ b = 3 ∨ b = cStatics) → H b = none)
    (kin : K.In s1.heap) (hns : s1.heap.Ns mainGlobals mg) (hb : s1.heap.Ns builtinsNs mb)
    (hbb : ∀ y : Str, y ≠ "__name__" → mb y = bootBuiltins y)
    (hlim : s1.heap.NoLimit) (hg : s1.gens = #[]) (hr : Room k callerA)
    (F : ∀ base : Heap, K.In base → base.Ns mainGlobals mg → FnG P w K mg base k fa fd [x] sp)
    (bind : ∀ (s : Shared) (u : Value), BindsTo s fd ⟨[u], []⟩ [(x, u)])
    (hsp : sp [.ref a] H (fun v _ => v = .bl true) E0) :
    codeAny (model P w) callerA (.call (.ref fa) ⟨[.ref a], []⟩)
      (fun r s' => r = .ok (.ret (.bool true)) ∧ OldK s1.heap s'.heap ∧
        s'.os = s1.os ∧ AllBare s'.gens) s1 := by
  have ns : ∀ {b : Addr} {m : Str → Option Value}, s1.heap.Ns b m →
      (b = 0 ∨ b = 3 ∨ b = cStatics) → (hidT s1.heap H).Ns b m := by
    intro b m h c
    have n := hN b m h c
    obtain ⟨o, es, ep, e, r⟩ := h
    exact ⟨o, es, ep, hidT_get e n, r⟩
  have kb : K.In (hidT s1.heap H) := by
    intro b o e
    refine hidT_get (kin b o e) ?_
    cases q : H b with
    | none => rfl
    | some u =>
      have z := hK b (by rw [q]; exact fun t => nomatch t)
      rw [z] at e
      cases e
  have gl : (hidT s1.heap H).Ns mainGlobals mg := ns hns (Or.inr (Or.inl rfl))
  have md : Mod K mg (hidT s1.heap H) := by
    refine ⟨kb, gl, ⟨mb, ns hb (Or.inl rfl), hbb⟩, ?_⟩
    obtain ⟨mc, h1, h2⟩ := hlim
    exact ⟨mc, ns h1 (Or.inr (Or.inr rfl)), h2⟩
  have e0 : Env0 P w K mg (hidT s1.heap H) callerA [] s1 H := by
    refine ⟨rfl, md, fun b o e => of_hidT e, Nat.le_of_eq (hidT_size _ _), trivial, ?_, ok, .of_eq hg⟩
    intro b hb
    cases hb
  have run := (F _ kb gl).go callerA [] s1 H ⟨[.ref a], []⟩ [.ref a] [.ref a]
    (fun v _ => v = .bl true) E0 rfl hr e0 (bind s1 (.ref a)) (.cons rfl .nil) hsp
  refine codeAny_mono run ?_
  intro r s' h
  match r, h with
  | .error e, h => exact h.elim
  | .ok .next, h => exact h.elim
  | .ok .brk, h => exact h.elim
  | .ok .cont, h => exact h.elim
  | .ok (.ret u), h =>
    obtain ⟨v, H', os, bare, un, ok', rv, q⟩ := h
    have q' : v = .bl true := q
    subst q'
    have eu : u = Value.bool true := rv
    subst eu
    refine ⟨rfl, OldK.of_keep ?_, os, bare⟩
    intro b o e
    cases q : H b with
    | none => exact un.keep b o e q (fun z => nomatch z) (fun z => nomatch z)
    | some u =>
      obtain ⟨ob, v, rfl⟩ := hL b u q
      have q2 := un.frzs b ob v q
      have e1 : s1.heap.get? b = some ob := (ok b _ q).1
      have e2 : s'.heap.get? b = some ob := (ok' b _ q2).1
      rw [e] at e1
      cases e1
      exact e2

/-- the law's heap at its entry: the script locked (or of the module), the table of modules locked -/
theorem law_callG {vs : List Value} {ns : List Int}
    (kin : K.In s1.heap) (kS : K.lookup sysModules = none)
    (hS : ∃ o, s1.heap.get? sysModules = some o)
    (hns : s1.heap.Ns mainGlobals mg) (hb : s1.heap.Ns builtinsNs mb)
    (hbb : ∀ y : Str, y ≠ "__name__" → mb y = bootBuiltins y)
    (hlim : s1.heap.NoLimit) (hg : s1.gens = #[])
    (ha : s1.heap.get? a = some { cls := .type "list", data := .seq vs.toArray })
    (hi : IntsAre vs ns) (hl : ns.length ≤ sizeLine) (hr : Room k callerA)
    (F : ∀ base : Heap, K.In base → base.Ns mainGlobals mg → FnG P w K mg base k fa fd [x] sp)
    (bind : ∀ (s : Shared) (u : Value), BindsTo s fd ⟨[u], []⟩ [(x, u)])
    (hsp : ∀ H : Hp, Sys H → SqL K H a (ns.map V.int) → sp [.ref a] H (fun v _ => v = .bl true) E0) :
    codeAny (model P w) callerA (.call (.ref fa) ⟨[.ref a], []⟩)
      (fun r s' => r = .ok (.ret (.bool true)) ∧ OldK s1.heap s'.heap ∧
        s'.os = s1.os ∧ AllBare s'.gens) s1 := by
  have rv := vals_ints hi
  obtain ⟨o1, ho1⟩ := hS
  -- no namespace is locked
  have dat : ∀ b m, s1.heap.Ns b m → b ≠ a := by
    rintro b m ⟨o, es, ep, e, d, _⟩ rfl
    rw [ha] at e
    cases e
    have d' : Data.seq vs.toArray _ = Data.dict es ep := d
    cases d'
  have nsys : ∀ b : Addr, (b = 0 ∨ b = 3 ∨ b = cStatics) → b ≠ sysModules := by
    rintro b (rfl | rfl | rfl) <;> decide
  have okS : ∀ H : Hp, ObjOk P w H s1.heap sysModules (.frz o1 (.ext fun _ => True)) :=
    fun H => ⟨ho1, trivial, ⟨o1, ho1⟩, fun _ _ _ _ => trivial⟩
  cases hk : K.lookup a with
  | some o =>
    have e := kin a o hk
    rw [ha] at e
    cases e
    have hL : SqL K (fun b => if b = sysModules then some (.frz o1 (.ext fun _ => True)) else none) a (ns.map V.int) := by
      refine Or.inr ⟨_, vs.toArray, _, hk, rfl, rfl, rfl, ?_, by simpa using rv⟩
      rw [List.size_toArray, hi.length]
      exact hl
    refine enterG (fun b => if b = sysModules then some (.frz o1 (.ext fun _ => True)) else none)
      ?_ ?_ ?_ ?_ kin hns hb hbb hlim hg hr F bind (hsp _ ⟨o1, _, if_pos rfl⟩ hL)
    · intro b u q
      by_cases c : b = sysModules
      · have q' := (if_pos c).symm.trans q
        cases q'
        exact ⟨_, _, rfl⟩
      · have q' := (if_neg c).symm.trans q
        cases q'
    · intro b u q
      by_cases c : b = sysModules
      · have q' := (if_pos c).symm.trans q
        cases q'
        subst c
        exact okS _
      · have q' := (if_neg c).symm.trans q
        cases q'
    · intro b q
      by_cases c : b = sysModules
      · subst c
        exact kS
      · exact absurd (if_neg c) q
    · intro b m _ c
      exact if_neg (nsys b c)
  | none =>
    let H0 : Hp := fun b => if b = a then some (.frz { cls := .type "list", data := .seq vs.toArray } (.lst (ns.map V.int)))
      else if b = sysModules then some (.frz o1 (.ext fun _ => True)) else none
    have at_a : H0 a = some (.frz { cls := .type "list", data := .seq vs.toArray } (.lst (ns.map V.int))) := if_pos rfl
    have sysH : Sys H0 := by
      by_cases c : sysModules = a
      · exact ⟨_, _, if_pos c⟩
      · exact ⟨o1, _, (if_neg c).trans (if_pos rfl)⟩
    refine enterG H0 ?_ ?_ ?_ ?_ kin hns hb hbb hlim hg hr F bind (hsp _ sysH (Or.inl (Or.inr ⟨_, at_a⟩)))
    · intro b u q
      by_cases c : b = a
      · have q' := (if_pos c).symm.trans q
        cases q'
        exact ⟨_, _, rfl⟩
      · by_cases c2 : b = sysModules
        · have q' := ((if_neg c).trans (if_pos c2)).symm.trans q
          cases q'
          exact ⟨_, _, rfl⟩
        · have q' := ((if_neg c).trans (if_neg c2)).symm.trans q
          cases q'
    · intro b u q
      by_cases c : b = a
      · have q' := (if_pos c).symm.trans q
        cases q'
        subst c
        exact ⟨ha, by rw [List.length_map]; exact hl, vs, _, rv, ha⟩
      · by_cases c2 : b = sysModules
        · have q' := ((if_neg c).trans (if_pos c2)).symm.trans q
          cases q'
          subst c2
          exact okS _
        · have q' := ((if_neg c).trans (if_neg c2)).symm.trans q
          cases q'
    · intro b q
      by_cases c : b = a
      · rw [c]
        exact hk
      · by_cases c2 : b = sysModules
        · rw [c2]
          exact kS
        · exact absurd ((if_neg c).trans (if_neg c2)) q
    · intro b m h c
      exact (if_neg (dat b m h)).trans (if_neg (nsys b c))
end

/-- the end of a law's row, by a promise of FnG -/
theorem walkG {l : PySem.W.OpenLaw} {n k : Nat} {q : Program} {loose : List Str}
    {XP : (Str → Option Value) → Heap → Prop} {YP : World → Heap → Prop} {d : DefRec}
    {K : Params → PySem.W.Frag} {sp : World → Sp} {x : Str}
    (hn : l.most = some n) (him : importsNone q = true) (hn2 : n ≤ sizeLine) (hdf : d.params.defaults = []) (hr : Room k callerA)
    (hY : ∀ (w : World) (h : Heap), YP w h → (K w.params).In h)
    (kS : ∀ w : World, (K w.params).lookup sysModules = none)
    (F : ∀ (w : World) (mg : Str → Option Value) (fa : Addr) (h : Heap),
      (K w.params).In h → h.Ns mainGlobals mg → mg d.name = some (.ref fa) →
      ∃ fd : FuncData, (∀ (s : Shared) (u : Value), BindsTo s fd ⟨[u], []⟩ [(x, u)]) ∧
        ∀ base : Heap, (K w.params).In base → base.Ns mainGlobals mg →
          FnG l.prog w (K w.params) mg base k fa fd [x] (sp w))
    (hsp : ∀ (w : World) (H : Hp) (a : Addr) (ns : List Int), ns.length ≤ n → Sys H →
      SqL (K w.params) H a (ns.map V.int) → sp w [.ref a] H (fun v _ => v = .bl true) E0) :
    PySem.W.WalkO q loose XP YP l.row.toRowW d [] (fun f vs => PySem.call f vs) := by
  refine Att.attach_call hn hdf ?_
  intro w s0 s1 mg mb fa o pm cd doc a vs ns G Y ho hd hcd hmg hobj hints hlen hg
  have kin := hY w _ Y
  obtain ⟨fd, hb, hF⟩ := F w mg fa _ kin G.T.g hmg
  have hS : ∃ o, s1.heap.get? sysModules = some o := by
    obtain ⟨mm, ⟨o, es, ep, e, _⟩, _⟩ := (G.T.seer him).mods
    exact ⟨o, e⟩
  exact law_callG kin (kS w) hS G.T.g G.T.b G.T.builtins G.T.nolimit hg hobj hints
    (Nat.le_trans hlen hn2) hr hF hb (fun H h1 h2 => hsp w H a ns hlen h1 h2)
end Ol

set_option Elab.async false
set_option linter.all false
set_option maxRecDepth 100000
set_option maxHeartbeats 4000000
namespace Ol
open PySem PySem.Spec PyProof.Rows L2

/-- a key of a dict as data -/
def keyD : Key → PyData
  | .inl i => .int i
  | .inr x => .str x

/-! ### data of any depth, dicts with ints and texts as keys too -/
mutual
inductive Dq (H : Hp) : V → PyData → Prop
  | non : Dq H .non .none
  | bl (b : Bool) : Dq H (.bl b) (.bool b)
  | int (i : Int) : Dq H (.int i) (.int i)
  | str (x : Str) : Dq H (.str x) (.str x)
  | lst {a : Addr} {xs : List V} {ds : List PyData} :
      H a = some (.lst xs) → DqAll H xs ds → Dq H (.ref a) (.list ds)
  | tup {a : Addr} {xs : List V} {ds : List PyData} :
      H a = some (.tup xs) → DqAll H xs ds → Dq H (.ref a) (.tuple ds)
  | dct {a : Addr} {kvs : List (Key × V)} {ds : List PyData} :
      H a = some (.dK kvs) → DqAll H (kvs.map (·.2)) ds →
      Dq H (.ref a) (.dict ((kvs.map fun kv => keyD kv.1).zip ds))
inductive DqAll (H : Hp) : List V → List PyData → Prop
  | nil : DqAll H [] []
  | cons {v : V} {vs : List V} {d : PyData} {ds : List PyData} :
      Dq H v d → DqAll H vs ds → DqAll H (v :: vs) (d :: ds)
end

theorem DqAll.len {H : Hp} : ∀ {vs : List V} {ds : List PyData}, DqAll H vs ds → vs.length = ds.length
  | [], _, h => by cases h; rfl
  | v :: vs, _, h => by
    cases h with
    | cons _ t => rw [List.length_cons, List.length_cons, t.len]

/-- what is tracked in H stands in H' as well -/
def Ext (H H' : Hp) : Prop := ∀ b o, H b = some o → H' b = some o

mutual
theorem Dq.up {H H' : Hp} (e : Ext H H') : ∀ {v : V} {d : PyData}, Dq H v d → Dq H' v d
  | _, _, .non => .non
  | _, _, .bl b => .bl b
  | _, _, .int i => .int i
  | _, _, .str x => .str x
  | _, _, .lst h t => .lst (e _ _ h) (DqAll.up e t)
  | _, _, .tup h t => .tup (e _ _ h) (DqAll.up e t)
  | _, _, .dct h t => .dct (e _ _ h) (DqAll.up e t)
theorem DqAll.up {H H' : Hp} (e : Ext H H') : ∀ {vs : List V} {ds : List PyData}, DqAll H vs ds → DqAll H' vs ds
  | _, _, .nil => .nil
  | _, _, .cons h t => .cons (Dq.up e h) (DqAll.up e t)
end

section
variable {X : Cx} {pins : List (Addr × Obj)} {σ : L2.St} {H : Hp} {s : Shared}

theorem keys_reads {h : Heap} {knd : List (Key × Value)} : ∀ {kvs : List (Key × V)} {es : List DictEntry} {vs : List (Key × Value)},
    L2.KV kvs vs → Pairs (mixKind X.prog X.w) es vs →
    ReadsAll h (es.map (·.key)) (kvs.map fun kv => keyD kv.1) [] ∧ Vals (kvs.map (·.2)) (es.map (·.val))
  | [], es, _, r, p => by
    cases r
    cases p
    exact ⟨.nil, .nil⟩
  | kv :: kvs, es, _, r, p => by
    cases r with
    | cons r1 r2 =>
      cases p with
      | cons p1 p2 p3 =>
        obtain ⟨q1, q2⟩ := keys_reads (h := h) (knd := knd) r2 p3
        refine ⟨?_, .cons ?_ q2⟩
        case refine_2 =>
          have z := r1.2
          rw [← p2] at z
          exact z
        have e1 := r1.1
        rw [← e1] at p1
        rcases keyIs_shape p1 with ⟨i, t, e, e'⟩ | ⟨x, t, e, e'⟩
        · have z := ReadsAll.cons (Reads.int (h := h) i t) q1
          rw [List.map_cons, List.map_cons, e, e']
          exact z
        · have z := ReadsAll.cons (Reads.str (h := h) x t) q1
          rw [List.map_cons, List.map_cons, e, e']
          exact z

theorem zip_fst {α β : Type} : ∀ {xs : List α} {ys : List β}, xs.length = ys.length → (xs.zip ys).map (·.1) = xs
  | [], _, _ => by simp
  | x :: xs, [], h => by simp at h
  | x :: xs, y :: ys, h => by
    rw [List.zip_cons_cons, List.map_cons, zip_fst (by simpa using h)]
theorem zip_snd {α β : Type} : ∀ {xs : List α} {ys : List β}, xs.length = ys.length → (xs.zip ys).map (·.2) = ys
  | [], [], _ => by simp
  | [], y :: ys, h => by simp at h
  | x :: xs, [], h => by simp at h
  | x :: xs, y :: ys, h => by
    rw [List.zip_cons_cons, List.map_cons, zip_snd (by simpa using h)]

mutual
theorem Dq.reads (I : Inv X pins σ H s) (S : Sys H) : ∀ {v : V} {d : PyData} {u : Value}, Dq H v d → RelV v u →
    ∃ as, Reads s.heap u d as ∧ sysModules ∉ as
  | _, _, _, .non, r => by
    cases r
    exact ⟨_, Reads.none, nofun⟩
  | _, _, _, .bl b, r => by
    cases r
    exact ⟨_, Reads.bool b, nofun⟩
  | _, _, _, .int i, r => by
    obtain ⟨t, rfl⟩ := r
    exact ⟨_, Reads.int i t, nofun⟩
  | _, _, _, .str x, r => by
    obtain ⟨t, rfl⟩ := r
    exact ⟨_, Reads.str x t, nofun⟩
  | _, _, _, .lst (a := a) (xs := xs) h t, r => by
    cases r
    obtain ⟨_, its, n, rv, e⟩ := I.hok a _ h
    obtain ⟨as, q, n1⟩ := DqAll.reads I S t rv
    refine ⟨_, Reads.list e rfl rfl q, ?_⟩
    intro m
    rcases List.mem_cons.mp m with m | m
    · obtain ⟨o, u, hs⟩ := S
      rw [m, h] at hs
      cases hs
    · exact n1 m
  | _, _, _, .tup (a := a) (xs := xs) h t, r => by
    cases r
    obtain ⟨_, its, rv, o, e, c, n, d⟩ := I.hok a _ h
    obtain ⟨as, q, n1⟩ := DqAll.reads I S t rv
    exact ⟨_, Reads.tuple e c d q, n1⟩
  | _, _, _, .dct (a := a) (kvs := kvs) (ds := ds) h t, r => by
    cases r
    obtain ⟨_, na, vs, rel, o, es, ep, e, ex, hd, _, pr, _⟩ := I.hok a _ h
    obtain ⟨q1, q2⟩ := keys_reads (X := X) (h := s.heap) (knd := vs) rel pr
    obtain ⟨bs, q3, n1⟩ := DqAll.reads I S t q2
    have hl : (kvs.map fun kv => keyD kv.1).length = ds.length := by
      rw [List.length_map, ← t.len, List.length_map]
    refine ⟨_, Reads.dict (kvs := (kvs.map fun kv => keyD kv.1).zip ds) e ex.1 hd (as := []) (bs := bs) ?_ ?_, ?_⟩
    · rw [zip_fst hl]
      exact q1
    · rw [zip_snd hl]
      exact q3
    · intro m
      rcases List.mem_cons.mp m with m | m
      · rw [← m] at na
        exact absurd na (by decide)
      · exact n1 (by simpa using m)
theorem DqAll.reads (I : Inv X pins σ H s) (S : Sys H) : ∀ {vs : List V} {ds : List PyData} {us : List Value}, DqAll H vs ds → Vals vs us →
    ∃ as, ReadsAll s.heap us ds as ∧ sysModules ∉ as
  | _, _, _, .nil, r => by
    cases r
    exact ⟨_, ReadsAll.nil, nofun⟩
  | _, _, _, .cons h t, r => by
    cases r with
    | cons r1 r2 =>
      obtain ⟨as, q1, n1⟩ := Dq.reads I S h r1
      obtain ⟨bs, q2, n2⟩ := DqAll.reads I S t r2
      refine ⟨_, ReadsAll.cons q1 q2, ?_⟩
      intro m
      rcases List.mem_append.mp m with m | m
      · exact n1 m
      · exact n2 m
end
end

/-- repr(x) of data -/
def rRepr : List V → Hp → VK → Prop := fun vs H Q => ∃ v d, vs = [v] ∧ Sys H ∧ Dq H v d ∧
  d.showable = true ∧ d.depth ≤ 40 ∧ d.shown.length ≤ sizeLine ∧ Q (.str d.shown) H

theorem call_reprD {X : Cx} {k : Nat} (hG : X.A.guards = some []) (hr : Room k X.A) : CallR X (.builtin "repr") rRepr := by
  intro pins s σ H vs us Q I r h
  obtain ⟨v, d, rfl, S, hd, hs, hdp, hz, q⟩ := h
  obtain ⟨u, rfl, ru⟩ := vals1 r
  have hu := hr.units
  obtain ⟨as, rd, n1⟩ := Dq.reads I S hd ru
  have leaf : ∀ {x : Str}, x = d.shown → EP X pins σ Q (.str x s.toks) { s with toks := s.toks + 1 } := by
    rintro x rfl
    exact ⟨.str _, H, I.tok _, ⟨_, rfl⟩, q⟩
  cases hd with
  | non =>
    cases ru
    exact PySem.P.repr_of_none (leaf (by simp only [PyData.shown]))
  | bl b =>
    cases ru
    exact PySem.P.repr_of_bool (leaf (by simp only [PyData.shown]))
  | int i =>
    obtain ⟨t, rfl⟩ := ru
    exact PySem.P.repr_of_int (by simpa [PyData.showable] using hs) (leaf (by simp only [PyData.shown]))
  | str x =>
    obtain ⟨t, rfl⟩ := ru
    exact PySem.P.repr_of_str (leaf (by simp only [PyData.shown])) (by simpa only [PyData.shown] using hz)
  | lst h t =>
    cases ru
    exact repr_of_reads' rd hs (fun _ => n1) hG (by omega) (fun _ _ e => e)
      (fun h' u tk hk => ⟨.str _, H, I.kept (t' := tk) hk, ⟨u, rfl⟩, q⟩) hz
  | tup h t =>
    cases ru
    exact repr_of_reads' rd hs (fun _ => n1) hG (by omega) (fun _ _ e => e)
      (fun h' u tk hk => ⟨.str _, H, I.kept (t' := tk) hk, ⟨u, rfl⟩, q⟩) hz
  | dct h t =>
    cases ru
    exact repr_of_reads' rd hs (fun _ => n1) hG (by omega) (fun _ _ e => e)
      (fun h' u tk hk => ⟨.str _, H, I.kept (t' := tk) hk, ⟨u, rfl⟩, q⟩) hz
end Ol

set_option Elab.async false
set_option linter.all false
set_option maxRecDepth 100000
set_option maxHeartbeats 4000000
namespace Ol
open PySem PySem.Spec PyProof.Rows L2

theorem Ext.refl (H : Hp) : Ext H H := fun _ _ e => e
theorem Ext.trans {H H1 H2 : Hp} (a : Ext H H1) (b : Ext H1 H2) : Ext H H2 := fun c o e => b c o (a c o e)
theorem Ext.new {H : Hp} {p : Addr} {o : HO} (h : H p = none) : Ext H (upd H p o) := fun b u e => by
  rw [upd_ne (ne_of_none e h)]
  exact e
/-- what was not tracked at the start may change -/
theorem Ext.mut {H H' : Hp} {p : Addr} {o : HO} (e : Ext H H') (h : H p = none) : Ext H (upd H' p o) := fun b u eb => by
  rw [upd_ne (ne_of_none eb h)]
  exact e b u eb
theorem Ext.free {H H' : Hp} (e : Ext H H') {p : Addr} (h : H' p = none) : H p = none := by
  cases q : H p with
  | none => rfl
  | some o =>
    rw [e p o q] at h
    cases h

/-- xs[j] read, for xs[j] += e -/
def rGetL (K : PySem.W.Frag) : V → V → Hp → VK → Prop := fun x y H Q => ∃ (p : Addr) (xs : List V) (j : Nat) (v : V),
  x = .ref p ∧ y = .int (j : Int) ∧ SqL K H p xs ∧ xs[j]? = some v ∧ Q v H
theorem get_list {X : Cx} : PGet X (rGetL X.K) := by
  intro pins s σ H o i ov iv Q I ro ri h
  obtain ⟨p, xs, j, v, rfl, rfl, hq, hj, q⟩ := h
  cases ro
  obtain ⟨t, rfl⟩ := ri
  obtain ⟨its, r, pl, hz⟩ := I.list hq
  obtain ⟨u, eu, ru⟩ := r.get hj
  have hlt : j < xs.length := (List.getElem?_eq_some_iff.mp hj).1
  have h63 := line63
  refine wpAny_getItem_list (x := u) pl.isList (by omega) (by omega) (by simpa using eu) ?_
  exact ⟨v, H, I, ru, q⟩

/-- one statement, then the rest of a block, with what holds between -/
theorem cutB {X : Cx} {s : Stmt} {r : List Stmt} {D : Ends} {σ : L2.St} {H : Hp} (W : L2.St → Hp → Prop)
    (h2 : ∃ t2, PSs X r t2 ∧ ∀ σ' H', W σ' H' → t2 D σ' H')
    (h1 : ∃ t1, PS X s t1 ∧ ∀ nx : L2.St → Hp → Prop, (∀ σ' H', W σ' H' → nx σ' H') → t1 { D with nx := nx } σ H) :
    ∃ t, PSs X (s :: r) t ∧ t D σ H := by
  obtain ⟨t2, d2, k2⟩ := h2
  obtain ⟨t1, d1, k1⟩ := h1
  exact ⟨_, pss_cons d1 d2, k1 _ k2⟩

/-- no built-in name is taken by the module -/
structure BT (mg : Str → Option Value) : Prop where
  n_len : mg "len" = none
  n_int : mg "int" = none
  n_abs : mg "abs" = none
  n_range : mg "range" = none
  n_repr : mg "repr" = none
  n_isinstance : mg "isinstance" = none
  n_all : mg "all" = none
  n_tuple : mg "tuple" = none
  n_list : mg "list" = none
  n_str : mg "str" = none
  n_bool : mg "bool" = none
  n_dict : mg "dict" = none
  n_sorted : mg "sorted" = none

/-! ### the bag: a list of three ints and the cells; its ints are set aside -/
def bagL (b0 b1 b2 : Int) (c : Addr) : List V := [.int b0, .int b1, .int b2, .ref c]
structure BagI (b0 b1 b2 : Int) : Prop where
  h0 : 0 ≤ b0
  h1 : 0 ≤ b1
  h1' : b1 < 2147483647
  h2 : 0 ≤ b2
def bagP (a c : Addr) : Heap → Prop := fun h => ∃ (b0 b1 b2 : Int) (t0 t1 t2 : Tok) (n : Nat),
  h.get? a = some { cls := .type "list", data := .seq #[.int b0 t0, .int b1 t1, .int b2 t2, .ref c] n } ∧ BagI b0 b1 b2
def Bag (H : Hp) (a : Addr) : Prop := ∃ (c : Addr) (ns : List Int), H a = some (.ext (bagP a c)) ∧
  H c = some (.lst (ns.map V.int)) ∧ (∀ n ∈ ns, 0 ≤ n)
theorem Bag.up {H H' : Hp} {a : Addr} (e : Ext H H') : Bag H a → Bag H' a
  | ⟨c, ns, h1, h2, h3⟩ => ⟨c, ns, e _ _ h1, e _ _ h2, h3⟩

/-- a draw, the bag's ints told -/
def spTake0 : Sp := fun vs H Q _ => ∃ (a c : Addr) (b0 b1 b2 : Int) (ns : List Int) (m : Int),
  vs = [.ref a, .int m] ∧ H a = some (.lst (bagL b0 b1 b2 c)) ∧ H c = some (.lst (ns.map V.int)) ∧ (∀ n ∈ ns, 0 ≤ n) ∧
  BagI b0 b1 b2 ∧ 0 < m ∧ m < 1073741824 ∧
  ∀ (r x0 x1 x2 : Int), 0 ≤ r → r < m → BagI x0 x1 x2 → Q (.int r) (upd H a (.lst (bagL x0 x1 x2 c)))
/-- a draw, the bag set aside -/
def spTake : Sp := fun vs H Q _ => ∃ (a : Addr) (m : Int), vs = [.ref a, .int m] ∧ Bag H a ∧ 0 < m ∧ m < 1073741824 ∧
  ∀ r : Int, 0 ≤ r → r < m → Q (.int r) H

section
variable {P : Program} {w : World} {K : PySem.W.Frag} {mg : Str → Option Value} {base : Heap}

theorem hide {k : Nat} {f : Addr} {fd : FuncData} {ps : List Str} (F : FnOk P w K mg base CX0 k f fd ps spTake0) :
    FnOk P w K mg base CX0 k f fd ps spTake := by
  refine ⟨?_, ?_⟩
  · rintro vs H Q E ⟨a, m, rfl, ⟨c, ns, h1, h2, h3⟩, hm, hm2, q⟩
    have hca : c ≠ a := ne_of h2 h1 (fun z => nomatch z)
    exact F.len [.ref a, .int m] (upd H a (.lst (bagL 0 0 0 c))) (fun _ _ => True) E0
      ⟨a, c, 0, 0, 0, ns, m, rfl, upd_same, by rw [upd_ne hca]; exact h2, h3, ⟨by decide, by decide, by decide, by decide⟩, hm, hm2, fun _ _ _ _ _ _ _ => trivial⟩
  · rintro A outer s H args us vs Q E hr e0 hb rv ⟨a, m, rfl, ⟨c, ns, h1, h2, h3⟩, hm, hm2, q⟩
    have hca : c ≠ a := ne_of h2 h1 (fun z => nomatch z)
    obtain ⟨⟨b0, b1, b2, t0, t1, t2, n, eo, bi⟩, _, _⟩ := e0.hok a _ h1
    have mu : Mut (H a) := by
      rw [h1]
      trivial
    have nw : ObjOk P w (upd H a (.lst (bagL b0 b1 b2 c))) s.heap a (.lst (bagL b0 b1 b2 c)) :=
      ⟨by show 4 ≤ sizeLine; decide, [.int b0 t0, .int b1 t1, .int b2 t2, .ref c], n, .cons ⟨t0, rfl⟩ (.cons ⟨t1, rfl⟩ (.cons ⟨t2, rfl⟩ (.cons rfl .nil))), eo⟩
    have ok1 : HOk P w (upd H a (.lst (bagL b0 b1 b2 c))) s.heap := HOk.write e0.hok mu (Or.inl rfl) (fun _ _ _ z => z) ⟨_, eo⟩ nw
    have un1 : Un (frs outer) [] H (upd H a (.lst (bagL b0 b1 b2 c))) s.heap s.heap := Un.write mu (Or.inl rfl) (fun _ _ _ z => z) ⟨_, eo⟩
    have none1 : ∀ b, H b = none → upd H a (.lst (bagL b0 b1 b2 c)) b = none := fun b z => by
      rw [upd_ne (fun y => by rw [y, h1] at z; cases z)]
      exact z
    have e1 : Env0 P w K mg base A outer s (upd H a (.lst (bagL b0 b1 b2 c))) :=
      ⟨e0.frames, e0.mod, fun b o z => ⟨(e0.bs b o z).1, none1 b (e0.bs b o z).2⟩, e0.bsz, e0.funs, fun b z => none1 b (e0.frf b z), ok1, e0.bare⟩
    have run := F.run A outer s (upd H a (.lst (bagL b0 b1 b2 c))) args us [.ref a, .int m]
      (fun v H' => ∃ (r x0 x1 x2 : Int), v = .int r ∧ 0 ≤ r ∧ r < m ∧ BagI x0 x1 x2 ∧ H' = upd (upd H a (.lst (bagL b0 b1 b2 c))) a (.lst (bagL x0 x1 x2 c)))
      E hr e1 hb rv ⟨a, c, b0, b1, b2, ns, m, rfl, upd_same, by rw [upd_ne hca]; exact h2, h3, bi, hm, hm2, fun r x0 x1 x2 g1 g2 g3 => ⟨r, x0, x1, x2, rfl, g1, g2, g3, rfl⟩⟩
    refine codeAny_mono run ?_
    intro res s' h
    match res, h with
    | .error _, h => exact h.elim
    | .ok .next, h => exact h.elim
    | .ok .brk, h => exact h.elim
    | .ok .cont, h => exact h.elim
    | .ok (.ret u), h =>
      obtain ⟨v, H', os, bare, un, hok', rv', r, x0, x1, x2, rfl, g1, g2, g3, eH⟩ := h
      have hb' : H' a = some (.lst (bagL x0 x1 x2 c)) := by rw [eH, upd_same]
      have back : upd H' a (.ext (bagP a c)) = H := by
        rw [eH, upd_upd, upd_upd]
        funext b
        by_cases z : b = a
        · rw [z, upd_same, h1]
        · rw [upd_ne z]
      have mu' : Mut (H' a) := by
        rw [hb']
        trivial
      obtain ⟨_, its, n', r', eo'⟩ := hok' a _ hb'
      have shape : ∃ y0 y1 y2, its = [.int x0 y0, .int x1 y1, .int x2 y2, .ref c] := by
        cases r' with
        | cons q0 r' => cases r' with
          | cons q1 r' => cases r' with
            | cons q2 r' => cases r' with
              | cons q3 r' =>
                cases r'
                obtain ⟨y0, rfl⟩ := q0
                obtain ⟨y1, rfl⟩ := q1
                obtain ⟨y2, rfl⟩ := q2
                cases q3
                exact ⟨y0, y1, y2, rfl⟩
      obtain ⟨y0, y1, y2, rfl⟩ := shape
      have nw' : ObjOk P w (upd H' a (.ext (bagP a c))) s'.heap a (.ext (bagP a c)) := by
        refine ⟨⟨x0, x1, x2, y0, y1, y2, n', eo', g3⟩, ⟨_, eo'⟩, ?_⟩
        rintro g g' ⟨z0, z1, z2, w0, w1, w2, n2, e2, i2⟩ hk
        exact ⟨z0, z1, z2, w0, w1, w2, n2, hk _ e2, i2⟩
      have ok2 := HOk.write hok' mu' (Or.inl rfl) (fun _ _ _ z => z) ⟨_, eo'⟩ nw'
      have un2 : Un (frs outer) [] H' (upd H' a (.ext (bagP a c))) s'.heap s'.heap := Un.write mu' (Or.inl rfl) (fun _ _ _ z => z) ⟨_, eo'⟩
      rw [back] at ok2 un2
      exact ⟨.int r, H, os, bare, (un1.trans un).trans un2, ok2, rv', q r g1 g2⟩
end
end Ol

set_option Elab.async false
set_option linter.all false
set_option maxRecDepth 100000
set_option maxHeartbeats 4000000
namespace Ol
open PySem PySem.Spec PyProof.Rows L2

/-- what of H' is new over H -/
def nw (H H' : Hp) : Hp := fun b => match H b with
  | none => H' b
  | some _ => none
theorem nw_none {H H' : Hp} {b : Addr} (h : H b = none) : nw H H' b = H' b := by
  unfold nw
  rw [h]
theorem nw_some {H H' : Hp} {b : Addr} {o : HO} (h : H b = some o) : nw H H' b = none := by
  unfold nw
  rw [h]
theorem nw_ext {H H' : Hp} : Ext (nw H H') H' := fun b o e => by
  cases h : H b with
  | none => rwa [nw_none h] at e
  | some u =>
    rw [nw_some h] at e
    cases e
theorem nw_up {H H1 H2 : Hp} (e : Ext H1 H2) : Ext (nw H H1) (nw H H2) := fun b o q => by
  cases h : H b with
  | none =>
    rw [nw_none h] at q ⊢
    exact e b o q
  | some u =>
    rw [nw_some h] at q
    cases q
theorem nw_base {H0 H H' : Hp} (e : Ext H0 H) : Ext (nw H H') (nw H0 H') := fun b o q => by
  cases h : H b with
  | none => 
    rw [nw_none h] at q
    rw [nw_none (e.free h)]
    exact q
  | some u =>
    rw [nw_some h] at q
    cases q
theorem nw_dom {H0 H H' : Hp} (e : ∀ b, H b = none → H0 b = none) : Ext (nw H H') (nw H0 H') := fun b o q => by
  cases h : H b with
  | none =>
    rw [nw_none h] at q
    rw [nw_none (e b h)]
    exact q
  | some u =>
    rw [nw_some h] at q
    cases q
/-- from new over a later heap to new over an earlier one -/
theorem nw_mono {H0 H H1 H2 : Hp} (e : Ext H0 H) (f : Ext H1 H2) : Ext (nw H H1) (nw H0 H2) := (nw_base e).trans (nw_up f)
theorem nw_at {H H' : Hp} {p : Addr} {o : HO} (h : H p = none) : nw H (upd H' p o) p = some o := by rw [nw_none h, upd_same]
theorem nw_mut {H H' : Hp} {p : Addr} {o u : HO} (h : H p = some u) : Ext (nw H H') (nw H (upd H' p o)) := fun b z q => by
  cases g : H b with
  | none =>
    rw [nw_none g] at q ⊢
    rw [upd_ne (fun y => by rw [y, h] at g; cases g)]
    exact q
  | some _ =>
    rw [nw_some g] at q
    cases q

/-- a list comprehension without a test: its items are new things of which R holds -/
theorem lc_ext {J : It} {n : Nat} {G : Hp → Prop} {Y : Nat → Hp → V → Hp → Prop} (w : Walk J n G Y) {j : Nat} {te : TE} {σ : L2.St} {H1 : Hp} {D : Addr} {Qd : Hp → Prop}
    (R : Nat → V → Hp → Prop) (up : ∀ i v H H', Ext H H' → R i v H → R i v H') (hD : H1 D = none) (hn : n ≤ sizeLine) 
    (hG : ∀ H, Ext H1 H → G H)
    (hs : ∀ i x H H', i < n → Ext H1 H → Y i H x H' → Ext H H' ∧ ∀ Q : VK, (∀ y H4, Ext H' H4 → R i y (nw H' H4) → Q y H4) → te ((wipe σ [j]).set j (some x)) H' Q)
    (hd : ∀ H xs, Ext H1 H → H D = some (.lst xs) → xs.length = n → (∀ i y, xs[i]? = some y → R i y (nw H1 H)) → Qd H) :
    ∃ W : Nat → Nat → Hp → Prop, (∃ m, W 0 m (upd H1 D (.lst []))) ∧ ∀ i m H, W i m H →
      (J.stop i H ∧ Qd H) ∨ (J.go i H ∧ ∃ Nx : Hp → Prop, (∀ H', Nx H' → ∃ m', m' < m ∧ W (i + 1) m' H') ∧ ∀ x H', J.yld i H x H' → gName j x (wipe σ [j]) H' fun σ2 H2 => wipe σ2 [j] = wipe σ [j] ∧ tYes σ2 H2 fun b H3 =>
        if b = true then te σ2 H3 fun y H4 => ∃ acc, H4 D = some (.lst acc) ∧ acc.length < sizeLine ∧ Nx (upd H4 D (.lst (acc ++ [y]))) else Nx H3) := by
  let Hs : Hp := upd H1 D (.lst [])
  have hsD : Hs D = some (.lst []) := upd_same
  have e1 : Ext H1 Hs := Ext.new hD
  refine lc_it w (fun i H => ∃ xs, Ext H1 H ∧ H D = some (.lst xs) ∧ xs.length = i ∧ ∀ k y, xs[k]? = some y → R k y (nw Hs H))
    ⟨[], e1, hsD, rfl, fun k y z => by simp at z⟩ (by rintro i H _ ⟨xs, e, _⟩; exact hG H e) ?_ ?_
  · rintro i x H H' hi ⟨xs, e, hx, hl, hr⟩ y
    obtain ⟨e2, ht⟩ := hs i x H H' hi e y
    have hw : wipe ((wipe σ [j]).set j (some x)) [j] = wipe σ [j] := by
      show ((σ.set j none).set j (some x)).set j none = σ.set j none
      rw [List.set_set, List.set_set]
    refine ⟨hw, ?_⟩
    unfold tYes
    dsimp only
    rw [if_pos rfl]
    refine ht _ ?_
    intro v H4 e4 rv
    refine ⟨xs, e4 _ _ (e2 _ _ hx), by omega, xs ++ [v], ?_, upd_same, by rw [List.length_append, hl]; rfl, ?_⟩
    · exact Ext.mut ((e.trans e2).trans e4) hD
    · intro k u hk
      have toN : Ext (nw Hs H4) (nw Hs (upd H4 D (.lst (xs ++ [v])))) := nw_mut hsD
      by_cases hkl : k < xs.length
      · rw [List.getElem?_append_left hkl] at hk
        exact up _ _ _ _ ((nw_up (e2.trans e4)).trans toN) (hr k u hk)
      · have hk2 : k = xs.length := by
          have z := (List.getElem?_eq_some_iff.mp hk).1
          rw [List.length_append] at z
          simp at z
          omega
        subst hk2
        rw [List.getElem?_append_right (Nat.le_refl _), Nat.sub_self] at hk
        have hv : v = u := Option.some.inj hk
        subst hv
        rw [hl]
        have hsub : ∀ b, H' b = none → Hs b = none := by
          intro b q
          have q1 : H b = none := e2.free q
          have z : b ≠ D := fun z => by rw [z, hx] at q1; cases q1
          rw [show Hs b = H1 b from upd_ne z]
          exact e.free q1
        exact up _ _ _ _ ((nw_dom hsub).trans toN) rv
  · rintro H ⟨xs, e, hx, hl, hr⟩
    exact hd H xs e hx hl fun i y z => up _ _ _ _ (nw_base e1) (hr i y z)
end Ol

set_option Elab.async false
set_option linter.all false
set_option maxRecDepth 100000
set_option maxHeartbeats 4000000
namespace Ol
open PySem PySem.Spec PyProof.Rows L2

/-! ### comprehensions that leave the heap but for their list -/
theorem lc_det {J : It} {n : Nat} {G : Hp → Prop} {Y : Nat → Hp → V → Hp → Prop} (w : Walk J n G Y) {j : Nat} {tt : TT} {te : TE} {σ : L2.St} {H1 : Hp} {D : Addr} {Qd : Hp → Prop}
    (f : Nat → V) (p : Nat → Bool) (g : Nat → V) (hD : H1 D = none) (hn : n ≤ sizeLine)
    (hY : ∀ i H x H', i < n → Y i H x H' → H' = H ∧ x = f i) (hG : ∀ H, Ext H1 H → G H)
    (ht : ∀ i H, i < n → Ext H1 H → ∀ Q : Bool → Hp → Prop, Q (p i) H → tt ((wipe σ [j]).set j (some (f i))) H Q)
    (he : ∀ i H, i < n → p i = true → Ext H1 H → ∀ Q : VK, Q (g i) H → te ((wipe σ [j]).set j (some (f i))) H Q)
    (hd : Qd (upd H1 D (.lst (((List.range n).filter p).map g)))) :
    ∃ W : Nat → Nat → Hp → Prop, (∃ m, W 0 m (upd H1 D (.lst []))) ∧ ∀ i m H, W i m H →
      (J.stop i H ∧ Qd H) ∨ (J.go i H ∧ ∃ Nx : Hp → Prop, (∀ H', Nx H' → ∃ m', m' < m ∧ W (i + 1) m' H') ∧ ∀ x H', J.yld i H x H' → gName j x (wipe σ [j]) H' fun σ2 H2 => wipe σ2 [j] = wipe σ [j] ∧ tt σ2 H2 fun b H3 =>
        if b = true then te σ2 H3 fun y H4 => ∃ acc, H4 D = some (.lst acc) ∧ acc.length < sizeLine ∧ Nx (upd H4 D (.lst (acc ++ [y]))) else Nx H3) := by
  have ex : ∀ o, Ext H1 (upd H1 D o) := fun o => Ext.new hD
  refine lc_it w (fun i H => H = upd H1 D (.lst (((List.range i).filter p).map g))) rfl (by rintro i H _ rfl; exact hG _ (ex _)) ?_ (by rintro H rfl; exact hd)
  rintro i x H H' hi rfl y
  obtain ⟨rfl, rfl⟩ := hY i _ _ _ hi y
  have hw : wipe ((wipe σ [j]).set j (some (f i))) [j] = wipe σ [j] := by
    show ((σ.set j none).set j (some (f i))).set j none = σ.set j none
    rw [List.set_set, List.set_set]
  refine ⟨hw, ht i _ hi (ex _) _ ?_⟩
  cases hp : p i with
  | true =>
    rw [if_pos rfl]
    refine he i _ hi hp (ex _) _ ?_
    refine ⟨_, upd_same, ?_, ?_⟩
    · rw [List.length_map]
      have h1 := List.length_filter_le p (List.range i)
      rw [List.length_range] at h1
      omega
    · rw [upd_upd, List.range_succ, List.filter_append, List.map_append]
      rw [show [i].filter p = [i] by rw [List.filter_cons, if_pos hp, List.filter_nil]]
      rfl
  | false =>
    rw [if_neg Bool.false_ne_true, List.range_succ, List.filter_append]
    rw [show [i].filter p = [] by rw [List.filter_cons, if_neg (by rw [hp]; exact Bool.false_ne_true), List.filter_nil]]
    rw [List.append_nil]

/-- sign i of a text -/
def sg (x : Str) (i : Nat) : V := .str ⟨#[x.cps.toList.getD i 0]⟩
theorem its_sg {x : Str} : ∀ (i : Nat) (H : Hp) (v : V) (H' : Hp), i < x.cps.size → (H' = H ∧ ∃ c, x.cps[i]? = some c ∧ v = V.str ⟨#[c]⟩) → H' = H ∧ v = sg x i := by
  rintro i H v H' hi ⟨rfl, c, hc, rfl⟩
  refine ⟨rfl, ?_⟩
  unfold sg
  rw [List.getD_eq_getElem?_getD, Array.getElem?_toList, hc]
  rfl
theorem map_range_getD {α : Type} (h : Nat → α) : ∀ l : List Nat, (List.range l.length).map (fun i => h (l.getD i 0)) = l.map h
  | [] => rfl
  | a :: l => by
    rw [List.length_cons, List.range_succ_eq_map, List.map_cons, List.map_map, List.map_cons]
    congr 1
    exact map_range_getD h l
theorem filter_map_getD (p : Nat → Bool) : ∀ l : List Nat, ((List.range l.length).filter fun i => p (l.getD i 0)).map (fun i => l.getD i 0) = l.filter p
  | [] => rfl
  | a :: l => by
    rw [List.length_cons, List.range_succ_eq_map, List.filter_cons, List.filter_cons, List.filter_map]
    have ih := filter_map_getD p l
    by_cases h : p a = true
    · rw [if_pos h, if_pos (show p ((a :: l).getD 0 0) = true from h), List.map_cons, List.map_map]
      congr 1
    · rw [if_neg h, if_neg (show ¬ p ((a :: l).getD 0 0) = true from h), List.map_map]
      exact ih

/-! ### data, and what the package asks of any value -/
def tyD : PyData → String
  | .none => "NoneType"
  | .bool _ => "bool"
  | .int _ => "int"
  | .str _ => "str"
  | .list _ => "list"
  | .tuple _ => "tuple"
  | .dict _ => "dict"
theorem ty_of {K : PySem.W.Frag} {H : Hp} {v : V} {d : PyData} (h : Dq H v d) : TyX K H v (.type (tyD d)) := by
  cases h with
  | non => exact .base .non
  | bl b => exact .base (.bl b)
  | int i => exact .base (.int i)
  | str x => exact .base (.str x)
  | lst h _ => exact .base (.lst h)
  | tup h _ => exact .base (.tup h)
  | dct h _ => exact .base (.dK h)
def kI : PyData → Bool
  | .int _ => true
  | .bool _ => true
  | _ => false
def kB : PyData → Bool
  | .bool _ => true
  | _ => false
def kS : PyData → Bool
  | .str _ => true
  | _ => false
def kT : PyData → Bool
  | .tuple _ => true
  | _ => false
def kL : PyData → Bool
  | .list _ => true
  | _ => false
def kD : PyData → Bool
  | .dict _ => true
  | _ => false
section
variable {K : PySem.W.Frag}
theorem ki_int (d : PyData) : PySem.W.kitOne K (.type (tyD d)) (.type "int") = some (kI d) := by
  cases d <;> (simp only [tyD, kI]; exact kit_ty (by decide +kernel))
theorem ki_bool (d : PyData) : PySem.W.kitOne K (.type (tyD d)) (.type "bool") = some (kB d) := by
  cases d <;> (simp only [tyD, kB]; exact kit_ty (by decide +kernel))
theorem ki_str (d : PyData) : PySem.W.kitOne K (.type (tyD d)) (.type "str") = some (kS d) := by
  cases d <;> (simp only [tyD, kS]; exact kit_ty (by decide +kernel))
theorem ki_tuple (d : PyData) : PySem.W.kitOne K (.type (tyD d)) (.type "tuple") = some (kT d) := by
  cases d <;> (simp only [tyD, kT]; exact kit_ty (by decide +kernel))
theorem ki_list (d : PyData) : PySem.W.kitOne K (.type (tyD d)) (.type "list") = some (kL d) := by
  cases d <;> (simp only [tyD, kL]; exact kit_ty (by decide +kernel))
theorem ki_dict (d : PyData) : PySem.W.kitOne K (.type (tyD d)) (.type "dict") = some (kD d) := by
  cases d <;> (simp only [tyD, kD]; exact kit_ty (by decide +kernel))
end
def isIntD : PyData → Bool
  | .int _ => true
  | _ => false
theorem isIntD_eq (d : PyData) : isIntD d = (kI d && !kB d) := by cases d <;> rfl
def isNumD : PyData → Bool
  | .int i => decide (0 ≤ i)
  | _ => false
def abc : Str := "abcdefghijklmnopqrstuvwxyz"
def isNameS (x : Str) : Bool := decide (1 ≤ x.length ∧ x.length ≤ 8) && x.cps.toList.all fun c => decide (c ∈ abc.cps.toList)
def isNameD : PyData → Bool
  | .str x => isNameS x
  | _ => false
def isWordS (x : Str) : Bool := decide (x = "close" ∨ x = "ended" ∨ x = "send" ∨ x = "take")
def isWordD : PyData → Bool
  | .str x => isWordS x
  | _ => false
def isElseD : PyData → Bool
  | .str x => decide (x = "else")
  | _ => false
def isArmD : PyData → Bool
  | .tuple [a, b] => isElseD a && isNumD b
  | .tuple [a, b, c] => isWordD a && (isNameD b && isNumD c)
  | _ => false
theorem dq_int {H : Hp} {v : V} {d : PyData} (h : Dq H v d) (e : isIntD d = true) : ∃ i, v = .int i ∧ d = .int i := by
  cases h with
  | int i => exact ⟨i, rfl, rfl⟩
  | _ => cases e
theorem dq_str {H : Hp} {v : V} {d : PyData} (h : Dq H v d) (e : kS d = true) : ∃ x, v = .str x ∧ d = .str x := by
  cases h with
  | str x => exact ⟨x, rfl, rfl⟩
  | _ => cases e
theorem dq_tup {H : Hp} {v : V} {d : PyData} (h : Dq H v d) (e : kT d = true) : ∃ a xs ds, v = .ref a ∧ d = .tuple ds ∧ H a = some (.tup xs) ∧ DqAll H xs ds := by
  cases h with
  | tup h t => exact ⟨_, _, _, rfl, rfl, h, t⟩
  | _ => cases e

/-- a def that tells something of any data (of which C holds) -/
def spPred (C : PyData → Prop) (p : PyData → Bool) : Sp := fun vs H Q _ => ∃ v d, vs = [v] ∧ Dq H v d ∧ C d ∧
  ∀ H', Ext H H' → Q (.bl (p d)) H'
/-- a plain text of bounded length -/
def Tx (x : Str) : Prop := x.length ≤ 1000 ∧ ∀ c ∈ x.cps.toList, c < 128
def Ok1 (d : PyData) : Prop := ∀ x, d = .str x → Tx x
def OkT (d : PyData) : Prop := ∀ ds e, d = .tuple ds → e ∈ ds → Ok1 e
def Any (_ : PyData) : Prop := True

/-- the signs of a text asked one by one -/
theorem signs_all (x : Str) (p : Nat → Bool) : ((List.range x.cps.size).filter (fun _ => true)).map (fun i => V.bl (p (x.cps.toList.getD i 0))) = (x.cps.toList.map p).map V.bl := by
  rw [List.filter_eq_self.mpr (fun _ _ => rfl)]
  have h := map_range_getD (fun c => V.bl (p c)) x.cps.toList
  rw [Array.length_toList] at h
  rw [h, List.map_map]
  rfl
theorem signs_filter (x : Str) (p : Nat → Bool) : ((List.range x.cps.size).filter (fun i => p (x.cps.toList.getD i 0))).map (sg x) = (x.cps.toList.filter p).map fun c => V.str ⟨#[c]⟩ := by
  have h := filter_map_getD p x.cps.toList
  rw [Array.length_toList] at h
  rw [← h, List.map_map]
  rfl
theorem kS_not {d : PyData} (h : (!kS d) = true) : isNameD d = false := by
  cases d with
  | str x => cases h
  | _ => rfl
theorem kS_yes {d : PyData} (h : ¬ (!kS d) = true) : kS d = true := by
  cases e : kS d with
  | true => rfl
  | false => rw [e] at h; exact absurd rfl h
theorem isNameS_short {x : Str} (h : ¬ (1 ≤ x.length ∧ x.length ≤ 8)) : isNameS x = false := by
  unfold isNameS
  rw [decide_eq_false h, Bool.false_and]
theorem isNameS_long {x : Str} (h : 1 ≤ x.length ∧ x.length ≤ 8) : isNameS x = x.cps.toList.all fun c => decide (c ∈ abc.cps.toList) := by
  unfold isNameS
  rw [decide_eq_true h, Bool.true_and]
theorem all_id_map (p : Nat → Bool) : ∀ l : List Nat, (l.map p).all id = l.all p
  | [] => rfl
  | a :: l => by rw [List.map_cons, List.all_cons, List.all_cons, all_id_map p l]; rfl
theorem filter_empty_all (p : Nat → Bool) : ∀ l : List Nat, (l.filter fun c => !p c).isEmpty = l.all p
  | [] => rfl
  | a :: l => by
    rw [List.filter_cons, List.all_cons, ← filter_empty_all p l]
    cases p a <;> rfl
end Ol

set_option Elab.async false
set_option linter.all false
set_option maxRecDepth 100000
set_option maxHeartbeats 4000000
namespace Ol
open PySem PySem.Spec PyProof.Rows L2

/-- a def of the module, found by its name, and its promise -/
structure Ca (P : Program) (w : World) (K : PySem.W.Frag) (mg : Str → Option Value) (base : Heap)
    (k : Nat) (x : Str) (ps : List Str) (sp : Sp) : Prop where
  has : ∃ (f : Addr) (fd : FuncData), FnOk P w K mg base CX0 k f fd ps sp ∧ mg x = some (.ref f) ∧
    PySem.W.keepIn K (.ref f) = true ∧ Binds K fd ps []
/-- the same where no display is under way -/
structure Cg (P : Program) (w : World) (K : PySem.W.Frag) (mg : Str → Option Value) (base : Heap)
    (k : Nat) (x : Str) (ps : List Str) (sp : Sp) : Prop where
  has : ∃ (f : Addr) (fd : FuncData), FnG P w K mg base k f fd ps sp ∧ mg x = some (.ref f) ∧
    PySem.W.keepIn K (.ref f) = true ∧ Binds K fd ps []
section
variable {X : Cx} {k : Nat} {ps : List Str} {sp : Sp} {x : Str} {e : Expr} {es : List Expr} {t : TA} {p pos : Pos}
theorem pe_ca (C : Ca X.prog X.w X.K X.mg X.base k x ps sp) (hr : Room k X.A) (hg : Gl X x) (ha : PA X (e :: es) t)
    (hdb : (x == ("__debug__" : Str)) = false := by decide)
    (he : starEach (e :: es) X.env = (false, eval e X.env) :: starEach es X.env := by rfl)
    (hpl : (backTo pos (starEach es X.env)).any (·.1) = false := by rfl) :
    PE X (.Call (.Name x p) (e :: es) [] pos) (tCall sp [] E0 t) := by
  obtain ⟨f, fd, F, g, kp, b⟩ := C.has
  exact pe_call F hr hg g kp b .nil pass0 ha hdb he hpl
theorem pe_cg (C : Cg X.prog X.w X.K X.mg X.base k x ps sp) (hG : X.A.guards = some []) (hr : Room k X.A) (hg : Gl X x) (ha : PA X (e :: es) t)
    (hdb : (x == ("__debug__" : Str)) = false := by decide)
    (he : starEach (e :: es) X.env = (false, eval e X.env) :: starEach es X.env := by rfl)
    (hpl : (backTo pos (starEach es X.env)).any (·.1) = false := by rfl) :
    PE X (.Call (.Name x p) (e :: es) [] pos) (tCall sp [] E0 t) := by
  obtain ⟨f, fd, F, g, kp, b⟩ := C.has
  exact pe_callG F hG hr hg g kp b ha hdb he hpl
end

/-- == and != of data -/
def rEqQ : R2 := fun x y H Q => ∃ d e, Sys H ∧ Dq H x d ∧ Dq H y e ∧ SeqAt.shaped d = true ∧ SeqAt.shaped e = true ∧ Q (.bl (PyData.eqv d e)) H
def rNeQ : R2 := fun x y H Q => ∃ d e, Sys H ∧ Dq H x d ∧ Dq H y e ∧ SeqAt.shaped d = true ∧ SeqAt.shaped e = true ∧ Q (.bl (!PyData.eqv d e)) H
theorem op_eqQ {X : Cx} {k : Nat} (hr : Room k X.A) : OpR X (compareOp .Eq) rEqQ := by
  intro pins s σ H x y v u Q I rx ry h
  obtain ⟨d, e, S, hd, he, sd, se, q⟩ := h
  obtain ⟨as, r1, _⟩ := Dq.reads I S hd rx
  obtain ⟨bs, r2, _⟩ := Dq.reads I S he ry
  exact SeqAt.compareEq_shaped r1 r2 sd se hr.units ⟨.bl _, H, I, rfl, q⟩
theorem op_neQ {X : Cx} {k : Nat} (hr : Room k X.A) : OpR X (compareOp .NotEq) rNeQ := by
  intro pins s σ H x y v u Q I rx ry h
  obtain ⟨d, e, S, hd, he, sd, se, q⟩ := h
  obtain ⟨as, r1, _⟩ := Dq.reads I S hd rx
  obtain ⟨bs, r2, _⟩ := Dq.reads I S he ry
  exact SeqAt.compareNe_shaped r1 r2 sd se hr.units ⟨.bl _, H, I, rfl, q⟩

/-- data that may be shown -/
structure Fits (d : PyData) : Prop where
  sh : d.showable = true
  dep : d.depth ≤ 40
  len : d.shown.length ≤ sizeLine

/-- f(x, y) of two equal data gives True -/
def spAlike : Sp := fun vs H Q _ => ∃ v u d, vs = [v, u] ∧ Sys H ∧ Dq H v d ∧ Dq H u d ∧ SeqAt.shaped d = true ∧ Fits d ∧
  ∀ H', Ext H H' → Q (.bl true) H'
end Ol

set_option Elab.async false
set_option linter.all false
set_option maxRecDepth 100000
set_option maxHeartbeats 4000000
namespace Ol
open PySem PySem.Spec PyProof.Rows L2

/-- a new bag of a script's cells -/
def spBag0 (K : PySem.W.Frag) : Sp := fun vs H Q _ => ∃ (a : Addr) (ns : List Int), vs = [.ref a] ∧ SqL K H a (ns.map V.int) ∧ ns.length ≤ 1000 ∧
  ∀ (p c : Addr) (cs : List Int) (H' : Hp), H p = none → Ext H H' → H' p = some (.lst (bagL 0 1234567891 0 c)) → H' c = some (.lst (cs.map V.int)) → (∀ n ∈ cs, 0 ≤ n) → c ≠ p → Q (.ref p) H'
def spBag (K : PySem.W.Frag) : Sp := fun vs H Q _ => ∃ (a : Addr) (ns : List Int), vs = [.ref a] ∧ SqL K H a (ns.map V.int) ∧ ns.length ≤ 1000 ∧
  ∀ (p : Addr) (H' : Hp), Ext H H' → Bag H' p → Q (.ref p) H'
section
variable {P : Program} {w : World} {K : PySem.W.Frag} {mg : Str → Option Value} {base : Heap}
theorem hideBag {k : Nat} {f : Addr} {fd : FuncData} {ps : List Str} (F : FnOk P w K mg base CX0 k f fd ps (spBag0 K)) :
    FnOk P w K mg base CX0 k f fd ps (spBag K) := by
  refine ⟨?_, ?_⟩
  · rintro vs H Q E ⟨a, ns, rfl, h1, h2, q⟩
    exact F.len [.ref a] H (fun _ _ => True) E0 ⟨a, ns, rfl, h1, h2, fun _ _ _ _ _ _ _ _ _ _ => trivial⟩
  · rintro A outer s H args us vs Q E hr e0 hb rv ⟨a, ns, rfl, h1, h2, q⟩
    have run := F.run A outer s H args us [.ref a]
      (fun v H' => ∃ (p c : Addr) (cs : List Int), v = .ref p ∧ H p = none ∧ Ext H H' ∧ H' p = some (.lst (bagL 0 1234567891 0 c)) ∧ H' c = some (.lst (cs.map V.int)) ∧ (∀ n ∈ cs, 0 ≤ n) ∧ c ≠ p)
      E hr e0 hb rv ⟨a, ns, rfl, h1, h2, fun p c cs H' g1 g2 g3 g4 g5 g6 => ⟨p, c, cs, rfl, g1, g2, g3, g4, g5, g6⟩⟩
    refine codeAny_mono run ?_
    intro res s' h
    match res, h with
    | .error _, h => exact h.elim
    | .ok .next, h => exact h.elim
    | .ok .brk, h => exact h.elim
    | .ok .cont, h => exact h.elim
    | .ok (.ret u), h =>
      obtain ⟨v, H', os, bare, un, hok', rv', p, c, cs, rfl, g1, g2, g3, g4, g5, g6⟩ := h
      have mu' : Mut (H' p) := by
        rw [g3]
        trivial
      obtain ⟨_, its, n', r', eo'⟩ := hok' p _ g3
      have shape : ∃ y0 y1 y2, its = [.int 0 y0, .int 1234567891 y1, .int 0 y2, .ref c] := by
        cases r' with
        | cons q0 r' => cases r' with
          | cons q1 r' => cases r' with
            | cons q2 r' => cases r' with
              | cons q3 r' =>
                cases r'
                obtain ⟨y0, rfl⟩ := q0
                obtain ⟨y1, rfl⟩ := q1
                obtain ⟨y2, rfl⟩ := q2
                cases q3
                exact ⟨y0, y1, y2, rfl⟩
      obtain ⟨y0, y1, y2, rfl⟩ := shape
      have nw' : ObjOk P w (upd H' p (.ext (bagP p c))) s'.heap p (.ext (bagP p c)) := by
        refine ⟨⟨0, 1234567891, 0, y0, y1, y2, n', eo', by decide, by decide, by decide, by decide⟩, ⟨_, eo'⟩, ?_⟩
        rintro g g' ⟨z0, z1, z2, w0, w1, w2, n2, e2, i2⟩ hk
        exact ⟨z0, z1, z2, w0, w1, w2, n2, hk _ e2, i2⟩
      have ok2 := HOk.write hok' mu' (Or.inl rfl) (fun _ _ _ z => z) ⟨_, eo'⟩ nw'
      have un2 : Un (frs outer) [] H' (upd H' p (.ext (bagP p c))) s'.heap s'.heap := Un.write mu' (Or.inl rfl) (fun _ _ _ z => z) ⟨_, eo'⟩
      refine ⟨.ref p, upd H' p (.ext (bagP p c)), os, bare, un.trans un2, ok2, rv', q p _ (Ext.mut g2 g1) ⟨c, cs, upd_same, ?_, g5⟩⟩
      rw [upd_ne g6]
      exact g4
end

theorem map_range_getI (h : Int → V) : ∀ l : List Int, (List.range l.length).map (fun i => h (l.getD i 0)) = l.map h
  | [] => rfl
  | a :: l => by
    rw [List.length_cons, List.range_succ_eq_map, List.map_cons, List.map_map, List.map_cons]
    congr 1
    exact map_range_getI h l
theorem cut_ints (ns : List Int) (lo hi : Option Int) : ∃ cs : List Int, cutV (ns.map V.int) lo hi = cs.map V.int ∧ cs.length ≤ ns.length := by
  unfold cutV
  refine ⟨(ns.drop (HT.sIx (ns.map V.int).length 0 lo)).take (HT.sIx (ns.map V.int).length (ns.map V.int).length hi - HT.sIx (ns.map V.int).length 0 lo), ?_, ?_⟩
  · rw [List.map_take, List.map_drop]
  · rw [List.length_take, List.length_drop]
    omega
end Ol

set_option Elab.async false
set_option linter.all false
set_option maxRecDepth 100000
set_option maxHeartbeats 4000000
namespace Ol
open PySem PySem.Spec PyProof.Rows L2
open TL (tl joinL join_eq tl_join)

theorem tlen (x : Str) : x.length = (tl x).length := by
  show x.cps.size = x.cps.toList.length
  rw [Array.length_toList]
theorem tl_inj {x y : Str} (h : tl x = tl y) : x = y := by
  obtain ⟨⟨a⟩⟩ := x
  obtain ⟨⟨b⟩⟩ := y
  have h' : a = b := h
  rw [h']
theorem tl_app (x y : Str) : tl (x ++ y) = tl x ++ tl y := by
  show (x.cps ++ y.cps).toList = _
  rw [Array.toList_append]
theorem joinL_nil : ∀ ls : List (List Nat), joinL [] ls = ls.flatten
  | [] => rfl
  | [p] => by show p = [p].flatten; simp
  | p :: q :: r => by
    show p ++ ([] ++ joinL [] (q :: r)) = _
    rw [joinL_nil (q :: r), List.nil_append]
    rfl
def one (c : Nat) : Str := ⟨#[c]⟩
theorem join_signs (cs : List Nat) : tl (Txt.join "" (cs.map one)) = cs := by
  rw [join_eq, tl_join]
  show joinL [] _ = cs
  rw [joinL_nil, List.map_map]
  induction cs with
  | nil => rfl
  | cons a l ih =>
    rw [List.map_cons, List.flatten_cons, ih]
    rfl
theorem ones_len : ∀ cs : List Nat, ((cs.map one).map (·.length)).sum = cs.length
  | [] => rfl
  | a :: l => by
    rw [List.map_cons, List.map_cons, List.sum_cons, ones_len l, List.length_cons]
    show 1 + l.length = l.length + 1
    omega
theorem cut_drop (xs : List V) (t : Nat) : cutV xs (some (t : Int)) none = xs.drop t := by
  unfold cutV
  rw [HT.sIx_none, HT.sIx_nat]
  by_cases h : t ≤ xs.length
  · rw [Nat.min_eq_left h, List.take_of_length_le]
    rw [List.length_drop]
    exact Nat.le_refl _
  · rw [Nat.min_eq_right (by omega), Nat.sub_self, List.take_zero, List.drop_of_length_le (by omega)]
theorem cut_take (xs : List V) (t : Nat) : cutV xs none (some (t : Int)) = xs.take t := by
  unfold cutV
  rw [HT.sIx_none, HT.sIx_nat, Nat.sub_zero, List.drop_zero]
  by_cases h : t ≤ xs.length
  · rw [Nat.min_eq_left h]
  · rw [Nat.min_eq_right (by omega), List.take_of_length_le (Nat.le_refl _), List.take_of_length_le (by omega)]
theorem cutS_drop (z : Str) (t : Nat) : tl (cutS z (some (t : Int)) none) = (tl z).drop t := by
  unfold cutS
  rw [HT.sIx_none, HT.sIx_nat]
  have hl := tlen z
  show List.take _ _ = _
  by_cases h : t ≤ z.length
  · rw [Nat.min_eq_left h, List.take_of_length_le]
    rw [List.length_drop, hl]
    exact Nat.le_refl _
  · rw [Nat.min_eq_right (by omega), Nat.sub_self, List.take_zero, List.drop_of_length_le (by omega)]
theorem cutS_take (z : Str) (t : Nat) : tl (cutS z none (some (t : Int))) = (tl z).take t := by
  unfold cutS
  rw [HT.sIx_none, HT.sIx_nat, Nat.sub_zero]
  have hl := tlen z
  show List.take _ (List.drop 0 _) = _
  rw [List.drop_zero]
  by_cases h : t ≤ z.length
  · rw [Nat.min_eq_left h]
  · rw [Nat.min_eq_right (by omega), List.take_of_length_le (by rw [hl]; exact Nat.le_refl _), List.take_of_length_le (by omega)]

def abcL : List Nat := tl abc
theorem abc_at : ∀ r, r < 26 → abcL[r]? = some (97 + r) := by decide +kernel
theorem abc_mem {r : Nat} (h : r < 26) : 97 + r ∈ abcL := List.mem_of_getElem? (abc_at r h)
theorem abc_low : ∀ c ∈ abcL, c < 128 := by decide +kernel
theorem name_of {x : Str} (h1 : 1 ≤ (tl x).length) (h2 : (tl x).length ≤ 8) (h3 : ∀ c ∈ tl x, c ∈ abcL) : isNameS x = true := by
  rw [isNameS_long (by rw [tlen]; exact ⟨h1, h2⟩), List.all_eq_true]
  exact fun c hc => decide_eq_true (h3 c hc)
theorem name_tl {x : Str} (h : isNameS x = true) : 1 ≤ (tl x).length ∧ (tl x).length ≤ 8 ∧ ∀ c ∈ tl x, c ∈ abcL := by
  unfold isNameS at h
  rw [Bool.and_eq_true] at h
  have h1 := of_decide_eq_true h.1
  rw [tlen] at h1
  exact ⟨h1.1, h1.2, fun c hc => of_decide_eq_true (List.all_eq_true.mp h.2 c hc)⟩
theorem name_tx {x : Str} (h : isNameS x = true) : Tx x := by
  obtain ⟨_, h2, h3⟩ := name_tl h
  exact ⟨by rw [tlen]; omega, fun c hc => abc_low c (h3 c hc)⟩

/-- new names, all different -/
structure Names (ys : List Str) (m : Nat) : Prop where
  len : ys.length = m
  nd : ys.Nodup
  ok : ∀ y ∈ ys, isNameS y = true

def wordsA : Str := "send take ended close else first any step quit server back again where log a b ab ba z"
def wordsB : Str := " stuck seat sticks lane"
def wordL : List Str := ["send", "take", "ended", "close", "else", "first", "any", "step", "quit", "server", "back", "again", "where", "log", "a", "b", "ab", "ba", "z", "stuck", "seat", "sticks", "lane"]
theorem split_words : Txt.split (wordsA ++ wordsB) " " = wordL := by decide +kernel
theorem wordL_ok : ∀ y ∈ wordL, isNameS y = true := by decide +kernel
theorem wordL_rot : ∀ t, t < 20 → (wordL.drop t ++ wordL.take t).Nodup := by decide +kernel
theorem names0 (t m : Nat) (ht : t < 20) (hm : m ≤ 20) : Names ((wordL.drop t ++ wordL.take t).take m) m := by
  refine ⟨?_, (wordL_rot t ht).sublist (List.take_sublist _ _), fun y hy => ?_⟩
  · rw [List.length_take, List.length_append, List.length_drop, List.length_take]
    have e : wordL.length = 23 := rfl
    omega
  · have h := List.mem_of_mem_take hy
    rcases List.mem_append.mp h with h | h
    · exact wordL_ok y (List.mem_of_mem_drop h)
    · exact wordL_ok y (List.mem_of_mem_take h)
def let1 (t k : Nat) : Nat := 97 + (t + 3 * k) % 26
theorem names1 (t m : Nat) (hm : m ≤ 8) : Names ((List.range m).map fun k => one (let1 t k)) m := by
  refine ⟨by rw [List.length_map, List.length_range], ?_, ?_⟩
  · rw [List.nodup_iff_pairwise_ne, List.pairwise_map]
    refine (List.pairwise_lt_range (n := m)).imp_of_mem ?_
    intro a b ha hb hab e
    have ha := List.mem_range.mp ha
    have hb := List.mem_range.mp hb
    have e1 : [let1 t a] = [let1 t b] := congrArg tl e
    have e2 : let1 t a = let1 t b := by injection e1
    unfold let1 at e2
    omega
  · intro y hy
    obtain ⟨k, _, rfl⟩ := List.mem_map.mp hy
    refine name_of (Nat.le_refl 1) (by show 1 ≤ 8; decide) fun c hc => ?_
    have hc' : c ∈ [let1 t k] := hc
    rw [List.mem_singleton] at hc'
    rw [hc']
    exact abc_mem (Nat.mod_lt _ (by decide))
/-- the names of the third style, as texts with these signs -/
theorem names2 (cs : List Nat) (at_ t m : Nat) (f : Nat → Str) (hc1 : 1 ≤ cs.length) (hc7 : cs.length ≤ 7) (hc : ∀ c ∈ cs, c ∈ abcL) (hm : m ≤ 8) (ha : at_ ≤ cs.length)
    (hf : ∀ k, k < m → tl (f k) = cs.take at_ ++ [let1 t k] ++ cs.drop at_) : Names ((List.range m).map f) m := by
  refine ⟨by rw [List.length_map, List.length_range], ?_, ?_⟩
  · rw [List.nodup_iff_pairwise_ne, List.pairwise_map]
    refine (List.pairwise_lt_range (n := m)).imp_of_mem ?_
    intro a b ha hb hab e
    have ha := List.mem_range.mp ha
    have hb := List.mem_range.mp hb
    have e1 := congrArg tl e
    rw [hf a ha, hf b hb, List.append_assoc, List.append_assoc] at e1
    have e2 := List.append_cancel_left e1
    have e3 : let1 t a = let1 t b := by
      simp only [List.cons_append, List.nil_append, List.cons.injEq] at e2
      exact e2.1
    unfold let1 at e3
    omega
  · intro y hy
    obtain ⟨k, hk, rfl⟩ := List.mem_map.mp hy
    have hk := List.mem_range.mp hk
    refine name_of ?_ ?_ fun c hc' => ?_
    · rw [hf k hk]
      simp
      omega
    · rw [hf k hk]
      simp
      omega
    · rw [hf k hk] at hc'
      simp only [List.mem_append, List.mem_singleton] at hc'
      rcases hc' with (h | h) | h
      · exact hc c (List.mem_of_mem_take h)
      · rw [h]
        exact abc_mem (Nat.mod_lt _ (by decide))
      · exact hc c (List.mem_of_mem_drop h)
/-- texts of one sign each -/
theorem ones_of {n : Nat} {xs : List V} (h : xs.length = n) (hr : ∀ (i : Nat) (y : V), xs[i]? = some y → ∃ c, c ∈ abcL ∧ y = .str (one c)) :
    ∃ cs : List Nat, xs = (cs.map one).map V.str ∧ cs.length = n ∧ ∀ c ∈ cs, c ∈ abcL := by
  induction xs generalizing n with
  | nil => exact ⟨[], rfl, h, fun _ z => by cases z⟩
  | cons v xs ih =>
    obtain ⟨cs, e, hl, hc⟩ := ih (n := xs.length) rfl fun i y z => hr (i + 1) y (by rw [List.getElem?_cons_succ]; exact z)
    obtain ⟨c, hm, rfl⟩ := hr 0 v rfl
    refine ⟨c :: cs, by rw [e]; rfl, by rw [← h, List.length_cons, List.length_cons, hl], fun x hx => ?_⟩
    rcases List.mem_cons.mp hx with z | z
    · rw [z]
      exact hm
    · exact hc x z
/-- names drawn from a bag -/
def spNames : Sp := fun vs H Q _ => ∃ (a : Addr) (m : Int), vs = [.ref a, .int m] ∧ Bag H a ∧ 1 ≤ m ∧ m ≤ 8 ∧
  ∀ (p : Addr) (ys : List Str) (H' : Hp), Ext H H' → H p = none → H' p = some (.lst (ys.map V.str)) → Names ys m.toNat → Q (.ref p) H'
end Ol

set_option Elab.async false
set_option linter.all false
set_option maxRecDepth 100000
set_option maxHeartbeats 4000000
namespace Ol
open PySem PySem.Spec PyProof.Rows L2
open TL (tl)

/-! ### s * n, n small -/
def repS (z : Str) (n : Nat) : Str := if n = 0 then Str.empty else if n = 1 then z else ⟨(List.replicate n z.cps).foldl (· ++ ·) #[]⟩
def rRepS : R2 := fun x y H Q => ∃ (z : Str) (n : Nat), x = .str z ∧ y = .int (n : Int) ∧ n ≤ 1000 ∧ z.length = 1 ∧ (repS z n).length ≤ sizeLine ∧ Q (.str (repS z n)) H
theorem op_repS {X : Cx} : OpR X (binaryOp .Mult) rRepS := by
  intro pins s σ H x y v u Q I rx ry h
  obtain ⟨z, n, rfl, rfl, hn, hz, hl, q⟩ := h
  obtain ⟨t, rfl⟩ := rx
  obtain ⟨t', rfl⟩ := ry
  have tl0 : ¬ (n : Int) < 1 → ((n : Int) == 1 || z.length == 0) = false → Builtin.Str.tooLong (z.length * (n : Int).toNat) = false := by
    intro _ _
    unfold Builtin.Str.tooLong
    exact decide_eq_false (by rw [hz]; show ¬ _ > 2 ^ 24; omega)
  refine PySem.P.mul_str ?_ ?_ tl0 ?_
  · rw [decide_eq_false (by omega), decide_eq_false (by omega)]
    rfl
  · intro h1 h2 h3
    have h4 : 0 < (n : Int) := by omega
    have h5 : ((2 : Int) ^ 63 - 1) / n ≥ 1 := Int.le_ediv_of_mul_le h4 (by omega)
    rw [hz] at h3
    omega
  · by_cases h0 : n = 0
    · subst h0
      exact ⟨by decide, .str Str.empty, H, I.tok _, ⟨_, rfl⟩, q⟩
    · rw [if_neg (by omega)]
      by_cases h1 : n = 1
      · subst h1
        rw [if_pos (show (((1 : Nat) : Int) == 1 || z.length == 0) = true from rfl)]
        exact ⟨.str z, H, I, ⟨_, rfl⟩, q⟩
      · have hf : ((n : Int) == 1 || z.length == 0) = false := by
          rw [hz, Bool.or_eq_false_iff]
          exact ⟨beq_eq_false_iff_ne.mpr (by omega), rfl⟩
        rw [hf, if_neg Bool.false_ne_true]
        have e : repS z n = ⟨(List.replicate (n : Int).toNat z.cps).foldl (· ++ ·) #[]⟩ := by
          unfold repS
          rw [if_neg h0, if_neg h1]
          rfl
        rw [e] at q hl
        exact ⟨hl, .str _, H, I.tok _, ⟨_, rfl⟩, q⟩

def far (n : Nat) : Str := "1" ++ repS "0" n
theorem far_int : ∀ n, n < 40 → PySem.intText? (far n) = some (10 ^ n) := by decide +kernel
theorem far_len : ∀ n, n < 40 → (far n).length ≤ 640 ∧ (repS "0" n).length ≤ 1000 := by decide +kernel
theorem pow_fit : ∀ n, n < 40 → ((10 : Int) ^ n).natAbs.log2 < 1920 ∧ (-(10 : Int) ^ n).natAbs.log2 < 1920 := by decide +kernel
theorem pow_len : ∀ n, n < 40 → ((toString ((10 : Int) ^ n) : String) : Str).length ≤ 200 ∧ ((toString (-(10 : Int) ^ n) : String) : Str).length ≤ 200 := by decide +kernel

/-! ### sizes of what is shown -/
theorem pile_le {B : Nat} : ∀ ts : List Str, (∀ t ∈ ts, t.length ≤ B) → piled ts ≤ ts.length * (B + 2)
  | [], _ => Nat.zero_le _
  | t :: ts, h => by
    rw [piled_cons, List.length_cons, Nat.succ_mul]
    have h1 := h t List.mem_cons_self
    have h2 := pile_le ts fun x hx => h x (List.mem_cons_of_mem _ hx)
    omega
theorem join_le (ts : List Str) : (Str.join ", " ts).length ≤ piled ts := by
  by_cases h : ts = []
  · subst h
    exact Nat.zero_le _
  · have := join_length_add ts h
    omega
theorem listText_le (ts : List Str) : (listText ts).length ≤ piled ts + 2 := by
  have e1 : ((("[" : String) : Str)).length = 1 := rfl
  have e2 : ((("]" : String) : Str)).length = 1 := rfl
  rw [listText_eq_join, strLen_append, strLen_append, e1, e2]
  have := join_le ts
  omega
theorem tupleText_le (ts : List Str) : (tupleText ts).length ≤ piled ts + 3 := by
  have e3 : (((if ts.length == 1 then ",)" else ")" : String) : Str)).length ≤ 2 := by split <;> decide +kernel
  have e1 : ((("(" : String) : Str)).length = 1 := rfl
  unfold tupleText
  rw [strLen_append, strLen_append, e1]
  have := join_le ts
  omega
theorem dictText_le (ts : List Str) : (dictText ts).length ≤ piled ts + 2 := by
  have e1 : ((("{" : String) : Str)).length = 1 := rfl
  have e2 : ((("}" : String) : Str)).length = 1 := rfl
  unfold dictText
  rw [strLen_append, strLen_append, e1, e2]
  have := join_le ts
  omega

/-! ### data as a law draws it: how deep, how long when shown -/
structure Gd (n : Nat) (d : PyData) : Prop where
  sh : d.showable = true
  dep : d.depth ≤ n + 1
  len : d.shown.length ≤ 200 * 8 ^ n
  ok1 : Ok1 d
  okt : OkT d
theorem Gd.up {n m : Nat} {d : PyData} (g : Gd n d) (h : n ≤ m) : Gd m d :=
  ⟨g.sh, Nat.le_trans g.dep (by omega), Nat.le_trans g.len (Nat.mul_le_mul_left _ (Nat.pow_le_pow_right (by decide) h)), g.ok1, g.okt⟩
theorem Gd.fits {n : Nat} {d : PyData} (g : Gd n d) (h : n ≤ 5) : Fits d :=
  ⟨g.sh, Nat.le_trans g.dep (by omega), Nat.le_trans (g.up h).len (by decide)⟩
theorem nope1 {d : PyData} (h : kS d = false) : Ok1 d := fun x e => by rw [e] at h; cases h
theorem nopeT {d : PyData} (h : kT d = false) : OkT d := fun ds e z _ => by rw [z] at h; cases h
theorem gd_non : Gd 0 .none := ⟨by simp [PyData.showable], by simp [PyData.depth], by decide +kernel, nope1 rfl, nopeT rfl⟩
theorem gd_bl (b : Bool) : Gd 0 (.bool b) := ⟨by simp [PyData.showable], by simp [PyData.depth], by cases b <;> decide +kernel, nope1 rfl, nopeT rfl⟩
theorem gd_int (i : Int) (h1 : i.natAbs.log2 < 1920) (h2 : ((toString i : String) : Str).length ≤ 200) : Gd 0 (.int i) :=
  ⟨by simpa [PyData.showable] using h1, by simp [PyData.depth], by simpa [PyData.shown] using h2, nope1 rfl, nopeT rfl⟩
theorem gd_str (x : Str) (h1 : x.length ≤ 19) (h2 : ∀ c ∈ tl x, c < 128) : Gd 0 (.str x) := by
  refine ⟨by simp [PyData.showable], by simp [PyData.depth], ?_, fun y e => ?_, nopeT rfl⟩
  · simp only [PyData.shown]
    have h := StrLaws.reprText_len x fun c hc => Nat.lt_of_lt_of_le (h2 c hc) (by decide)
    omega
  · cases e
    exact ⟨by omega, h2⟩
theorem pow8 (n : Nat) : 200 ≤ 200 * 8 ^ n := Nat.le_mul_of_pos_right _ (Nat.pow_pos (by decide))
theorem all_sh {n : Nat} : ∀ {ds : List PyData}, (∀ d ∈ ds, Gd n d) → PyData.showableAll ds = true ∧ PyData.depthAll ds ≤ n + 1 ∧ (∀ t ∈ PyData.shownAll ds, t.length ≤ 200 * 8 ^ n) ∧ (PyData.shownAll ds).length = ds.length
  | [], _ => ⟨by simp [PyData.showableAll], by simp [PyData.depthAll], fun t h => by simp [PyData.shownAll] at h, by simp [PyData.shownAll]⟩
  | d :: ds, h => by
    have g := h d List.mem_cons_self
    obtain ⟨h1, h2, h3, h4⟩ := all_sh fun x hx => h x (List.mem_cons_of_mem _ hx)
    refine ⟨by simp [PyData.showableAll, g.sh, h1], ?_, fun t ht => ?_, by simp [PyData.shownAll, h4]⟩
    · simp only [PyData.depthAll]
      exact Nat.max_le.mpr ⟨g.dep, h2⟩
    · simp only [PyData.shownAll] at ht
      rcases List.mem_cons.mp ht with e | e
      · rw [e]
        exact g.len
      · exact h3 t e
theorem gd_size {n : Nat} {ds : List PyData} (h : ∀ d ∈ ds, Gd n d) (h5 : ds.length ≤ 5) : piled (PyData.shownAll ds) + 3 ≤ 200 * 8 ^ (n + 1) := by
  obtain ⟨_, _, h3, h4⟩ := all_sh h
  have z := pile_le _ h3
  have p := pow8 n
  rw [h4] at z
  have z2 : ds.length * (200 * 8 ^ n + 2) ≤ 5 * (200 * 8 ^ n + 2) := Nat.mul_le_mul_right _ h5
  rw [Nat.pow_succ]
  omega
theorem gd_list {n : Nat} {ds : List PyData} (h : ∀ d ∈ ds, Gd n d) (h5 : ds.length ≤ 5) : Gd (n + 1) (.list ds) := by
  obtain ⟨h1, h2, _, _⟩ := all_sh h
  have z := gd_size h h5
  refine ⟨by simpa [PyData.showable] using h1, by simp only [PyData.depth]; omega, ?_, nope1 rfl, nopeT rfl⟩
  simp only [PyData.shown]
  have := listText_le (PyData.shownAll ds)
  omega
theorem gd_tuple {n : Nat} {ds : List PyData} (h : ∀ d ∈ ds, Gd n d) (h5 : ds.length ≤ 5) : Gd (n + 1) (.tuple ds) := by
  obtain ⟨h1, h2, _, _⟩ := all_sh h
  have z := gd_size h h5
  refine ⟨by simpa [PyData.showable] using h1, by simp only [PyData.depth]; omega, ?_, nope1 rfl, fun es e he hm => ?_⟩
  · simp only [PyData.shown]
    have := tupleText_le (PyData.shownAll ds)
    omega
  · cases he
    exact (h e hm).ok1
theorem gd_nil : Gd 0 (.list []) := ⟨by simp [PyData.showable, PyData.showableAll], by simp [PyData.depth, PyData.depthAll], by decide +kernel, nope1 rfl, nopeT rfl⟩
theorem gd_tnil : Gd 0 (.tuple []) := ⟨by simp [PyData.showable, PyData.showableAll], by simp [PyData.depth, PyData.depthAll], by decide +kernel, nope1 rfl, fun ds e he hm => by cases he; cases hm⟩
theorem gd_dnil : Gd 0 (.dict []) := ⟨by simp [PyData.showable, PyData.showableKv], by simp [PyData.depth, PyData.depthKv], by decide +kernel, nope1 rfl, nopeT rfl⟩
theorem gd_dict1 {n : Nat} {d : PyData} (g : Gd n d) : Gd (n + 1) (.dict [(.str "a", d)]) := by
  refine ⟨by simp [PyData.showable, PyData.showableKv, g.sh], ?_, ?_, nope1 rfl, nopeT rfl⟩
  · simp only [PyData.depth, PyData.depthKv]
    have := g.dep
    omega
  · simp only [PyData.shown, PyData.shownKv]
    have h1 := dictText_le [reprText "a" ++ ": " ++ d.shown]
    have h2 : piled [reprText "a" ++ ": " ++ d.shown] = (reprText "a" ++ ": " ++ d.shown).length + 2 := by simp [piled]
    have h3 : (reprText "a" ++ ": " ++ d.shown).length = 5 + d.shown.length := by
      rw [strLen_append, strLen_append]
      have e : (reprText "a").length = 3 := by decide +kernel
      have e2 : ((": " : Str)).length = 2 := rfl
      omega
    have h4 := g.len
    have p := pow8 n
    rw [Nat.pow_succ]
    omega
/-- a value that stands for such data -/
def Th (n : Nat) (v : V) (H : Hp) : Prop := ∃ d, Dq H v d ∧ Gd n d
theorem Th.up {n m : Nat} {v : V} {H H' : Hp} (h : Th n v H) (e : Ext H H') (hn : n ≤ m) : Th m v H' := by
  obtain ⟨d, h1, h2⟩ := h
  exact ⟨d, h1.up e, h2.up hn⟩
/-- a list of such values -/
theorem th_all {n : Nat} {H : Hp} : ∀ {xs : List V}, (∀ x ∈ xs, Th n x H) → ∃ ds, DqAll H xs ds ∧ (∀ d ∈ ds, Gd n d) ∧ ds.length = xs.length
  | [], _ => ⟨[], .nil, (fun _ h => nomatch h), rfl⟩
  | x :: xs, h => by
    obtain ⟨d, h1, h2⟩ := h x List.mem_cons_self
    obtain ⟨ds, h3, h4, h5⟩ := th_all fun y hy => h y (List.mem_cons_of_mem _ hy)
    refine ⟨d :: ds, .cons h1 h3, fun e he => ?_, by rw [List.length_cons, List.length_cons, h5]⟩
    rcases List.mem_cons.mp he with z | z
    · rw [z]
      exact h2
    · exact h4 e z
theorem th_list {n : Nat} {H : Hp} {p : Addr} {xs : List V} (hp : H p = some (.lst xs)) (h : ∀ x ∈ xs, Th n x H) (h5 : xs.length ≤ 5) : Th (n + 1) (.ref p) H := by
  obtain ⟨ds, h1, h2, h3⟩ := th_all h
  exact ⟨_, .lst hp h1, gd_list h2 (by omega)⟩
theorem th_tuple {n : Nat} {H : Hp} {p : Addr} {xs : List V} (hp : H p = some (.tup xs)) (h : ∀ x ∈ xs, Th n x H) (h5 : xs.length ≤ 5) : Th (n + 1) (.ref p) H := by
  obtain ⟨ds, h1, h2, h3⟩ := th_all h
  exact ⟨_, .tup hp h1, gd_tuple h2 (by omega)⟩
/-- a text drawn from a bag -/
def spText : Sp := fun vs H Q _ => ∃ (a : Addr), vs = [.ref a] ∧ Bag H a ∧ ∀ (x : Str) (H' : Hp), Ext H H' → x.length ≤ 19 → (∀ c ∈ tl x, c < 128) → Q (.str x) H'
/-- a value drawn from a bag, so deep -/
def spPart (n : Nat) : Sp := fun vs H Q _ => ∃ (a : Addr), vs = [.ref a, .int (n : Int)] ∧ Bag H a ∧ ∀ (v : V) (H' : Hp), Ext H H' → Th (2 * n) v (nw H H') → Q v H'
def spThing : Sp := fun vs H Q _ => ∃ (a : Addr), vs = [.ref a] ∧ Bag H a ∧ ∀ (v : V) (H' : Hp), Ext H H' → Th 5 v H' → Q v H'
end Ol

set_option Elab.async false
set_option linter.all false
set_option maxRecDepth 100000
set_option maxHeartbeats 4000000
namespace Ol
open PySem PySem.Spec PyProof.Rows L2

/-- one statement of several -/
theorem cutW {X : Cx} {s : Stmt} {r : List Stmt} {D : Ends} (U W : L2.St → Hp → Prop)
    (h1 : ∃ t1, PS X s t1 ∧ ∀ nx : L2.St → Hp → Prop, (∀ σ' H', W σ' H' → nx σ' H') → ∀ σ H, U σ H → t1 { D with nx := nx } σ H)
    (h2 : ∃ t2, PSs X r t2 ∧ ∀ σ H, W σ H → t2 D σ H) : ∃ t, PSs X (s :: r) t ∧ ∀ σ H, U σ H → t D σ H := by
  obtain ⟨t2, d2, k2⟩ := h2
  obtain ⟨t1, d1, k1⟩ := h1
  exact ⟨_, pss_cons d1 d2, fun σ H u => k1 _ k2 σ H u⟩
theorem tyes {σ : L2.St} {H : Hp} {A B : Hp → Prop} (h : A H) : tYes σ H (fun b H3 => if b = true then A H3 else B H3) := by
  unfold tYes
  dsimp only
  rw [if_pos rfl]
  exact h
/-- any list comprehension of one clause: P holds of the turn, the list so far, and what is new -/
theorem lc_acc {J : It} {n : Nat} {G : Hp → Prop} {Y : Nat → Hp → V → Hp → Prop} (w : Walk J n G Y) {g : TG} {tt : TT} {te : TE} {vs : List Nat} {σ : L2.St} {H1 : Hp} {D : Addr} {Qd : Hp → Prop}
    (P : Nat → List V → Hp → Prop) (up : ∀ i xs H H', Ext H H' → P i xs H → P i xs H') (h0 : P 0 [] (fun _ => none)) (hD : H1 D = none)
    (hlen : ∀ i xs H, P i xs H → xs.length ≤ i) (hn : n ≤ sizeLine) (hG : ∀ H, Ext H1 H → G H)
    (hs : ∀ i x H H' xs, i < n → Ext H1 H → Y i H x H' → P i xs (nw (upd H1 D (.lst [])) H) →
      ∀ (QY : V → Hp → Prop) (QN : Hp → Prop),
        (∀ y H4, Ext H H4 → ((∀ Hz, Ext (nw H H4) Hz → P i xs Hz → P (i + 1) (xs ++ [y]) Hz)) → QY y H4) →
        (∀ H4, Ext H H4 → (∀ Hz, P i xs Hz → P (i + 1) xs Hz) → QN H4) →
        g x (wipe σ vs) H' fun σ2 H2 => wipe σ2 vs = wipe σ vs ∧ tt σ2 H2 fun b H3 => if b = true then te σ2 H3 QY else QN H3)
    (hd : ∀ H xs, Ext H1 H → H D = some (.lst xs) → P n xs (nw H1 H) → Qd H) :
    ∃ W : Nat → Nat → Hp → Prop, (∃ m, W 0 m (upd H1 D (.lst []))) ∧ ∀ i m H, W i m H →
      (J.stop i H ∧ Qd H) ∨ (J.go i H ∧ ∃ Nx : Hp → Prop, (∀ H', Nx H' → ∃ m', m' < m ∧ W (i + 1) m' H') ∧ ∀ x H', J.yld i H x H' → g x (wipe σ vs) H' fun σ2 H2 => wipe σ2 vs = wipe σ vs ∧ tt σ2 H2 fun b H3 =>
        if b = true then te σ2 H3 fun y H4 => ∃ acc, H4 D = some (.lst acc) ∧ acc.length < sizeLine ∧ Nx (upd H4 D (.lst (acc ++ [y]))) else Nx H3) := by
  let Hs : Hp := upd H1 D (.lst [])
  have hsD : Hs D = some (.lst []) := upd_same
  have e1 : Ext H1 Hs := Ext.new hD
  refine lc_it w (fun i H => ∃ xs, Ext H1 H ∧ H D = some (.lst xs) ∧ P i xs (nw Hs H))
    ⟨[], e1, hsD, up 0 [] _ _ (fun _ o z => by have z' : (none : Option HO) = some o := z; cases z') h0⟩ (by rintro i H _ ⟨xs, e, _⟩; exact hG H e) ?_ ?_
  · rintro i x H H' hi ⟨xs, e, hx, hp⟩ y
    have dom : ∀ b, H b = none → Hs b = none := by
      intro b q
      have z : b ≠ D := fun z => by rw [z, hx] at q; cases q
      rw [show Hs b = H1 b from upd_ne z]
      exact e.free q
    refine hs i x H H' xs hi e y hp _ _ ?_ ?_
    · intro v H4 e4 k
      refine ⟨xs, e4 _ _ hx, by have := hlen _ _ _ hp; omega, xs ++ [v], Ext.mut (e.trans e4) hD, upd_same, ?_⟩
      have toN : Ext (nw Hs H4) (nw Hs (upd H4 D (.lst (xs ++ [v])))) := nw_mut hsD
      exact k _ ((nw_dom dom).trans toN) (up _ _ _ _ ((nw_up e4).trans toN) hp)
    · intro H4 e4 k
      exact ⟨xs, e.trans e4, e4 _ _ hx, k _ (up _ _ _ _ (nw_up e4) hp)⟩
  · rintro H ⟨xs, e, hx, hp⟩
    exact hd H xs e hx (up _ _ _ _ (nw_base e1) hp)
end Ol

set_option Elab.async false
set_option linter.all false
set_option maxRecDepth 100000
set_option maxHeartbeats 4000000
namespace Ol
open PySem PySem.Spec PyProof.Rows L2

/-- x in o, o an instance of a class with its own __contains__ -/
def rInO (C : Addr) (sp : Sp) : R2 := fun x y H Q => ∃ (a dx : Addr) (fs : List (Str × V)), y = .ref a ∧ H a = some (.ins C dx fs) ∧
  sp [.ref a, x] H (fun v H' => ∃ b, v = .bl b ∧ Q (.bl b) H') E0
def rNotInO (C : Addr) (sp : Sp) : R2 := fun x y H Q => ∃ (a dx : Addr) (fs : List (Str × V)), y = .ref a ∧ H a = some (.ins C dx fs) ∧
  sp [.ref a, x] H (fun v H' => ∃ b, v = .bl b ∧ Q (.bl (!b)) H') E0
section
variable {X : Cx} {k : Nat} {C f : Addr} {fd : FuncData} {ps : List Str} {sp : Sp}
theorem op_inO (F : FnOk X.prog X.w X.K X.mg X.base CX0 k f fd ps sp) (hr : Room k X.A) (hs : PySem.W.findIn X.K (.ref C) "__contains__" = some (some (.ref f)))
    (hf : PySem.W.isFn X.K (.ref f) = true) (b : Binds X.K fd ps []) : OpR X (compareOp .In) (rInO C sp) := by
  intro pins s σ H x y v u Q I rx ry h
  obtain ⟨a, dx, fs, rfl, ho, h⟩ := h
  cases ry
  obtain ⟨mA, O, _⟩ := ins_get I.hok ho
  obtain ⟨od, J, _⟩ := O.look
  obtain ⟨m, fr⟩ := I.fr
  refine PySem.W.in_K fr I.ok.mod.kin J hs hf ?_
  refine wpAny_mono (run_fn (us := [.ref a, v]) (vs := [.ref a, x]) (E := E0) F hr b .nil pass0 I (.cons rfl (.cons rx .nil)) h) ?_ (fun _ _ z => z)
  rintro r s' ⟨w, H', I', rw', b', rfl, q⟩
  cases rw'
  exact wpAny_truthy_bool ⟨.bl b', H', I', rfl, q⟩
theorem op_notInO (F : FnOk X.prog X.w X.K X.mg X.base CX0 k f fd ps sp) (hr : Room k X.A) (hs : PySem.W.findIn X.K (.ref C) "__contains__" = some (some (.ref f)))
    (hf : PySem.W.isFn X.K (.ref f) = true) (b : Binds X.K fd ps []) : OpR X (compareOp .NotIn) (rNotInO C sp) := by
  intro pins s σ H x y v u Q I rx ry h
  obtain ⟨a, dx, fs, rfl, ho, h⟩ := h
  cases ry
  obtain ⟨mA, O, _⟩ := ins_get I.hok ho
  obtain ⟨od, J, _⟩ := O.look
  obtain ⟨m, fr⟩ := I.fr
  refine PySem.W.notIn_K fr I.ok.mod.kin J hs hf ?_
  refine wpAny_mono (run_fn (us := [.ref a, v]) (vs := [.ref a, x]) (E := E0) F hr b .nil pass0 I (.cons rfl (.cons rx .nil)) h) ?_ (fun _ _ z => z)
  rintro r s' ⟨w, H', I', rw', b', rfl, q⟩
  cases rw'
  exact wpAny_truthy_bool ⟨.bl (!b'), H', I', rfl, q⟩
end
end Ol

set_option Elab.async false
set_option linter.all false
set_option maxRecDepth 100000
set_option maxHeartbeats 4000000
namespace Ol
open PySem PySem.Spec PyProof.Rows L2

/-! ### enumerate(t), t a tuple -/
theorem meets_enumerate_new1 {v : Value} {o : Obj} {H : Heap → Prop} (B : Begins v o H) :
    Meets (Builtin.«enumerate.__new__» ⟨[.type "enumerate", v], []⟩) (fun _ R s => H s.heap ∧
      R (.ok (.ret (.ref (s.heap.push o).objs.size))) { s with heap := (s.heap.push o).push { cls := .type "enumerate", data := .fields #[.none, .bool false, .ref s.heap.objs.size, rawInt 0, .none, .none] } }) :=
  .of_wp fun prog w A R s h => by
    obtain ⟨hp, g, d, tk, os⟩ := s
    obtain ⟨h1, h⟩ := h
    have hsub := sub_enumerate
    have q1 : ∀ {A' : Around} {E : Value → Shared → Prop} {Q : Value → Shared → Prop}, Q (.ref hp.objs.size) ⟨hp.push o, g, d, tk, os⟩ → wpAny (model prog w) A' (pyIter v) Q E ⟨hp, g, d, tk, os⟩ :=
      fun q => B.iter prog w _ _ ⟨hp, g, d, tk, os⟩ _ h1 q
    wp_walk using q1
    refine wpAny_stack_any fun st => wpAny_pure ?_
    split
    · rename_i c _ _ _ _ _
      cases (c == Value.type "enumerate")
      · wp_walk using q1
        exact ⟨_, rfl, h⟩
      · wp_walk using q1
        exact ⟨_, rfl, h⟩
    · wp_walk using q1
      exact ⟨_, rfl, h⟩
section
variable {prog : Program} {w : World} {A : Around} {E : Value → Shared → Prop} {s : Shared}
theorem enum_begins1 {v : Value} {o : Obj} {H : Heap → Prop} {Q : Value → Shared → Prop} (B : Begins v o H) (h1 : H s.heap)
    (h : ∀ h', IsEnum h' (s.heap.objs.size + 1) s.heap.objs.size 0 .none → h'.get? s.heap.objs.size = some o → h'.objs.size = s.heap.objs.size + 2 →
      (∀ b o, s.heap.get? b = some o → h'.get? b = some o) → Q (.ref (s.heap.objs.size + 1)) { s with heap := h' }) :
    wpAny (model prog w) A (call (.type "enumerate") [v]) Q E s := by
  refine callType_new F.called_enumerate (by decide) (F.typeCall_enumerate_1 _) (F.newCall_enumerate_1 _) (fun obj => F.args_object_init_2 obj _) F.entry_enumerate_new
    (meets_enumerate_new1 B) ⟨h1, ?_⟩
  have hz : (s.heap.push o).objs.size = s.heap.objs.size + 1 := Heap.size_push ..
  show _ ∧ _
  rw [hz]
  have he : IsEnum ((s.heap.push o).push { cls := .type "enumerate", data := .fields #[.none, .bool false, .ref s.heap.objs.size, rawInt 0, .none, .none] }) (s.heap.objs.size + 1) s.heap.objs.size 0 .none := by
    have := Heap.get?_push_size (s.heap.push o) (o := { cls := .type "enumerate", data := .fields #[.none, .bool false, .ref s.heap.objs.size, rawInt 0, .none, .none] }) rfl
    rw [hz] at this; exact this
  refine ⟨⟨_, he, rfl⟩, h _ he (Heap.get?_push_of_some _ (Heap.get?_push_size _ B.free)) (by rw [Heap.size_push, hz]) fun b o x => Heap.get?_push_of_some _ (Heap.get?_push_of_some _ x)⟩
end
/-- the tuple at a as it stands, each item with its place in a new pair -/
def IteT (K : PySem.W.Frag) (a : Addr) : It :=
  ⟨fun i H => ∃ (xs : List V) (x : V), SqT K H a xs ∧ xs[i]? = some x, fun i H v H' => ∃ T x, v = .ref T ∧ H T = none ∧ H' = upd H T (.tup [.int (i : Nat), x]) ∧ ∀ xs, SqT K H a xs → xs[i]? = some x, fun i H => ∃ xs : List V, SqT K H a xs ∧ xs.length ≤ i⟩
theorem turn_enumT {P : Program} {w : World} {K : PySem.W.Frag} {elts : List Expr} {kk : Nat} {tpos : Pos} (a e it : Addr) :
    Turn P w K (.Tuple elts kk tpos) (IteT K a) [e, it] e (fun i h => (∃ old, IsEnum h e it ((i : Nat) : Int) old) ∧ h.IsTupleIter it a i ∧ e ≠ it ∧ a ≠ it ∧ e ≠ a) where
  mem := by simp
  obj := fun i h st b hb => by
    obtain ⟨⟨old, he⟩, ⟨o, ho, hc, hd⟩, _⟩ := st
    have e' : b = e ∨ b = it := by simpa using hb
    rcases e' with z | z
    · rw [z]; exact ⟨_, he, fun v q => nomatch q⟩
    · rw [z]; exact ⟨o, ho, fun v q => by rw [hd] at q; cases q⟩
  keep := fun i h h' st k => let ⟨⟨old, he⟩, hi, hne⟩ := st; ⟨⟨old, k e (by simp) _ he⟩, hi.at fun o q => k it (by simp) o q, hne⟩
  item := by
    intro X hP hw hK hc i pins s σ H E I hf st hg
    subst hP hw hK
    obtain ⟨⟨old, he⟩, hit, hne, hai, hea⟩ := st
    obtain ⟨xs, x, hq, hx⟩ := hg
    obtain ⟨its, rv, p, hz⟩ := I.tuple hq
    obtain ⟨u, hu, ru⟩ := rv.get hx
    have hel : e < s.heap.objs.size := Heap.lt_size he
    have hil : it < s.heap.objs.size := by obtain ⟨_, q, _⟩ := hit; exact Heap.lt_size q
    have hlt : i < its.toArray.size := by have := rv.length; have := (List.getElem?_eq_some_iff.mp hx).1; simp; omega
    refine wpAny_pyNext_enum_itemD (Draws.tuple (A := X.A.in1) (show X.A.in1.handled = none from I.ok.hd hc) it a hai its.toArray) he ⟨hit, p⟩ hlt hne (by simp [hne, hea]) fun u' h' tk hu' ho st' hT hsz hk => ?_
    have eu : u' = u := by
      have z : its.toArray[i]? = some u := by simpa using hu
      rw [z] at hu'
      exact (Option.some.inj hu').symm
    subst eu
    refine ⟨_, rfl, wpAny_letOwnedTupleGo_enum (s := { s with heap := h', toks := tk + 1 }) ho fun h'' he' sb => ?_⟩
    have hT2 : h''.get? s.heap.objs.size = some { cls := .type "tuple", data := .seq #[.int i tk, u'] } := (sb.2 _ (Nat.ne_of_gt hel)).trans hT
    have new : ObjOk X.prog X.w (upd H s.heap.objs.size (.tup [.int (i : Nat), x])) h'' s.heap.objs.size (.tup [.int (i : Nat), x]) :=
      ⟨by show 2 ≤ sizeLine; decide, [.int i tk, u'], .cons ⟨_, rfl⟩ (.cons ru .nil), ⟨_, hT2, rfl, _, rfl⟩⟩
    have I1 : Inv X pins σ (upd H s.heap.objs.size (.tup [.int (i : Nat), x])) { s with heap := h'', toks := tk + 1 } :=
      I.turnedNew (ch := [e, it]) (fun b ob hb q => (sb.2 b (fun z => hb (by simp [z]))).trans (hk b ob (fun z => hb (by simp [z])) (fun z => hb (by simp [z])) q)) hf (Nat.le_refl _) new
    refine ⟨.ref s.heap.objs.size, _, I1, rfl, ⟨_, x, rfl, I.hok.fresh (Nat.le_refl _), rfl, fun ys hy => by rw [I.tuple_inj hy hq]; exact hx⟩, ⟨⟨u', ?_⟩, st'.1.at fun o q => (sb.2 it (Ne.symm hne)).trans q, hne, hai, hea⟩, fun b hb => ?_⟩
    · have e1 : ((i + 1 : Nat) : Int) = (i : Int) + 1 := by omega
      rw [e1]; exact he'
    · have hb' : b < s.heap.objs.size := by
        have e' : b = e ∨ b = it := by simpa using hb
        rcases e' with z | z
        · rw [z]; exact hel
        · rw [z]; exact hil
      rw [upd_ne (Nat.ne_of_lt hb')]
      exact (hf b hb).1
  done := by
    intro X hP hw hK hc i pins s σ H E I hf st hg
    subst hP hw hK
    obtain ⟨⟨old, he⟩, hit, hne, hai, hea⟩ := st
    obtain ⟨xs, hq, hx⟩ := hg
    obtain ⟨its, rv, p, hz⟩ := I.tuple hq
    obtain ⟨f0, f1, f2, f3, f4, f5⟩ := hf it (by simp)
    have hl := rv.length
    have hT : s.TypeIs (.ref e) "enumerate" := ⟨_, he, rfl⟩
    unfold pyNext
    refine wpAny_bind (wpAny_attempt (wpAny_callSpecial?_slot (name := Str.ofString "__next__") hT F.slot_enumerate_next
      (wpAny_call_entry F.slot_enumerate_next hT F.entry_enumerate_next ?_ (F.args_enumerate_next_1 _))))
    show wpAny _ _ (field (.ref e) 2 >>= _) _ _ _
    refine wpAny_bind (wpAny_field he rfl (x := .ref it) rfl ?_)
    refine wpAny_bind (wpAny_nextOf_tuple_end (I.ok.hd hc) hit p (by simp; omega) fun h' x he' hx' => ?_)
    obtain ⟨o, ho, hcl⟩ := hx'
    refine wpAny_bind (wpAny_isInstance (T := "StopIteration") (b := true) ⟨o, ho, hcl⟩ isSubtype_stop ?_)
    exact wpAny_pure ⟨rfl, I.turned (t' := s.toks) (fun b o hb q => he' b o hb q) f0 f1 f3 f4 f5⟩
  self := fun A i s Q E st h => let ⟨⟨_, he⟩, _⟩ := st; wpAny_pyIter_enum he h
def iEnumT (K : PySem.W.Frag) (ta : TA) : TI := fun σ H R => ta σ H fun vs H1 => ∃ a xs, vs = [.ref a] ∧ SqT K H1 a xs ∧ R (IteT K a) H1
theorem pi_enumT {X : Cx} {e : Expr} {ta : TA} {p pos tpos : Pos} {elts : List Expr} {kk : Nat} (hg : Gl X "enumerate") (hm : X.mg "enumerate" = none) (ha : PA X [e] ta) (hs : starEach [e] X.env = [(false, eval e X.env)] := by rfl) :
    PI X (.Tuple elts kk tpos) (.Call (.Name "enumerate" p) [e] [] pos) (iEnumT X.K ta) := by
  refine ⟨fun pins s σ H R I h => ?_⟩
  refine Call_ (ld_blt I hg hm boot_enumerate (PyProof.Rows.callWith_type1 (thn (ha.run pos pins s σ H _ I h) fun us s1 ⟨vs, H1, I1, r1, q1⟩ => ?_) hs rfl))
  obtain ⟨a, xs, ex, hq, q⟩ := q1
  subst ex
  cases r1 with
  | cons r rr =>
    cases rr
    cases r
    obtain ⟨its, rv, p', hz⟩ := I1.tuple hq
    have hal : a < s1.heap.objs.size := by obtain ⟨_, q, _⟩ := p'; exact Heap.lt_size q
    refine enum_begins1 (begins_tuple a its.toArray) p' fun h' he hit hsz hk => wpAny_pyIter_enum he ?_
    have I2 : Inv X pins σ H1 { s1 with heap := h' } := I1.kept (t' := s1.toks) hk
    refine ⟨s1.heap.objs.size + 1, [s1.heap.objs.size + 1, s1.heap.objs.size], _, _, H1, rfl, I2, turn_enumT a (s1.heap.objs.size + 1) s1.heap.objs.size, ⟨⟨.none, he⟩, ⟨_, hit, rfl, rfl⟩, Nat.succ_ne_self _, Nat.ne_of_lt hal, Nat.ne_of_gt (Nat.lt_succ_of_lt hal)⟩, fun b hb => ?_, q⟩
    have e' : b = s1.heap.objs.size + 1 ∨ b = s1.heap.objs.size := by simpa using hb
    have hle : s1.heap.objs.size ≤ b := by
      rcases e' with z | z
      · rw [z]; exact Nat.le_add_right _ _
      · rw [z]; exact Nat.le_refl _
    exact I1.fpOk hle (I1.hok.fresh hle)
theorem walk_enumT {K : PySem.W.Frag} {a : Addr} {xs : List V} : Walk (IteT K a) xs.length (fun H => SqT K H a xs) (YPair (fun i => some (.int (i : Nat))) (fun i => xs[i]?)) := by
  refine ⟨fun i _ hi q => ⟨xs, xs[i], q, by simp [hi]⟩, fun _ q => ⟨xs, q, Nat.le_refl _⟩, fun i H v H' _ q y => ?_⟩
  obtain ⟨T, x, h1, h2, h3, h4⟩ := y
  exact ⟨T, .int (i : Nat), x, h1, h2, h3, rfl, h4 xs q⟩
end Ol

set_option Elab.async false
set_option linter.all false
set_option maxRecDepth 100000
set_option maxHeartbeats 4000000
namespace Ol
open PySem PySem.Spec PyProof.Rows L2

/-- a dict comprehension over any walk -/
theorem dc_it {J : It} {n : Nat} {G : Hp → Prop} {Y : Nat → Hp → V → Hp → Prop} (w : Walk J n G Y) {g : TG} {tt : TT} {tk tv : TE} {vs : List Nat} {σ : L2.St} {H1 : Hp} {D : Addr} {Qd : Hp → Prop} (Pv : Nat → Hp → Prop)
    (h0 : Pv 0 (upd H1 D (.dK []))) (hG : ∀ i H, i ≤ n → Pv i H → G H)
    (hs : ∀ i x H H', i < n → Pv i H → Y i H x H' → g x (wipe σ vs) H' fun σ2 H2 => wipe σ2 vs = wipe σ vs ∧ tt σ2 H2 fun b H3 =>
      if b = true then tk σ2 H3 fun y H4 => tv σ2 H4 fun z H5 => ∃ kvs k, y = kV k ∧ H5 D = some (.dK kvs) ∧ kvs.length < sizeLine ∧ Pv (i + 1) (upd H5 D (.dK (putK kvs k z))) else Pv (i + 1) H3) (hd : ∀ H, Pv n H → Qd H) :
    ∃ W : Nat → Nat → Hp → Prop, (∃ m, W 0 m (upd H1 D (.dK []))) ∧ ∀ i m H, W i m H →
      (J.stop i H ∧ Qd H) ∨ (J.go i H ∧ ∃ Nx : Hp → Prop, (∀ H', Nx H' → ∃ m', m' < m ∧ W (i + 1) m' H') ∧ ∀ x H', J.yld i H x H' → g x (wipe σ vs) H' fun σ2 H2 => wipe σ2 vs = wipe σ vs ∧ tt σ2 H2 fun b H3 =>
        if b = true then tk σ2 H3 fun y H4 => tv σ2 H4 fun z H5 => ∃ kvs k, y = kV k ∧ H5 D = some (.dK kvs) ∧ kvs.length < sizeLine ∧ Nx (upd H5 D (.dK (putK kvs k z))) else Nx H3) := by
  refine ⟨fun i m H => m = n - i ∧ i ≤ n ∧ Pv i H, ⟨n, by simp, Nat.zero_le _, h0⟩, ?_⟩
  rintro i m H ⟨rfl, hi, p⟩
  have q := hG i H hi p
  by_cases hlt : i < n
  · exact .inr ⟨w.goes i H hlt q, Pv (i + 1), fun H' p' => ⟨n - (i + 1), by omega, rfl, hlt, p'⟩, fun x H' y => hs i x H H' hlt p (w.yields i H x H' hlt q y)⟩
  · have e : i = n := by omega
    subst e
    exact .inl ⟨w.stops H q, hd H p⟩

/-- names and their places, as a dict holds them -/
def spots (ns : List Str) : List (Key × V) := ns.zipIdx.map fun p => (.inr p.1, .int (p.2 : Int))
theorem spots_len (ns : List Str) : (spots ns).length = ns.length := by unfold spots; rw [List.length_map, List.length_zipIdx]
theorem spots_snoc (ns : List Str) (x : Str) : spots (ns ++ [x]) = spots ns ++ [(.inr x, .int (ns.length : Int))] := by
  unfold spots
  rw [List.zipIdx_append, List.map_append]
  simp
theorem valV_none {kvs : List (Key × V)} {k : Key} (h : ∀ p ∈ kvs, p.1 ≠ k) : valV kvs k = none := by
  induction kvs with
  | nil => rfl
  | cons p r ih => rw [valV_neg (h p List.mem_cons_self), ih fun q hq => h q (List.mem_cons_of_mem _ hq)]
theorem putK_new {kvs : List (Key × V)} {k : Key} {v : V} (h : valV kvs k = none) : putK kvs k v = kvs ++ [(k, v)] := by
  unfold putK
  rw [valV_any, h]
  rfl
theorem spots_key (ns : List Str) : (spots ns).map (·.1) = ns.map Sum.inr := by
  unfold spots
  rw [List.map_map]
  have h : ∀ (l : List Str) (k : Nat), (l.zipIdx k).map ((fun p : Key × V => p.1) ∘ fun p => (Sum.inr p.1, V.int (p.2 : Int))) = l.map Sum.inr := by
    intro l
    induction l with
    | nil => intro k; rfl
    | cons a l ih =>
      intro k
      rw [List.zipIdx_cons, List.map_cons, ih]
      rfl
  exact h ns 0
theorem spots_none {ns : List Str} {x : Str} (h : x ∉ ns) : valV (spots ns) (.inr x) = none := by
  refine valV_none fun p hp e => h ?_
  have z : p.1 ∈ (spots ns).map (·.1) := List.mem_map_of_mem hp
  rw [spots_key, e] at z
  obtain ⟨y, hy, ey⟩ := List.mem_map.mp z
  cases ey
  exact hy
theorem spots_val {ns : List Str} (hd : ns.Nodup) {i : Nat} (hi : i < ns.length) : valV (spots ns) (.inr ns[i]) = some (.int (i : Int)) := by
  unfold spots
  have h : ∀ (l : List Str) (k i : Nat) (hi : i < l.length), l.Nodup → valV ((l.zipIdx k).map fun p => ((.inr p.1, .int (p.2 : Int)) : Key × V)) (.inr l[i]) = some (.int ((k + i : Nat) : Int)) := by
    intro l
    induction l with
    | nil => intro k i hi; cases hi
    | cons a l ih =>
      intro k i hi hn
      rw [List.zipIdx_cons, List.map_cons]
      cases i with
      | zero => exact valV_pos rfl
      | succ i =>
        rw [List.nodup_cons] at hn
        have hi' : i < l.length := by simpa using hi
        rw [valV_neg]
        · show valV _ (Sum.inr l[i]) = _
          rw [ih (k + 1) i hi' hn.2]
          rw [show k + 1 + i = k + (i + 1) by omega]
        · intro z
          have z' : a = l[i] := Sum.inr.inj z
          exact hn.1 (z' ▸ List.getElem_mem hi')
  have z := h ns 0 i hi hd
  rw [Nat.zero_add] at z
  exact z
end Ol

set_option Elab.async false
set_option linter.all false
set_option maxRecDepth 100000
set_option maxHeartbeats 4000000
namespace Ol
open PySem PySem.Spec PyProof.Rows L2

/-- a method of class C and its promise -/
structure Cm (P : Program) (w : World) (K : PySem.W.Frag) (mg : Str → Option Value) (base : Heap)
    (C : Addr) (k : Nat) (m : Str) (ps : List Str) (sp : Sp) : Prop where
  has : ∃ (f : Addr) (fd : FuncData), FnOk P w K mg base CX0 k f fd ps sp ∧ Meth K C m f ∧ Binds K fd ps []
section
variable {X : Cx} {k : Nat} {C : Addr} {ps : List Str} {sp : Sp} {m : Str} {o e : Expr} {es : List Expr} {ta : TE} {t : TA} {apos pos : Pos}
theorem pe_cm {pl : Sem Bool} (M : Cm X.prog X.w X.K X.mg X.base C k m ps sp) (c : Cls X.K C) (hr : Room k X.A) (he : PE X o ta) (ha : PA X (e :: es) t)
    (hst : starEach (e :: es) X.env = (false, eval e X.env) :: starEach es X.env := by rfl) (hpl : (backTo pos (starEach es X.env)).any (·.1) = false := by rfl)
    (ht : eval (.Call (.Attribute o m apos) (e :: es) [] pos) X.env = (do
      let ov ← eval o X.env
      standAt apos.atName
      let (f, first) ← holding [ov] (getMethod ov m pl)
      callWith pos f first (backTo pos (starEach (e :: es) X.env)) (backToKw pos (keywordEach [] X.env))) := by rfl) :
    PE X (.Call (.Attribute o m apos) (e :: es) [] pos) (tMeth C m sp [] E0 ta t) := by
  obtain ⟨f, fd, F, hm, b⟩ := M.has
  exact pe_meth he c hm F hr b .nil pass0 ha hst hpl ht
theorem op_notInM (M : Cm X.prog X.w X.K X.mg X.base C k "__contains__" ps sp) (hr : Room k X.A) : OpR X (compareOp .NotIn) (rNotInO C sp) := by
  obtain ⟨f, fd, F, hm, b⟩ := M.has
  exact op_notInO F hr hm.at_ hm.fn b
end

/-! ### t * 1 -/
theorem tuple_mul1 (l : Addr) (items : Array Value) (n : Nat) (dd : Option Addr) (sl : Array (Option Value)) (u : Tok) (hi : items.isEmpty = false) :
    Meets (Builtin.«tuple.__mul__» ⟨[.ref l, .int 1 u], []⟩) (fun _ R s => s.heap.get? l = some { cls := .type "tuple", dict := dd, data := .seq items n, slots := sl } ∧
      R (.ok (.ret (Value.ref l))) s) :=
  .of_wp fun prog w A R s h => by
    obtain ⟨hp, g, d, tk, os⟩ := s
    obtain ⟨hl, h⟩ := h
    have f1 := AutoSeq1.idx_int
    wp_walk using wpAny_loadPart' hl
    exact ⟨_, rfl, h⟩
/-- t * k, 1 ≤ k -/
def rRepA (K : PySem.W.Frag) : R2 := fun x y H Q => ∃ l k xs, x = .ref l ∧ y = .int k ∧ SqT K H l xs ∧ xs ≠ [] ∧ 1 ≤ k ∧ k ≤ 1000 ∧ xs.length ≤ 1000 ∧
  (k = 1 → Q (.ref l) H) ∧ (2 ≤ k → ∀ p, H p = none → Q (.ref p) (upd H p (.tup (List.replicate k.toNat xs).flatten)))
theorem op_repA {X : Cx} : OpR X (binaryOp .Mult) (rRepA X.K) := by
  intro pins s σ H x y v u Q I rx ry h
  obtain ⟨l, k, xs, ex, ey, hT, hne, h1, h2, hz, q1, q2⟩ := h
  by_cases hk : 2 ≤ k
  · exact op_repT pins s σ H x y v u Q I rx ry ⟨l, k, xs, ex, ey, hT, hne, hk, h2, hz, q2 hk⟩
  · have e1 : k = 1 := by omega
    subst ex ey e1
    cases rx
    obtain ⟨t, rfl⟩ := ry
    obtain ⟨its, r, ⟨⟨cls, dd, data, sl⟩, ho, hc, n, hd⟩, hs⟩ := I.tuple hT
    simp only at hc hd
    subst hc hd
    have hle : its.length = xs.length := r.length.symm
    have hn : its ≠ [] := fun e => hne (by
      rw [e] at hle
      exact List.eq_nil_of_length_eq_zero hle.symm)
    have hi : its.toArray.isEmpty = false := by
      cases its with
      | nil => exact absurd rfl hn
      | cons a b => rfl
    exact wpAny_binaryOp_repeat_ref (T := "tuple") (U := "int") (by decide) ⟨_, ho, rfl⟩ (fun s' => typeIs_int s' 1 t) noFill_tuple_mul F.fills_int_mul F.slot_int_rmul repeat_tuple F.slot_int_index.lookup
      (call_meets F.slot_int_rmul (typeIs_int s 1 t) F.entry_int_rmul (F.args_int_rmul_2 _ _) (int_rmul_tuple 1 t l its.toArray n dd sl)
        ⟨ho, rfl, ⟨_, ho, rfl⟩, call_meets F.slot_tuple_mul ⟨_, ho, rfl⟩ F.entry_tuple_mul (F.args_tuple_mul_2 _ _) (tuple_mul1 l its.toArray n dd sl t hi) ⟨ho, .ref l, H, I, rfl, q1 rfl⟩⟩)
end Ol

set_option Elab.async false
set_option linter.all false
set_option maxRecDepth 100000
set_option maxHeartbeats 4000000
namespace Ol
open PySem PySem.Spec PyProof.Rows L2

/-- a method that may raise, within a try -/
def tMethX (C : Addr) (m : Str) (sp : Sp) (E : L2.St → XK) (ta : TE) (t : TA) : TE := fun σ H Q => ta σ H fun x H1 => ∃ a dx fs, x = .ref a ∧ H1 a = some (.ins C dx fs) ∧ fs.lookup m = none ∧
  t σ H1 fun vs H2 => sp (x :: vs) H2 Q (E σ)
/-- a method that may raise, and its promise -/
structure CmX (P : Program) (w : World) (K : PySem.W.Frag) (mg : Str → Option Value) (base : Heap)
    (C : Addr) (k : Nat) (m : Str) (ps : List Str) (sp : Sp) : Prop where
  has : ∃ (f : Addr) (fd : FuncData), FnOk P w K mg base (L2.CX P w) k f fd ps sp ∧ Meth K C m f ∧ Binds K fd ps []
section
variable {X : Cx} {k : Nat} {C : Addr} {ps : List Str} {sp : Sp} {m : Str} {o e : Expr} {es : List Expr} {ta : TE} {t : TA} {apos pos : Pos} {E : L2.St → XK}
theorem pe_cmX {pl : Sem Bool} (M : CmX X.prog X.w X.K X.mg X.base C k m ps sp) (c : Cls X.K C) (hr : Room k X.A) (hx : ∀ σ, PassesAt (L2.CX X.prog X.w) X σ (E σ)) (he : PE X o ta) (ha : PA X (e :: es) t)
    (hst : starEach (e :: es) X.env = (false, eval e X.env) :: starEach es X.env := by rfl) (hpl : (backTo pos (starEach es X.env)).any (·.1) = false := by rfl)
    (ht : eval (.Call (.Attribute o m apos) (e :: es) [] pos) X.env = (do
      let ov ← eval o X.env
      standAt apos.atName
      let (f, first) ← holding [ov] (getMethod ov m pl)
      callWith pos f first (backTo pos (starEach (e :: es) X.env)) (backToKw pos (keywordEach [] X.env))) := by rfl) :
    PE X (.Call (.Attribute o m apos) (e :: es) [] pos) (tMethX C m sp E ta t) := by
  obtain ⟨f, fd, F, hm, b⟩ := M.has
  refine ⟨fun pins s σ H Q I h => ?_⟩
  refine PySem.W.methodCall_KW (pl := pl) (thn (he.run pins s σ H _ I h) fun u s1 ⟨x, H1, I1, rx, a, dx, fs, ex, ea, l, q⟩ => ?_) ht
  subst ex
  obtain rfl : u = Value.ref a := rx
  refine getmeth_ok I1 ea c hm l ?_
  refine PySem.W.callWith_K (first := [.ref a]) (h₀ := X.base) I.ok.mod.kin hm.kp (thn (ha.run pos pins s1 σ H1 _ I1 q) fun us s2 ⟨vs, H2, I2, r, q2⟩ => ⟨I2.kIn, ?_⟩) hst hpl
  exact run_fnS (us := .ref a :: us) (vs := .ref a :: vs) F hr b (hx σ) I2 (.cons rfl r) q2
end
end Ol

set_option Elab.async false
set_option linter.all false
set_option maxRecDepth 100000
set_option maxHeartbeats 4000000
namespace Ol
open PySem PySem.Spec PyProof.Rows L2 RZ

theorem walk_zipT {K : PySem.W.Frag} {a b : Addr} {xs ys : List V} {n : Nat} (hn : n = min xs.length ys.length) : Walk (ItzT K a b) n (fun H => SqT K H a xs ∧ SqT K H b ys) (YPair (fun i => xs[i]?) (fun i => ys[i]?)) := by
  subst hn
  refine ⟨fun i _ hi q => ?_, fun _ q => ⟨xs, ys, q.1, q.2, by omega⟩, fun i H v H' _ q y => ?_⟩
  · have h1 : i < xs.length := by omega
    have h2 : i < ys.length := by omega
    exact ⟨xs, ys, xs[i], ys[i], q.1, q.2, by simp [h1], by simp [h2]⟩
  · obtain ⟨T, x, z, h1, h2, h3, h4, h5⟩ := y
    exact ⟨T, x, z, h1, h2, h3, h4 xs q.1, h5 ys q.2⟩

theorem ext_del {H H' : Hp} {D : Addr} (e : Ext H H') : Ext (del H D) (del H' D) := fun b o z => by
  by_cases c : b = D
  · rw [c, del_same] at z; cases z
  · rw [del_ne c] at z ⊢
    exact e _ _ z
theorem del_ext {H : Hp} {D : Addr} : Ext (del H D) H := fun b o z => by
  by_cases c : b = D
  · rw [c, del_same] at z; cases z
  · rw [del_ne c] at z
    exact z
theorem ext_to {H H' : Hp} {D : Addr} (e : Ext H H') (h : H D = none) : Ext H (del H' D) := fun b o z => by
  rw [del_ne (fun c => by rw [c, h] at z; cases z)]
  exact e _ _ z
theorem del_upd {H : Hp} {D : Addr} {o : HO} : del (upd H D o) D = del H D := by
  funext b
  by_cases c : b = D
  · rw [c, del_same, del_same]
  · rw [del_ne c, del_ne c, upd_ne c]
theorem del_at {H : Hp} {D p : Addr} {o u : HO} (h : H p = none) (hD : H D = some u) {H' : Hp} (h' : H' p = some o) : del H' D p = some o := by
  rw [del_ne (fun c => by rw [c, hD] at h; cases h)]
  exact h'
/-- what the second clause is to do in turn i of the first one -/
def Inner (P : Nat → Nat → List V → Hp → Prop) (D : Addr) (H : Hp) (g1 : TG) (tt1 : TT) (te : TE) (vs1 : List Nat) (i : Nat) (σ2 : L2.St) (J1 : It) (H4 : Hp) : Prop :=
  Ext H H4 ∧ ∃ n1 G1 Y1, Walk J1 n1 G1 Y1 ∧
    (∀ Hz, Ext (del H4 D) Hz → G1 Hz) ∧
    (∀ ys Hz, P i n1 ys Hz → P (i + 1) 0 ys Hz) ∧
    ∀ j y Ha Hb ys, j < n1 → Ext (del H4 D) Ha → Ha D = some (.lst ys) → Y1 j Ha y Hb → P i j ys (del Ha D) →
      ∀ (QY : V → Hp → Prop) (QN : Hp → Prop),
        (∀ y H5, Ext Ha H5 → P i (j + 1) (ys ++ [y]) (del H5 D) → QY y H5) →
        (∀ H5, Ext Ha H5 → P i (j + 1) ys (del H5 D) → QN H5) →
        g1 y (wipe σ2 vs1) Hb fun σ3 H5 => wipe σ3 vs1 = wipe σ2 vs1 ∧ tt1 σ3 H5 fun b H6 => if b = true then te σ3 H6 QY else QN H6
/-- a comprehension of two clauses (a test in the second one alone): P holds of both turns, the list so far, and all that stands but the list -/
theorem lc2_acc {J : It} {n : Nat} {G : Hp → Prop} {Y : Nat → Hp → V → Hp → Prop} (w : Walk J n G Y) {g : TG} {wi1 : TI} {g1 : TG} {tt1 : TT} {te : TE} {vs vs1 : List Nat} {σ : L2.St} {H1 : Hp} {D : Addr} {Qd : Hp → Prop}
    (P : Nat → Nat → List V → Hp → Prop) (up : ∀ i j xs H H', Ext H H' → P i j xs H → P i j xs H') (h0 : P 0 0 [] H1) (hD : H1 D = none)
    (hlen : ∀ i j xs H, P i j xs H → xs.length < sizeLine) (hG : ∀ H, Ext H1 H → G H)
    (hs : ∀ i x H H' xs, i < n → Ext H1 H → H D = some (.lst xs) → Y i H x H' → P i 0 xs (del H D) →
      ∀ R : L2.St → It → Hp → Prop, (∀ σ2 J1 H4, Inner P D H g1 tt1 te vs1 i σ2 J1 H4 → R σ2 J1 H4) →
      g x (wipe σ vs) H' fun σ2 H2 => wipe σ2 vs = wipe σ vs ∧ wi1 σ2 H2 (R σ2))
    (hd : ∀ H xs, Ext H1 H → H D = some (.lst xs) → P n 0 xs H → Qd H) :
    ∃ W : Nat → Nat → Hp → Prop, (∃ m, W 0 m (upd H1 D (.lst []))) ∧ ∀ i m H, W i m H →
      (J.stop i H ∧ Qd H) ∨ (J.go i H ∧ ∃ Nx : Hp → Prop, (∀ H', Nx H' → ∃ m', m' < m ∧ W (i + 1) m' H') ∧ ∀ x H', J.yld i H x H' → g x (wipe σ vs) H' fun σ2 H2 => wipe σ2 vs = wipe σ vs ∧ tYes σ2 H2 fun b H3 =>
        if b = true then wi1 σ2 H3 fun J1 H4 => ∃ W1 : Nat → Nat → Hp → Prop, (∃ m, W1 0 m H4) ∧ ∀ j k H, W1 j k H →
          (J1.stop j H ∧ Nx H) ∨ (J1.go j H ∧ ∃ Nx1 : Hp → Prop, (∀ H', Nx1 H' → ∃ k', k' < k ∧ W1 (j + 1) k' H') ∧ ∀ x H', J1.yld j H x H' → g1 x (wipe σ2 vs1) H' fun σ3 H5 => wipe σ3 vs1 = wipe σ2 vs1 ∧ tt1 σ3 H5 fun b H6 =>
            if b = true then te σ3 H6 fun y H7 => ∃ acc, H7 D = some (.lst acc) ∧ acc.length < sizeLine ∧ Nx1 (upd H7 D (.lst (acc ++ [y]))) else Nx1 H6)
        else Nx H3) := by
  have e1 : Ext H1 (upd H1 D (.lst [])) := Ext.new hD
  let Pv : Nat → Hp → Prop := fun i H => ∃ xs, Ext H1 H ∧ H D = some (.lst xs) ∧ P i 0 xs (del H D)
  refine ⟨fun i m H => m = n - i ∧ i ≤ n ∧ Pv i H, ⟨n, by simp, Nat.zero_le _, [], e1, upd_same, up 0 0 [] _ _ (ext_to e1 hD) h0⟩, ?_⟩
  rintro i m H ⟨rfl, hi, xs, e, hx, hp⟩
  have q := hG H e
  by_cases hlt : i < n
  · refine .inr ⟨w.goes i H hlt q, Pv (i + 1), fun H' p' => ⟨n - (i + 1), by omega, rfl, hlt, p'⟩, fun x H' y => ?_⟩
    refine hs i x H H' xs hlt e hx (w.yields i H x H' hlt q y) hp (fun σ2 J1 H4 => ∃ W1 : Nat → Nat → Hp → Prop, (∃ m, W1 0 m H4) ∧ ∀ j k H, W1 j k H →
          (J1.stop j H ∧ Pv (i + 1) H) ∨ (J1.go j H ∧ ∃ Nx1 : Hp → Prop, (∀ H', Nx1 H' → ∃ k', k' < k ∧ W1 (j + 1) k' H') ∧ ∀ x H', J1.yld j H x H' → g1 x (wipe σ2 vs1) H' fun σ3 H5 => wipe σ3 vs1 = wipe σ2 vs1 ∧ tt1 σ3 H5 fun b H6 =>
            if b = true then te σ3 H6 fun y H7 => ∃ acc, H7 D = some (.lst acc) ∧ acc.length < sizeLine ∧ Nx1 (upd H7 D (.lst (acc ++ [y]))) else Nx1 H6)) ?_
    rintro σ2 J1 H4 ⟨e4, n1, G1, Y1, w1, hG1, hend, hst⟩
    have e14 : Ext H1 (del H4 D) := ext_to (e.trans e4) hD
    let Pj : Nat → Hp → Prop := fun j Ha => ∃ ys, Ext (del H4 D) (del Ha D) ∧ Ha D = some (.lst ys) ∧ P i j ys (del Ha D)
    refine ⟨fun j k Ha => k = n1 - j ∧ j ≤ n1 ∧ Pj j Ha, ⟨n1, by simp, Nat.zero_le _, xs, Ext.refl _, e4 _ _ hx, up _ _ _ _ _ (ext_del e4) hp⟩, ?_⟩
    rintro j k Ha ⟨rfl, hj, ys, ea, hy, hpj⟩
    have ea2 : Ext (del H4 D) Ha := ea.trans del_ext
    have q1 := hG1 Ha ea2
    by_cases hl1 : j < n1
    · refine .inr ⟨w1.goes j Ha hl1 q1, Pj (j + 1), fun H' p' => ⟨n1 - (j + 1), by omega, rfl, hl1, p'⟩, fun x1 Hb y1 => ?_⟩
      refine hst j x1 Ha Hb ys hl1 ea2 hy (w1.yields j Ha x1 Hb hl1 q1 y1) hpj _ _ ?_ ?_
      · intro v H5 e5 k
        exact ⟨ys, e5 _ _ hy, hlen _ _ _ _ hpj, ys ++ [v], by rw [del_upd]; exact ea.trans (ext_del e5), upd_same, by rw [del_upd]; exact k⟩
      · intro H5 e5 k
        exact ⟨ys, ea.trans (ext_del e5), e5 _ _ hy, k⟩
    · have ej : j = n1 := by omega
      subst ej
      exact .inl ⟨w1.stops Ha q1, ys, e14.trans ea2, hy, hend _ _ hpj⟩
  · have ei : i = n := by omega
    subst ei
    exact .inl ⟨w.stops H q, hd H xs e hx (up _ _ _ _ _ del_ext hp)⟩
/-- of one clause, in the same words -/
theorem lc1_acc {J : It} {n : Nat} {G : Hp → Prop} {Y : Nat → Hp → V → Hp → Prop} (w : Walk J n G Y) {g : TG} {tt : TT} {te : TE} {vs : List Nat} {σ : L2.St} {H1 : Hp} {D : Addr} {Qd : Hp → Prop}
    (P : Nat → List V → Hp → Prop) (up : ∀ i xs H H', Ext H H' → P i xs H → P i xs H') (h0 : P 0 [] H1) (hD : H1 D = none)
    (hlen : ∀ i xs H, P i xs H → xs.length < sizeLine) (hG : ∀ H, Ext H1 H → G H)
    (hs : ∀ i x H H' xs, i < n → Ext H1 H → H D = some (.lst xs) → Y i H x H' → P i xs (del H D) →
      ∀ (QY : V → Hp → Prop) (QN : Hp → Prop),
        (∀ y H4, Ext H H4 → P (i + 1) (xs ++ [y]) (del H4 D) → QY y H4) →
        (∀ H4, Ext H H4 → P (i + 1) xs (del H4 D) → QN H4) →
        g x (wipe σ vs) H' fun σ2 H2 => wipe σ2 vs = wipe σ vs ∧ tt σ2 H2 fun b H3 => if b = true then te σ2 H3 QY else QN H3)
    (hd : ∀ H xs, Ext H1 H → H D = some (.lst xs) → P n xs H → Qd H) :
    ∃ W : Nat → Nat → Hp → Prop, (∃ m, W 0 m (upd H1 D (.lst []))) ∧ ∀ i m H, W i m H →
      (J.stop i H ∧ Qd H) ∨ (J.go i H ∧ ∃ Nx : Hp → Prop, (∀ H', Nx H' → ∃ m', m' < m ∧ W (i + 1) m' H') ∧ ∀ x H', J.yld i H x H' → g x (wipe σ vs) H' fun σ2 H2 => wipe σ2 vs = wipe σ vs ∧ tt σ2 H2 fun b H3 =>
        if b = true then te σ2 H3 fun y H4 => ∃ acc, H4 D = some (.lst acc) ∧ acc.length < sizeLine ∧ Nx (upd H4 D (.lst (acc ++ [y]))) else Nx H3) := by
  have e1 : Ext H1 (upd H1 D (.lst [])) := Ext.new hD
  refine lc_it w (fun i H => ∃ xs, Ext H1 H ∧ H D = some (.lst xs) ∧ P i xs (del H D)) ⟨[], e1, upd_same, up 0 [] _ _ (ext_to e1 hD) h0⟩ (by rintro i H _ ⟨xs, e, _⟩; exact hG H e) ?_ ?_
  · rintro i x H H' hi ⟨xs, e, hx, hp⟩ y
    refine hs i x H H' xs hi e hx y hp _ _ ?_ ?_
    · intro v H4 e4 k
      exact ⟨xs, e4 _ _ hx, hlen _ _ _ hp, xs ++ [v], Ext.mut (e.trans e4) hD, upd_same, by rw [del_upd]; exact k⟩
    · intro H4 e4 k
      exact ⟨xs, e.trans e4, e4 _ _ hx, k⟩
  · rintro H ⟨xs, e, hx, hp⟩
    exact hd H xs e hx (up _ _ _ _ del_ext hp)
end Ol

set_option Elab.async false
set_option linter.all false
set_option maxRecDepth 100000
set_option maxHeartbeats 4000000
namespace Ol
open PySem PySem.Spec PyProof.Rows L2

theorem lt_anti : ∀ a b : List Nat, ltCps a b = false → ltCps b a = false → a = b
  | [], [], _, _ => rfl
  | [], _ :: _, h, _ => by cases h
  | _ :: _, [], _, h => by cases h
  | a :: r, b :: t, h1, h2 => by
    unfold ltCps at h1 h2
    simp only [Bool.or_eq_false_iff, decide_eq_false_iff_not, Bool.and_eq_false_iff, beq_eq_false_iff_ne] at h1 h2
    have e : a = b := by omega
    subst e
    have r1 : ltCps r t = false := h1.2.resolve_left (fun z => z rfl)
    have r2 : ltCps t r = false := h2.2.resolve_left (fun z => z rfl)
    rw [lt_anti r t r1 r2]
theorem lt_trans : ∀ x y z : List Nat, ltCps y x = false → ltCps z y = false → ltCps z x = false
  | [], _, [], _, _ => rfl
  | [], _, _ :: _, _, _ => rfl
  | _ :: _, [], _, h, _ => by cases h
  | _ :: _, _ :: _, [], _, h => by cases h
  | c :: r, b :: t, d :: u, h1, h2 => by
    unfold ltCps at h1 h2 ⊢
    simp only [Bool.or_eq_false_iff, decide_eq_false_iff_not, Bool.and_eq_false_iff, beq_eq_false_iff_ne] at h1 h2 ⊢
    refine ⟨by omega, ?_⟩
    by_cases e : d = c
    · right
      have e1 : b = c := by omega
      have e2 : d = b := by omega
      exact lt_trans r t u (h1.2.resolve_left (fun z => z e1)) (h2.2.resolve_left (fun z => z e2))
    · exact .inl e
theorem rising_pw : ∀ (p : Str) (l : List Str), risingS p l = true → (p :: l).Pairwise (fun a b => ltCps b.cps.toList a.cps.toList = false)
  | p, [], _ => by simp
  | p, x :: r, h => by
    unfold risingS at h
    rw [Bool.and_eq_true, Bool.not_eq_true'] at h
    have ih := rising_pw x r h.2
    refine List.pairwise_cons.mpr ⟨fun y hy => ?_, ih⟩
    rcases List.mem_cons.mp hy with rfl | hy
    · exact h.1
    · exact lt_trans _ _ _ h.1 (List.rel_of_pairwise_cons ih hy)
theorem sorted_pw : ∀ l : List Str, sortedS l = true → l.Pairwise (fun a b => ltCps b.cps.toList a.cps.toList = false)
  | [], _ => .nil
  | x :: r, h => rising_pw x r h
theorem sorted_one {xs ys : List Str} (h1 : sortedS xs = true) (h2 : sortedS ys = true) (hp : xs.Perm ys) : xs = ys :=
  List.Perm.eq_of_pairwise (fun a b _ _ q1 q2 => by
    have e : a.cps.toList = b.cps.toList := lt_anti _ _ q2 q1
    cases a with | mk a => cases b with | mk b => have e2 : a = b := Array.toList_inj.mp e; rw [e2]) (sorted_pw _ h1) (sorted_pw _ h2) hp

/-! ### data without dicts -/
mutual
inductive Nd : PyData → Prop
  | non : Nd .none
  | bl (b : Bool) : Nd (.bool b)
  | int (i : Int) : Nd (.int i)
  | str (x : Str) : Nd (.str x)
  | lst {ds : List PyData} : NdAll ds → Nd (.list ds)
  | tup {ds : List PyData} : NdAll ds → Nd (.tuple ds)
inductive NdAll : List PyData → Prop
  | nil : NdAll []
  | cons {d : PyData} {ds : List PyData} : Nd d → NdAll ds → NdAll (d :: ds)
end
theorem NdAll.of : ∀ {ds : List PyData}, (∀ d ∈ ds, Nd d) → NdAll ds
  | [], _ => .nil
  | d :: ds, h => .cons (h d List.mem_cons_self) (NdAll.of fun e he => h e (List.mem_cons_of_mem _ he))
mutual
theorem Dq.off {H : Hp} {p : Addr} {kv : List (Key × V)} (hp : H p = some (.dK kv)) : ∀ {v : V} {d : PyData}, Dq H v d → Nd d → Dq (del H p) v d
  | _, _, .non, _ => .non
  | _, _, .bl b, _ => .bl b
  | _, _, .int i, _ => .int i
  | _, _, .str x, _ => .str x
  | _, _, .lst h t, n => .lst (by rw [del_ne (fun z => by rw [z, hp] at h; cases h)]; exact h) (DqAll.off hp t (by cases n; assumption))
  | _, _, .tup h t, n => .tup (by rw [del_ne (fun z => by rw [z, hp] at h; cases h)]; exact h) (DqAll.off hp t (by cases n; assumption))
  | _, _, .dct h t, n => by cases n
theorem DqAll.off {H : Hp} {p : Addr} {kv : List (Key × V)} (hp : H p = some (.dK kv)) : ∀ {vs : List V} {ds : List PyData}, DqAll H vs ds → NdAll ds → DqAll (del H p) vs ds
  | _, _, .nil, _ => .nil
  | _, _, .cons h t, n => .cons (Dq.off hp h (by cases n; assumption)) (DqAll.off hp t (by cases n; assumption))
end
end Ol

set_option Elab.async false
set_option linter.all false
set_option maxRecDepth 100000
set_option maxHeartbeats 4000000
namespace Ol
open PySem PySem.Spec PyProof.Rows L2
/-- data not in a list of data -/
def rNotInQ : R2 := fun x y H Q => ∃ d ds, Sys H ∧ Dq H x d ∧ Dq H y (.list ds) ∧ SeqAt.shaped d = true ∧ SeqAt.shaped (.list ds) = true ∧ Q (.bl (!ds.any fun z => PyData.eqv z d)) H
theorem op_notInQ {X : Cx} (hu : X.A.units + 65 < cLine) : OpR X (compareOp .NotIn) rNotInQ := by
  intro pins s σ H x y v u Q I rx ry h
  obtain ⟨d, ds, S, hd, he, sd, se, q⟩ := h
  obtain ⟨as, r1, _⟩ := Dq.reads I S hd rx
  obtain ⟨bs, r2, _⟩ := Dq.reads I S he ry
  exact SeqAt.notIn_list_reads r2 r1 (SeqAt.canLay_of_shaped se) (SeqAt.canLay_of_shaped sd) (room_in_shaped sd hu) ⟨.bl _, H, I, rfl, q⟩
end Ol

set_option Elab.async false
set_option linter.all false
set_option maxRecDepth 100000
set_option maxHeartbeats 4000000
namespace Ol
open PySem PySem.Spec PyProof.Rows L2
/-- a class catches its own errors -/
theorem exm_same {K : PySem.W.Frag} {S : Addr} (q1 : PySem.W.subIn K (.ref S) (.type "BaseException") = some true) (q2 : PySem.W.isClsIn K S = true)
    (q3 : PySem.W.typeIn K (.ref S) = some (.type "type")) (q4 : PySem.W.subIn K (.ref S) (.ref S) = some true) : PySem.W.exmOne K (.ref S) (.ref S) = some true := by
  have q5 : (PySem.W.clsIn K S).isSome = true := q2
  unfold PySem.W.exmOne
  simp [PySem.W.kitCls, q1, q3, q4, q5]
end Ol

set_option Elab.async false
set_option linter.all false
set_option maxRecDepth 100000
set_option maxHeartbeats 4000000
namespace Ol
open PySem PySem.Spec PyProof.Rows L2
/-- isinstance(e, c): e the error with fields that the suite holds, c a class of the program -/
def rIsX (K : PySem.W.Frag) (a : Addr) (cls : Value) (d : Option Addr) : List V → Hp → VK → Prop := fun xs H Q => ∃ (D c dd : Addr) (fs : List (Str × V)) (b : Bool), xs = [.ref a, .ref c] ∧ cls = .ref D ∧ ExcC K D ∧ d = some dd ∧ H dd = some (.xd fs) ∧
  PySem.W.kitOne K (.ref D) (.ref c) = some b ∧ Q (.bl b) H
theorem call_isX {X : Cx} {a : Addr} {cls : Value} {d : Option Addr} {oe : Obj} {pn : List (Addr × Obj)} (hz : Zc cls d oe) (hf : ∃ vs, oe.data = .fields vs) : CallR (X.suite a ((a, oe) :: pn)) (.builtin "isinstance") (rIsX X.K a cls d) := by
  intro pins s σ H xs us Q I r h
  obtain ⟨D, c, dd, fs, b, rfl, rfl, T, rfl, hdd, e, q⟩ := h
  cases r with
  | cons rx rr =>
    cases rr with
    | cons rt rr =>
      cases rr
      cases rx
      cases rt
      obtain ⟨hget, _⟩ := I.pin (a, oe) (List.mem_append.mpr (.inl List.mem_cons_self))
      obtain ⟨vs, hd⟩ := hf
      have hx : ObjOk X.prog X.w H s.heap dd (.xd fs) := I.hok dd _ hdd
      obtain ⟨mA, hns, hr⟩ := hx
      obtain ⟨od, ho, hl⟩ := lookIn_ns hns
      have J : PySem.W.InstAt s.heap a oe D (some od) := ⟨hget, hz.1, by unfold PySem.W.notCls; rw [hd] <;> rfl, by rw [hz.2]; exact ho⟩
      obtain ⟨cd, hcd, _⟩ := PySem.W.any_some T.hd
      exact PySem.W.kia_one (PySem.W.kitx_exc (by rw [hcd]; rfl) T.hg T.hk T.hs T.ha T.hn T.ht T.hm) I.kIn J e (fun z => nomatch z) fun tk => ⟨.bl b, H, I.kept (t' := tk) fun _ _ z => z, rfl, q⟩
end Ol

set_option Elab.async false
set_option linter.all false
set_option maxRecDepth 100000
set_option maxHeartbeats 8000000
namespace Ol
open PySem PySem.Spec PyProof.Rows L2
/-- how many different texts there are -/
def many : List Str → Nat
  | [] => 0
  | x :: xs => if x ∈ xs then many xs else many xs + 1
/-- among the first i -/
def firstN (xs : List Str) : Nat → Nat
  | 0 => 0
  | i + 1 => if xs.getD i Str.empty ∈ xs.take i then firstN xs i else firstN xs i + 1
theorem firstN_le (xs : List Str) : ∀ i, firstN xs i ≤ i
  | 0 => Nat.le_refl _
  | i + 1 => by
    have h := firstN_le xs i
    unfold firstN
    split <;> omega
theorem firstN_nodup {xs : List Str} (hd : xs.Nodup) : ∀ i, i ≤ xs.length → firstN xs i = i
  | 0, _ => rfl
  | i + 1, h => by
    unfold firstN
    rw [firstN_nodup hd i (by omega), if_neg]
    intro z
    rw [List.getD_eq_getElem?_getD, List.getElem?_eq_getElem (by omega)] at z
    obtain ⟨j, hj, e⟩ := List.getElem_of_mem z
    rw [List.length_take] at hj
    rw [List.getElem_take] at e
    exact List.pairwise_iff_getElem.mp hd j i (by omega) (by omega) (by omega) e
section
variable {prog : Program} {w : World} {A : Around} {R : Result → Shared → Prop} {I : Addr} {fp wr : List Addr} {G : Array GenState → Array GenState → Prop} {n : Nat} {P : Nat → Value → Prop} {St : Nat → Shared → Prop}
/-- the set T takes the texts that a walk yields, one by one -/
theorem fill (W : WalksS prog w A.in1 I fp wr G n P St) {T : Addr} (hT : T ∉ fp) {xs : List Str} (hn : n + 1 < scanBound) (hv : ∀ i v, P i v → ∃ u, v = .str (xs.getD i Str.empty) u) (hx : xs.length = n) :
    ∀ (m i : Nat) (s : Shared), m + i = n → St i s → s.heap.SetOf (PySem.strKind prog w) T (fun t => decide (t ∈ xs.take i)) (firstN xs i) →
      (∀ s', Moved (T :: wr) G s s' → s'.heap.SetOf (PySem.strKind prog w) T (fun t => decide (t ∈ xs.take n)) (firstN xs n) → R (.ok (.ret .none)) s') →
      codeAny (model prog w) A (.builtin "set.update.loop" ⟨[.ref T, .ref I], []⟩) R s := by
  have nT : T ∉ wr := fun z => hT (W.sub _ z)
  have more : ∀ b ∈ wr, b ∈ T :: wr := fun b z => .tail _ z
  -- what stands at T stays while the walk goes on
  have stay : ∀ {s s' : Shared} {S : Str → Bool} {c : Nat}, Moved wr G s s' → s.heap.SetOf (PySem.strKind prog w) T S c → s'.heap.SetOf (PySem.strKind prog w) T S c :=
    fun mv ⟨o, es, ep, tb, get, r⟩ => ⟨o, es, ep, tb, mv.heap T _ nT get, r⟩
  intro m
  induction m with
  | zero =>
    intro i s e st set go
    obtain rfl : i = n := by omega
    apply codeAny_builtin PyProof.Rows.F.entry_set_update_loop
    rw [Around.under_plainId PyProof.Rows.F.plain_set_update_loop _]
    apply wpAny_bind (m := pyNext (.ref I))
    exact W.done s _ _ st fun s' mv => wpAny_pure (go s' (mv.mono more) (stay mv set))
  | succ m ih =>
    intro i s e st set go
    have lt : i < n := by omega
    apply codeAny_builtin PyProof.Rows.F.entry_set_update_loop
    rw [Around.under_plainId PyProof.Rows.F.plain_set_update_loop _]
    apply wpAny_bind (m := pyNext (.ref I))
    refine W.item i s _ _ lt st fun v s1 pv st1 mv => ?_
    obtain ⟨u, rfl⟩ := hv i v pv
    have set1 := stay mv set
    apply wpAny_bind (m := holding [Value.str (xs.getD i Str.empty) u] (setAdd T (.str (xs.getD i Str.empty) u)))
    apply wpAny_holding
    unfold setAdd
    apply wpAny_holding
    apply wpAny_bind
    apply (PySem.strKind prog w).pyHash (k := xs.getD i Str.empty) (strKind_is _ _ _ _)
    apply wpAny_setAddHashed_of (s := { s1 with toks := s1.toks + 1 }) (knd := PySem.strKind prog w) (strKind_is _ _ _ _) rfl set1 (by have := firstN_le xs i; omega)
    intro h' but set2
    have set3 : h'.SetOf (PySem.strKind prog w) T (fun t => decide (t ∈ xs.take (i + 1))) (firstN xs (i + 1)) := by
      have tk : xs.take (i + 1) = xs.take i ++ [xs.getD i Str.empty] := by
        rw [List.take_add_one, List.getD_eq_getElem?_getD, List.getElem?_eq_getElem (by omega)]
        rfl
      apply SetOf_congr set2
      · intro t
        rw [tk]
        by_cases a : t ∈ xs.take i <;> by_cases b : t = xs.getD i Str.empty <;> simp [a, b]
      · show _ = if _ then _ else _
        by_cases a : xs.getD i Str.empty ∈ xs.take i <;> simp [a]
    apply wpAny_pure
    refine ⟨plainId_quiet PyProof.Rows.F.plain_set_update_loop _, ih (i + 1) _ (by omega) (W.frame _ s1 _ _ st1 (Nat.le_succ _) ?_) set3 ?_⟩
    · intro b hb o get
      have ne : b ≠ T := fun z => hT (z ▸ hb)
      rw [but.2 b ne]
      exact get
    · intro s2 mv2 set4
      refine go s2 (Moved.trans W.gtrans ((mv.mono more).then_heap (Nat.le_succ _) ?_) mv2) set4
      intro b o nb get
      have ne : b ≠ T := fun z => nb (z ▸ .head _)
      rw [but.2 b ne]
      exact get
end
end Ol

set_option Elab.async false
set_option linter.all false
set_option maxRecDepth 100000
set_option maxHeartbeats 16000000
namespace Ol
open PySem PySem.Spec PyProof.Rows L2
/-- an empty set, as it is laid -/
abbrev bare (led : Bool) : Obj := { cls := .type "set", dict := none, data := .set #[] 0 (.fresh 0 0 led) }
theorem texts_at : ∀ {us : List Value} {xs : List Str}, StrsAre us xs → ∀ (i : Nat) (v : Value), us[i]? = some v → ∃ u, v = .str (xs.getD i Str.empty) u
  | _, _, .nil, _, _, h => nomatch h
  | _, _, .cons _ t _, 0, _, h => ⟨t, (Option.some.inj h).symm⟩
  | _, _, .cons _ _ r, i + 1, v, h => texts_at r i v h
section
variable {prog : Program} {w : World} {A : Around} {E : Value → Shared → Prop} {s : Shared}
/-- set(xs), xs a list of texts -/
theorem set_texts {l : Addr} {items : Array Value} {xs : List Str} {Q : Value → Shared → Prop} (calm : A.handled = none) (at_l : s.heap.IsList l items) (txt : StrsAre items.toList xs) (few : xs.length + 1 < scanBound)
    (q : ∀ (h' : Heap) (tk : Nat), h'.SetOf (PySem.strKind prog w) s.heap.objs.size (fun t => decide (t ∈ xs)) (firstN xs xs.length) →
      (∀ b o, b < s.heap.objs.size → s.heap.get? b = some o → h'.get? b = some o) → Q (.ref s.heap.objs.size) { s with heap := h', toks := tk }) :
    wpAny (model prog w) A (call (.type "set") [.ref l]) Q E s := by
  have len : items.size = xs.length := by have := StrsAre.len_eq txt; rw [Array.length_toList] at this; exact this
  obtain ⟨at_o, at_get, at_cls, at_n, at_data⟩ := id at_l
  have l_lt := Heap.lt_size at_get
  have t0 := PySem.F.called_set
  have t1 := t0.made; have t2 := t0.sub; have t3 := t0.notType; have t4 := t0.canCreate; have t5 := PySem.F.typeCall_set_1 (.ref l)
  obtain ⟨m0, m1, t6⟩ := t0.mro
  apply wpAny_call; apply codeAny_of_tree
  change wpAny _ _ (callAny (.type "set") _) _ _ _
  apply wpAny_pure; refine And.intro (Code.quiet_builtin _ (by decide +kernel)) (codeAny_builtin PySem.F.entry_type_call ?_)
  rw [Around.under_plain (weight_type_call_type "set" [.ref l] []) rfl]
  repeat any_goals first | assumption | wp_step
  -- the new set
  apply codeAny_mono (code_set_new_1 (.ref l) (E := E) (Q₁ := fun v s1 => ∃ led : Bool, v = .ref s.heap.objs.size ∧ s1 = { s with heap := s.heap.push (bare led) }) fun led => ⟨led, rfl, rfl⟩)
  intro r s1 made
  rcases r with e | f
  · exact made
  cases f with
  | ret v =>
    obtain ⟨led, rfl, rfl⟩ := made
    have at_S : (s.heap.push (bare led)).get? s.heap.objs.size = some (bare led) := Heap.get?_push_size _ rfl
    have ty_S : Shared.TypeIs { s with heap := s.heap.push (bare led) } (.ref s.heap.objs.size) "set" := ⟨_, at_S, rfl⟩
    have t7 := t0.init.lookup; have t8 := t0.init.bind (.ref s.heap.objs.size)
    repeat any_goals first | assumption | wp_step
    let D : Result → Shared → Prop := wants (fun v s2 => v = .none ∧ ∃ h' tk, s2 = { s with heap := h', toks := tk } ∧ h'.SetOf (PySem.strKind prog w) s.heap.objs.size (fun t => decide (t ∈ xs)) (firstN xs xs.length) ∧
      ∀ b o, b < s.heap.objs.size → s.heap.get? b = some o → h'.get? b = some o) E
    apply codeAny_mono (codeAny_call_builtin (R := D) t0.init.plain PySem.F.entry_set_init (check_set_init_1 ty_S ?fills))
    case fills =>
      rcases at_o with ⟨oc, od, dt, sl⟩
      cases at_cls; cases at_data
      have get2 : (s.heap.push (bare led)).get? l = some { cls := .type "list", dict := od, data := .seq items at_n, slots := sl } := Heap.get?_push_of_some _ at_get
      have lst2 : (s.heap.push (bare led)).IsList l items := ⟨_, get2, rfl, at_n, rfl⟩
      have n1 := PySem.F.sub_list_set; have n2 := PySem.F.sub_list_frozenset
      have n3 : (Value.type "list" == Value.type "dict") = false := by decide
      unfold Builtin.«set.__init__» noKeywords Builtin.Frozenset.updateFrom
      generalize asks : pyIter = PI
      wp_walk
      subst asks
      apply wpAny_pyIter_list lst2
      apply wpAny_bind; apply wpAny_runValue
      have calm3 : A.in1.in1.in1.handled = none := by simp [calm]
      have grown : (s.heap.push (bare led)).objs.size = s.heap.objs.size + 1 := Heap.size_push ..
      have ne_l : l ≠ (s.heap.push (bare led)).objs.size := Nat.ne_of_lt (grown ▸ Nat.lt_succ_of_lt l_lt)
      have out : s.heap.objs.size ∉ [(s.heap.push (bare led)).objs.size, l] := fun z => by
        rw [grown] at z
        rcases List.mem_cons.mp z with z | z
        · exact Nat.ne_of_lt (Nat.lt_succ_self _) z
        · exact Nat.ne_of_gt l_lt (List.mem_singleton.mp z)
      refine fill ((Walks.list calm3 _ l ne_l items).toS) out (xs := xs) (by omega) (fun i v z => texts_at txt i v (by rw [Array.getElem?_toList]; exact z)) len.symm items.size 0 _ (by omega) ⟨⟨_, Heap.get?_push_size _ rfl, rfl, rfl⟩, lst2.push _⟩ ?start ?stop
      case start =>
        have fresh := setObjOf_fresh (knd := PySem.strKind prog w) led
        exact SetOf_congr (fresh.setOf (Heap.get?_push_of_some _ at_S) (by decide)) (fun t => by simp) rfl
      case stop =>
        rintro ⟨h', gens, drawn, toks, os⟩ mv set
        cases (show gens = s.gens from mv.gens)
        cases (show drawn = s.drawn from mv.drawn)
        cases (show os = s.os from mv.os)
        refine wpAny_pure (wpAny_pure ⟨rfl, h', toks, rfl, ?_, ?_⟩)
        · rw [len, List.take_length] at set
          exact set
        · intro b o lt get
          apply mv.heap b o
          · intro z
            rw [grown] at z
            rcases List.mem_cons.mp z with z | z
            · exact Nat.ne_of_lt lt z
            · exact Nat.ne_of_lt (Nat.lt_succ_of_lt lt) (List.mem_singleton.mp z)
          · exact Heap.get?_push_of_some _ (Heap.get?_push_of_some _ get)
    intro r2 s2 filled
    rcases r2 with e | f2
    · exact filled
    cases f2 with
    | ret v2 =>
      obtain ⟨rfl, h', tk, rfl, set, keep⟩ := filled
      repeat any_goals first | assumption | wp_step
      exact q _ _ set keep
    | _ => exact filled.elim
  | _ => exact made.elim
end
end Ol

set_option Elab.async false
set_option linter.all false
set_option maxRecDepth 100000
set_option maxHeartbeats 4000000
namespace Ol
open PySem PySem.Spec PyProof.Rows L2
/-- len(set(xs)), xs a list of texts: how many different ones -/
def tLenT (K : PySem.W.Frag) (ta : TE) : TE := fun σ H Q => ta σ H fun x H1 => ∃ (l : Addr) (xs : List Str), x = .ref l ∧ SqL K H1 l (xs.map V.str) ∧ xs.length ≤ 1000 ∧ Q (.int (firstN xs xs.length)) H1
theorem texts_of : ∀ {xs : List Str} {us : List Value}, Vals (xs.map V.str) us → StrsAre us xs
  | [], _, .nil => .nil
  | x :: xs, _, .cons r t => by
    obtain ⟨u, rfl⟩ := r
    exact .cons x u (texts_of t)
theorem pe_lenT {X : Cx} {a : Expr} {ta : TE} {p p2 q pos : Pos} (calm : X.calm = true) (gl : Gl X "len") (ml : X.mg "len" = none) (gs : Gl X "set") (ms : X.mg "set" = none) (pa : PE X a ta)
    (st : starEach [a] X.env = (false, eval a X.env) :: starEach [] X.env := by rfl) : PE X (.Call (.Name "len" p) [.Call (.Name "set" p2) [a] [] q] [] pos) (tLenT X.K ta) := by
  constructor
  intro pins s σ H Q I h
  refine Call_ (ld_blt I gl ml boot_len (callWith_builtin1 (args_cons ?_ rfl) rfl rfl))
  refine Call_ (ld_blt I gs ms boot_set (callWith_type1 (args_cons (thn (pa.run pins s σ H _ I h) ?_) st) st rfl))
  rintro v s1 ⟨x, H1, I1, rx, l, xs, rfl, sq, few, fin⟩
  refine args_nil ?_
  cases rx
  obtain ⟨its, vals, place, _⟩ := I1.list sq
  refine set_texts (I1.ok.hd calm) place.isList (texts_of vals) (Nat.lt_of_le_of_lt (Nat.succ_le_succ few) (by decide)) fun h' tk set keep => ?_
  refine args_nil ?_
  obtain ⟨o, es, ep, tb, get, exact_, data, _, _, _, fits, cnt⟩ := set
  have I2 : Inv X pins σ H1 { s1 with heap := h', toks := tk } := I1.kept fun b o e => keep b o (Heap.lt_size e) e
  have small : (es.size : Int) < 2 ^ 63 := by
    have := firstN_le xs xs.length
    omega
  exact call_len_set get exact_ data fits small ⟨.int (firstN xs xs.length), H1, I2.tok _, ⟨_, by rw [cnt]⟩, fin⟩
/-- a class held by a name of the def: cls(..) -/
def tMakeL (i : Nat) (C : Addr) (sp : Sp) (E : XK) (t : TA) : TE := fun σ H Q => σ[i]? = some (some (.ref C)) ∧ tMake C sp [] E t σ H Q
theorem pe_makeL {X : Cx} {CX : CXT} {k i : Nat} {f C : Addr} {fd : FuncData} {ps : List Str} {sp : Sp} {E : XK} {x : Str} {p pos : Pos} {e : Expr} {es : List Expr} {t : TA} (M : Mk X.K C f) (F : FnOk X.prog X.w X.K X.mg X.base CX k f fd ps sp) (hr : Room (k + 1) X.A)
    (hN : X.N[i]? = some x) (hv : Vis X.env.scope x) (hb : Binds X.K fd ps []) (hx : Passes CX X E) (ha : PA X (e :: es) t)
    (hdb : (x == ("__debug__" : Str)) = false := by decide) (hcd : (x == ("__classdict__" : Str)) = false := by decide)
    (st : starEach (e :: es) X.env = (false, eval e X.env) :: starEach es X.env := by rfl) (sn : (backTo pos (starEach es X.env)).any (·.1) = false := by rfl) : PE X (.Call (.Name x p) (e :: es) [] pos) (tMakeL i C sp E t) := by
  constructor
  rintro pins s σ H Q I ⟨at_i, h⟩
  refine wpAny_Call_Name_kw (thn ((pe_var (pos := p) hN hv hdb hcd).run pins s σ H (fun v H1 => v = .ref C ∧ H1 = H) I ⟨_, at_i, rfl, rfl⟩) ?_)
  rintro u s1 ⟨v, H1, I1, rv, rfl, rfl⟩
  cases rv
  refine PySem.W.callWith_K (h₀ := X.base) I.ok.mod.kin M.kp (thn (ha.run pos pins s1 σ _ _ I1 h) ?_) st sn
  rintro us s2 ⟨vs, H2, I2, r, q⟩
  exact ⟨I2.kIn, run_make M F hr hb .nil hx I2 r q⟩
end Ol

set_option Elab.async false
set_option linter.all false
set_option maxRecDepth 100000
set_option maxHeartbeats 4000000
namespace Ol
open PySem PySem.Spec PyProof.Rows L2
section
open PySem.W
variable {prog : Program} {w : World} {A : Around} {E : Value → Shared → Prop} {s : Shared} {K : PySem.W.Frag} {x C L f : Addr} {h₀ : Heap} {m : Str → Option Value} {ox : Obj} {od : Option Obj} {b tb : Value}
/-- a builtin that the class has under this name, asked of its instance -/
theorem bound_builtin {M : Model} {id : String} {name : Str} {args : List Value} {Q : Option Value → Shared → Prop} (known : K.In s.heap) (inst : InstAt s.heap x ox C od) (has : findIn K (.ref C) name = some (some (.builtin id)))
    (bnd : ∀ self, bindSpecial (.builtin id) self = pure (.builtin id, [self])) (asked : wpAny M A (call (.builtin id) (.ref x :: args)) (fun v => Q (some v)) E s) : wpAny M A (callSpecialIfBound? (.ref x) name args) Q E s := by
  have after : wpAny M A (call (.builtin id) ([.ref x] ++ args) >>= fun v => pure (some v)) Q E s :=
    wpAny_bind (wpAny_mono asked (fun v s2 ok => wpAny_pure ok) fun _ _ bad => bad)
  unfold callSpecialIfBound? bindSpecialIfBound?
  apply wpAny_holding
  apply wpAny_bind; apply wpAny_bind
  unfold specialOf
  apply wpAny_bind
  apply inst.type.here
  apply (looks_findIn known has).here
  simp only [bnd]
  apply wpAny_bind
  apply wpAny_askSetting
  apply wpAny_ite
  split
  case isTrue => exact wpAny_bind <| wpAny_pure <| wpAny_pure after
  case isFalse => exact wpAny_tryCatch <| wpAny_bind <| wpAny_pure <| wpAny_pure after
/-- x != y by the default, the class having its own __eq__ -/
theorem ne_own {Q : Value → Shared → Prop} (room : A.units + 1 < cLine) (fr : Fr h₀ L s.heap m) (kn : K.In h₀) (inst : InstAt s.heap x ox C od) (kind : Looks (model prog w) s.heap (typeOf b) tb) (nf : notFirst K C tb = true)
    (own : findIn K (.ref C) "__eq__" = some (some (.ref f))) (fn : isFn K (.ref f) = true) (dflt : findIn K (.ref C) "__ne__" = some (some (.builtin "object.__ne__"))) (top : subIn K (.ref C) (.type "object") = some true)
    (told : wpAny (model prog w) A.in1 (call (.ref f) [.ref x, b]) (fun v s' => ∃ r, v = .bool r ∧ Q (.bool (!r)) s') E s) : wpAny (model prog w) A (richCompare .NotEq (.ref x) b) Q E s := by
  have known := kn.keeps fr.keep
  have deep : A.in1.units < cLine := room
  have tried : wpAny (model prog w) A (tryCompare (.ref x) (cmpInfo .NotEq).2.1 b) (fun got s' => ∃ v, got = some v ∧ Q v s') E s := by
    unfold tryCompare
    apply wpAny_bind
    apply bound_builtin (name := (cmpInfo .NotEq).2.1) known inst dflt PySem.F.cmp_object.ne.bind
    apply wpAny_call
    apply codeAny_call_builtin PySem.F.cmp_object.ne.plain PySem.F.cmpEntry_ne
    apply check_slot PySem.F.cmpKind_ne PySem.F.cmpSplit_ne (inst.type.andThen (looks_subIn known top)) (PySem.F.cmpArgs_ne _ _)
    unfold Builtin.«object.__ne__»
    repeat (first
      | with_reducible refine wpAny_cRoomFor deep ?_
      | (refine wpAny_bind (m := callSpecialIfBound? (.ref x) (Str.ofString "__eq__") [b]) (ifBound_K known inst own fn (wpAny_mono told (fun got s2 yes => ?_) fun _ _ bad => bad)))
      | wp_step)
    obtain ⟨r, rfl, fin⟩ := yes
    repeat (first | exact wpAny_pure ⟨_, rfl, fin⟩ | exact wpAny_truthy_bool fin | (refine wpAny_bind (m := truthy (.bool _)) (wpAny_truthy_bool ?_)) | wp_step)
  unfold richCompare
  simp only [oneThing_ref]
  apply wpAny_holding
  apply wpAny_bind; apply wpAny_cRoomFor (Nat.lt_of_succ_lt room)
  apply wpAny_bind; apply inst.type.here
  apply wpAny_bind; apply kind.here
  have last : ∀ {α : Type} {k : Option Value → Sem α} {Z : α → Shared → Prop}, (∀ v s2, Q v s2 → wpAny (model prog w) A (k (some v)) Z E s2) → wpAny (model prog w) A (tryCompare (.ref x) (cmpInfo .NotEq).2.1 b >>= k) Z E s := fun go =>
    wpAny_bind (wpAny_mono tried (fun got s2 ⟨v, eg, fin⟩ => eg ▸ go v s2 fin) fun _ _ bad => bad)
  by_cases same : (Value.ref C != tb) = true
  · have no : subIn K tb (.ref C) = some false := by
      unfold notFirst at nf
      rw [Bool.or_eq_true, beq_iff_eq, beq_iff_eq] at nf
      rcases nf with z | z
      · rw [z] at same
        simp at same
      · exact z
    rw [if_pos same]
    apply wpAny_bind
    apply (looks_subIn known no).here
    rw [if_neg (by decide)]
    exact last fun v s2 fin => wpAny_pure fin
  · rw [if_neg same]
    apply wpAny_bind
    apply wpAny_pure
    rw [if_neg (by decide)]
    exact last fun v s2 fin => wpAny_pure fin
end
/-! ### x == y, x != y, len(x): x an instance of a class with its own __eq__, __len__ -/
/-- the class has no != of its own -/
structure NeC (K : PySem.W.Frag) (C : Addr) : Prop where
  ne : PySem.W.findIn K (.ref C) "__ne__" = some (some (.builtin "object.__ne__"))
  ob : PySem.W.subIn K (.ref C) (.type "object") = some true
def rEqO (K : PySem.W.Frag) (C : Addr) (g : Bool → Bool) (sp : Sp) : R2 := fun x y H Q => ∃ (a dx : Addr) (fs : List (Str × V)) (t : Value), x = .ref a ∧ H a = some (.ins C dx fs) ∧ TyX K H y t ∧ PySem.W.notFirst K C t = true ∧
  sp [.ref a, y] H (fun v H' => ∃ r, v = .bl r ∧ Q (.bl (g r)) H') E0
def rLenO (C : Addr) (sp : Sp) : List V → Hp → VK → Prop := fun vs H Q => ∃ (a dx : Addr) (fs : List (Str × V)), vs = [.ref a] ∧ H a = some (.ins C dx fs) ∧ sp [.ref a] H (fun v H' => ∃ n : Int, v = .int n ∧ 0 ≤ n ∧ n < 2 ^ 63 ∧ Q (.int n) H') E0
section
variable {X : Cx} {k : Nat} {C f : Addr} {fd : FuncData} {ps : List Str} {sp : Sp}
/-- a def called one level deeper -/
theorem run_deep {pins : List (Addr × Obj)} {σ : L2.St} {H : Hp} {s : Shared} {Q : VK} {us : List Value} {vs : List V} {Z : Value → Shared → Prop} (F : FnOk X.prog X.w X.K X.mg X.base CX0 k f fd ps sp) (hr : Room (k + 1) X.A) (hb : Binds X.K fd ps [])
    (I : Inv X pins σ H s) (r : Vals vs us) (h : sp vs H Q E0) (z : ∀ v s', EP X pins σ Q v s' → Z v s') : wpAny (model X.prog X.w) X.A.in1 (call (.ref f) us) Z X.xe s := by
  have many : us.length = ps.length := r.length.symm.trans (F.len _ _ _ _ h)
  refine wpAny_call (codeAny_mono (F.run X.A.in1 X.stack s H ⟨us, []⟩ us vs Q E0 hr.in1 I.env0.in1 (by
    have := hb s us I.kIn (by simpa using many)
    simpa using this) r h) fun r s' hq => ?_)
  cases r with
  | error e => exact pass0 pins σ H s e s' I hq
  | ok fl =>
    cases fl with
    | ret u => exact z u s' (I.after hq)
    | next => exact False.elim hq
    | brk => exact False.elim hq
    | cont => exact False.elim hq
theorem op_eqO (M : Cm X.prog X.w X.K X.mg X.base C k "__eq__" ps sp) (hr : Room k X.A) : OpR X (compareOp .Eq) (rEqO X.K C id sp) := by
  obtain ⟨f, fd, F, hm, b⟩ := M.has
  intro pins s σ H x y v u Q I rx ry h
  obtain ⟨a, dx, fs, t, rfl, ho, ty, nf, h⟩ := h
  cases (show v = Value.ref a from rx)
  obtain ⟨mA, O, _⟩ := ins_get I.hok ho
  obtain ⟨od, J, _⟩ := O.look
  obtain ⟨m, fr⟩ := I.fr
  obtain ⟨PP, Z, pz, _⟩ := kit_of I ry ty
  refine PySem.W.cmp_ofEq (PySem.W.cmp_K (op := .Eq) (tb := t) hr.units0 fr I.ok.mod.kin J (Z.ty _ _ I.kIn pz) nf hm.at_ hm.fn ?_)
  refine wpAny_mono (run_fn (us := [.ref a, u]) (vs := [.ref a, y]) (E := E0) F hr b .nil pass0 I (.cons rfl (.cons ry .nil)) h) ?_ (fun _ _ z => z)
  rintro r s' ⟨w, H', I', rw', b', rfl, q⟩
  cases (show r = Value.bool b' from rw')
  exact ⟨.bl b', H', I', rfl, q⟩
theorem op_neO (M : Cm X.prog X.w X.K X.mg X.base C k "__eq__" ps sp) (N : NeC X.K C) (hr : Room (k + 1) X.A) : OpR X (compareOp .NotEq) (rEqO X.K C not sp) := by
  obtain ⟨f, fd, F, hm, b⟩ := M.has
  intro pins s σ H x y v u Q I rx ry h
  obtain ⟨a, dx, fs, t, rfl, ho, ty, nf, h⟩ := h
  cases (show v = Value.ref a from rx)
  obtain ⟨mA, O, _⟩ := ins_get I.hok ho
  obtain ⟨od, J, _⟩ := O.look
  obtain ⟨m, fr⟩ := I.fr
  obtain ⟨PP, Z, pz, _⟩ := kit_of I ry ty
  refine PySem.W.cmp_ofNotEq (ne_own (tb := t) (by have := hr.un; omega) fr I.ok.mod.kin J (Z.ty _ _ I.kIn pz) nf hm.at_ hm.fn N.ne N.ob ?_)
  refine run_deep (us := [.ref a, u]) (vs := [.ref a, y]) F hr b I (.cons rfl (.cons ry .nil)) h fun v s' z => ?_
  obtain ⟨w, H', I', rw', b', rfl, q⟩ := z
  cases (show v = Value.bool b' from rw')
  exact ⟨b', rfl, .bl (!b'), H', I', rfl, q⟩
theorem call_lenO (M : Cm X.prog X.w X.K X.mg X.base C k "__len__" ps sp) (hr : Room (k + 1) X.A) : CallR X (.builtin "len") (rLenO C sp) := by
  obtain ⟨f, fd, F, hm, b⟩ := M.has
  intro pins s σ H xs us Q I r h
  obtain ⟨a, dx, fs, rfl, ho, h⟩ := h
  obtain ⟨u, rfl, ru⟩ := vals1 r
  cases (show u = Value.ref a from ru)
  obtain ⟨mA, O, _⟩ := ins_get I.hok ho
  obtain ⟨od, J, _⟩ := O.look
  obtain ⟨m, fr⟩ := I.fr
  refine PySem.W.len_K fr I.ok.mod.kin J hm.at_ hm.fn ?_
  refine run_deep (us := [.ref a]) (vs := [.ref a]) F hr b I (.cons rfl .nil) h fun v s' z => ?_
  obtain ⟨w, H', I', rw', n, rfl, n0, n1, q⟩ := z
  obtain ⟨t, rfl⟩ := (show ∃ t, v = Value.int n t from rw')
  exact ⟨⟨n0, n1⟩, .int n, H', I'.tok _, ⟨_, rfl⟩, q⟩
end
end Ol

set_option Elab.async false
set_option linter.all false
set_option maxRecDepth 100000
set_option maxHeartbeats 4000000
namespace Ol
open PySem PySem.Spec PyProof.Rows L2
/-! ### sorted of pairs of a text and an int -/
theorem cps_inj {a b : Str} (e : a.cps.toList = b.cps.toList) : a = b := by
  cases a with | mk a => cases b with | mk b =>
    have e2 : a = b := Array.toList_inj.mp e
    rw [e2]
theorem lt_irr (a : List Nat) : ltCps a a = false := by rw [ltCps_eq]; exact decide_eq_false (List.lt_irrefl a)
/-- by the text, then by the int -/
def lexT (p q : Str × Int) : Bool := if p.1 = q.1 then decide (p.2 < q.2) else ltCps p.1.cps.toList q.1.cps.toList
theorem lexT_eq {p q : Str × Int} (h : p.1 = q.1) : lexT p q = decide (p.2 < q.2) := if_pos h
theorem lexT_ne {p q : Str × Int} (h : ¬ p.1 = q.1) : lexT p q = ltCps p.1.cps.toList q.1.cps.toList := if_neg h
theorem lt_asym {a b : List Nat} (h : ltCps a b = true) : ltCps b a = false := by
  rw [ltCps_eq] at h ⊢
  exact decide_eq_false fun z => List.lt_irrefl a (List.lt_trans (of_decide_eq_true h) z)
theorem lexT_anti {p q : Str × Int} (h1 : lexT p q = false) (h2 : lexT q p = false) : p = q := by
  by_cases e : p.1 = q.1
  · rw [lexT_eq e] at h1
    rw [lexT_eq e.symm] at h2
    have := of_decide_eq_false h1
    have := of_decide_eq_false h2
    exact Prod.ext e (by omega)
  · rw [lexT_ne e] at h1
    rw [lexT_ne (Ne.symm e)] at h2
    exact absurd (cps_inj (lt_anti _ _ h1 h2)) e
theorem swo_lexT {α : Type} (k : α → Str × Int) : SrtO.Swo fun v u => lexT (k v) (k u) := by
  constructor
  · intro x y h
    by_cases e : (k x).1 = (k y).1
    · rw [lexT_eq e] at h
      rw [lexT_eq e.symm]
      have := of_decide_eq_true h
      exact decide_eq_false (by omega)
    · rw [lexT_ne e] at h
      rw [lexT_ne (Ne.symm e)]
      exact lt_asym h
  · intro x y z h1 h2
    by_cases e : (k y).1 = (k x).1
    · by_cases e2 : (k z).1 = (k y).1
      · rw [lexT_eq e] at h1
        rw [lexT_eq e2] at h2
        rw [lexT_eq (e2.trans e)]
        have := of_decide_eq_false h1
        have := of_decide_eq_false h2
        exact decide_eq_false (by omega)
      · rw [lexT_ne (e ▸ e2), ← e]
        rw [lexT_ne e2] at h2
        exact h2
    · by_cases e2 : (k z).1 = (k y).1
      · rw [lexT_ne (e2 ▸ e), e2]
        rw [lexT_ne e] at h1
        exact h1
      · rw [lexT_ne e] at h1
        rw [lexT_ne e2] at h2
        have h3 := lt_trans _ _ _ h1 h2
        by_cases e3 : (k z).1 = (k x).1
        · rw [e3] at h2
          exact absurd (cps_inj (lt_anti _ _ h1 h2)) e
        · rw [lexT_ne e3]
          exact h3
/-- at this value stands a tuple of this text and this int -/
def AtPair (h : Heap) (v : Value) (p : Str × Int) : Prop := ∃ (c : Addr) (ob : Obj) (tx ti : Tok) (ep : Nat), v = .ref c ∧ h.get? c = some ob ∧ ob.cls = .type "tuple" ∧ ob.data = .seq #[.str p.1 tx, .int p.2 ti] ep
theorem AtPair.stays {h h' : Heap} {v : Value} {p : Str × Int} (keep : ∀ c ob, h.get? c = some ob → ob.cls = .type "tuple" → h'.get? c = some ob) : AtPair h v p → AtPair h' v p
  | ⟨c, ob, tx, ti, ep, ev, got, kind, data⟩ => ⟨c, ob, tx, ti, ep, ev, keep c ob got kind, kind, data⟩
/-- the texts that the tuples begin with -/
theorem begin_with {h : Heap} {k : Value → Str × Int} : ∀ {vs : List Value}, (∀ v ∈ vs, AtPair h v (k v)) → ∃ fs : List Value, PySem.W.KatTups h vs fs ∧ fs.length = vs.length ∧ ∀ f ∈ fs, ∃ x t, f = Value.str x t
  | [], _ => ⟨[], .nil, rfl, by simp⟩
  | v :: vs, all => by
    obtain ⟨fs, kat, len, txt⟩ := begin_with (vs := vs) (k := k) fun u mu => all u (.tail _ mu)
    obtain ⟨c, ob, tx, ti, ep, ev, got, kind, data⟩ := all v (.head _)
    rw [ev]
    refine ⟨.str (k v).1 tx :: fs, .cons got kind data rfl kat, by simp [len], ?_⟩
    intro f mf
    cases mf with
    | head => exact ⟨_, _, rfl⟩
    | tail _ mf => exact txt f mf
section
variable {prog : Program} {w : World} {A : Around} {s : Shared}
theorem pair_less {vs : List Value} {k : Value → Str × Int} (all : ∀ v ∈ vs, AtPair s.heap v (k v)) : SrtO.Cmp prog w A s (tuples' true) (fun p => p.1 ∈ vs) (SrtO.lt2 fun v u => lexT (k v) (k u)) := by
  rintro ⟨v, v2⟩ ⟨u, u2⟩ mv mu
  show wpAny (model prog w) A (keyLt' (tuples' true) v u) (fun r s2 => s2 = s ∧ r = lexT (k v) (k u)) (fun _ _ => False) s
  obtain ⟨cv, ov, xv, iv, pv, ev, gv, _, dv⟩ := all v mv
  obtain ⟨cu, ou, xu, iu, pu, eu, gu, _, du⟩ := all u mu
  generalize k v = p at *
  generalize k u = q at *
  rw [ev, eu]
  apply PySem.W.kat_lt gv dv gu du
  show PySem.W.KatLex prog w A true (decide (2 < 2)) _ [(.str p.1 xv, .str q.1 xu), (.int p.2 iv, .int q.2 iu)] 0 s
  apply PySem.W.kat_cons
  apply SeqAt.EqAt.str_str
  apply PySem.W.kat_go
  · intro g
    have same : p.1 = q.1 := by simpa using g
    rw [lexT_eq same]
    apply PySem.W.kat_yes
    apply PySem.W.kat_cons
    apply SeqAt.EqAt.int_int
    apply PySem.W.kat_go
    · intro g2
      have same2 : p.2 = q.2 := by simpa using g2
      apply PySem.W.kat_yes
      apply PySem.W.kat_nil
      exact ⟨rfl, (decide_eq_false (by omega)).symm⟩
    · intro _
      apply PySem.W.kat_no
      apply PySem.W.kat_one
      apply PyProof.Rows.lt_int
      exact ⟨rfl, rfl⟩
  · intro g
    have other : ¬ p.1 = q.1 := by simpa using g
    rw [lexT_ne other, ltCps_eq]
    apply PySem.W.kat_no
    apply oneLt_str
    exact ⟨rfl, rfl⟩
theorem pairs_sort {a : Addr} {vs : List Value} {k : Value → Str × Int} (some_ : 0 < vs.length) (all : ∀ v ∈ vs, AtPair s.heap v (k v)) (lst : ∀ ob, s.heap.get? a = some ob → ob.cls ≠ .type "tuple") : SrtO.SortableO prog w A s a vs fun v u => lexT (k v) (k u) := by
  intro h2 keep
  have all2 : ∀ v ∈ vs, AtPair h2 v (k v) := fun v mv => (all v mv).stays fun c ob got kind => keep c ob (fun z => lst ob (z ▸ got) kind) got
  obtain ⟨fs, kat, len, txt⟩ := begin_with all2
  refine ⟨tuples' true, ?_, pair_less all2⟩
  intro Q E fin
  apply PySem.W.kat_kind (T := .type "str") kat (len ▸ some_)
  · intro f mf
    obtain ⟨x, t, rfl⟩ := txt f mf
    exact .now
  · rfl
  · rw [show (Value.type "str" != Value.type "tuple") = true by decide +kernel]
    exact fin
end
/-- sorted(xs), xs a list of pairs of a text and an int: a new list of the same, sorted -/
def rSortT (K : PySem.W.Frag) : List V → Hp → VK → Prop := fun vs H Q => ∃ (a : Addr) (xs : List V) (k : V → Str × Int), vs = [V.ref a] ∧ SqL K H a xs ∧ (∀ x ∈ xs, ∃ t, x = V.ref t ∧ H t = some (.tup [.str (k x).1, .int (k x).2])) ∧
  ∀ ys p, ys.Perm xs → ys.Pairwise (fun x y => lexT (k y) (k x) = false) → H p = none → Q (.ref p) (upd H p (.lst ys))
theorem call_sortT {X : Cx} : CallR X (.builtin "sorted") (rSortT X.K) := by
  rintro pins s σ H vs us Q I r ⟨a, xs, k, rfl, sq, prs, fin⟩
  obtain ⟨u, rfl, ru⟩ := vals1 r
  cases (show u = Value.ref a from ru)
  obtain ⟨its, rel, place, size⟩ := I.list sq
  obtain ⟨back, refs⟩ := refs_back rel fun x mx => (prs x mx).imp fun _ z => z.1
  have raw : ∀ v ∈ its, AtPair s.heap v (k (backV v)) := by
    intro v mv
    obtain ⟨t, rfl⟩ := refs v mv
    obtain ⟨t2, et, ht⟩ := prs (V.ref t) (back ▸ List.mem_map.mpr ⟨_, mv, rfl⟩)
    cases et
    obtain ⟨_, parts, relp, ob, got, kind, ep, data⟩ := I.hok _ _ ht
    obtain ⟨w1, w2, rfl, ⟨y1, rfl⟩, ⟨y2, rfl⟩⟩ := vals2 relp
    exact ⟨t, ob, y1, y2, ep, rfl, got, kind, data⟩
  have len : its.length ≤ sizeLine := rel.length ▸ size
  apply SrtO.sorted_ord (ltv := fun v u => lexT (k (backV v)) (k (backV u))) (swo_lexT (fun v => k (backV v))) place.isList len
  · intro two h2 b gb keep
    apply pairs_sort (k := fun v => k (backV v)) (s := { s with heap := h2 }) (by omega)
    · intro v mv
      exact (raw v mv).stays fun c ob got _ => (keep c ob got).2
    · intro ob got kind
      have eo : some ob = some (seqObj "list" its.toArray 0) := got.symm.trans gb
      cases eo
      exact absurd (Value.type.inj kind) (by decide)
  · intro out so st
    have refs2 : ∀ u ∈ out, ∃ c, u = Value.ref c := fun u mu => refs u (st.perm.mem_iff.mp mu)
    have pm : (out.map backV).Perm xs := back ▸ st.perm.map _
    obtain ⟨ep, made⟩ := sortedAll_at s.heap its out.toArray
    have fits : (out.map backV).length ≤ sizeLine := by rw [pm.length_eq]; exact size
    have I2 := I.laid (a := s.heap.objs.size + 1) (o := .lst (out.map backV)) (t' := s.toks) (fun _ _ => sortedAll_old) (Nat.le_succ _) ⟨fits, out, ep, vals_back refs2, made⟩
    exact ⟨.ref _, _, I2, rfl, fin _ _ pm (List.pairwise_map.mpr so) (I.hok.fresh (Nat.le_succ _))⟩
end Ol

set_option Elab.async false
set_option linter.all false
set_option maxRecDepth 100000
set_option maxHeartbeats 16000000
namespace Ol
open PySem PySem.Spec PyProof.Rows L2
section
variable {prog : Program} {w : World} {A : Around} {E : Value → Shared → Prop} {s : Shared}
/-- set(xs), xs a tuple of texts -/
theorem set_textsT {l : Addr} {items : Array Value} {xs : List Str} {Q : Value → Shared → Prop} (calm : A.handled = none) (at_l : s.heap.IsTuple l items) (txt : StrsAre items.toList xs) (few : xs.length + 1 < scanBound)
    (q : ∀ (h' : Heap) (tk : Nat), h'.SetOf (PySem.strKind prog w) s.heap.objs.size (fun t => decide (t ∈ xs)) (firstN xs xs.length) →
      (∀ b o, b < s.heap.objs.size →
        s.heap.get? b = some o → h'.get? b = some o) →
      Q (.ref s.heap.objs.size) { s with heap := h', toks := tk }) :
    wpAny (model prog w) A (call (.type "set")
      [.ref l]) Q E s := by
  have len : items.size = xs.length := by have := StrsAre.len_eq txt; rw [Array.length_toList] at this; exact this
  obtain ⟨at_o, at_get, at_cls, at_n, at_data⟩ := id at_l
  have l_lt := Heap.lt_size at_get
  have t0 := PySem.F.called_set
  have t1 := t0.made; have t2 := t0.sub; have t3 := t0.notType; have t4 := t0.canCreate; have t5 := PySem.F.typeCall_set_1 (.ref l)
  obtain ⟨m0, m1, t6⟩ := t0.mro
  apply wpAny_call; apply codeAny_of_tree
  change wpAny _ _ (callAny (.type "set") _) _ _ _
  apply wpAny_pure; refine And.intro (Code.quiet_builtin _ (by decide +kernel)) (codeAny_builtin PySem.F.entry_type_call ?_)
  rw [Around.under_plain
    (weight_type_call_type "set" [.ref l] []) rfl]
  repeat any_goals first | assumption | wp_step
  -- the new set
  apply codeAny_mono (code_set_new_1 (.ref l) (E := E) (Q₁ := fun v s1 => ∃ led : Bool, v = .ref s.heap.objs.size ∧ s1 = { s with heap := s.heap.push (bare led) }) fun led => ⟨led, rfl, rfl⟩)
  intro r s1 made
  rcases r with e | f
  · exact made
  cases f with
  | ret v =>
    obtain ⟨led, rfl, rfl⟩ := made
    have at_S : (s.heap.push (bare led)).get? s.heap.objs.size = some (bare led) := Heap.get?_push_size _ rfl
    have ty_S : Shared.TypeIs { s with heap := s.heap.push (bare led) } (.ref s.heap.objs.size) "set" := ⟨_, at_S, rfl⟩
    have t7 := t0.init.lookup; have t8 := t0.init.bind (.ref s.heap.objs.size)
    repeat any_goals first | assumption | wp_step
    let D : Result → Shared → Prop := wants (fun v s2 => v = .none ∧ ∃ h' tk, s2 = { s with heap := h', toks := tk } ∧ h'.SetOf (PySem.strKind prog w) s.heap.objs.size (fun t => decide (t ∈ xs)) (firstN xs xs.length) ∧
      ∀ b o, b < s.heap.objs.size → s.heap.get? b = some o → h'.get? b = some o) E
    apply codeAny_mono (codeAny_call_builtin (R := D) t0.init.plain PySem.F.entry_set_init (check_set_init_1 ty_S ?fills))
    case fills =>
      rcases at_o with ⟨oc, od, dt, sl⟩
      cases at_cls; cases at_data
      have get2 : (s.heap.push (bare led)).get? l = some { cls := .type "tuple", dict := od, data := .seq items at_n, slots := sl } := Heap.get?_push_of_some _ at_get
      have lst2 : (s.heap.push (bare led)).IsTuple l items := ⟨_, get2, rfl, at_n, rfl⟩
      have n1 := PySem.F.sub_tuple_set; have n2 := PySem.F.sub_tuple_frozenset
      have n3 : (Value.type "tuple" == Value.type "dict") = false := by decide
      unfold Builtin.«set.__init__»
      unfold noKeywords Builtin.Frozenset.updateFrom
      generalize asks : pyIter = PI
      wp_walk
      subst asks
      apply wpAny_pyIter_tuple lst2
      apply wpAny_bind; apply wpAny_runValue
      have calm3 : A.in1.in1.in1.handled = none := by simp [calm]
      have grown : (s.heap.push (bare led)).objs.size = s.heap.objs.size + 1 := Heap.size_push ..
      have ne_l : l ≠ (s.heap.push (bare led)).objs.size := Nat.ne_of_lt (grown ▸ Nat.lt_succ_of_lt l_lt)
      have out : s.heap.objs.size ∉ [(s.heap.push (bare led)).objs.size, l] := fun z => by
        rw [grown] at z
        rcases List.mem_cons.mp z with z | z
        · exact Nat.ne_of_lt (Nat.lt_succ_self _) z
        · exact Nat.ne_of_gt l_lt (List.mem_singleton.mp z)
      refine fill ((Walks.tuple calm3 _ l ne_l items).toS) out (xs := xs) (by omega) (fun i v z => texts_at txt i v (by rw [Array.getElem?_toList]; exact z)) len.symm items.size 0 _ (by omega) ⟨⟨_, Heap.get?_push_size _ rfl, rfl, rfl⟩, lst2.push _⟩ ?start ?stop
      case start =>
        have fresh := setObjOf_fresh (knd := PySem.strKind prog w) led
        exact SetOf_congr (fresh.setOf (Heap.get?_push_of_some _ at_S) (by decide)) (fun t => by simp) rfl
      case stop =>
        rintro ⟨h', gens, drawn, toks, os⟩ mv set
        cases (show gens = s.gens from mv.gens)
        cases (show drawn = s.drawn from mv.drawn)
        cases (show os = s.os from mv.os)
        refine wpAny_pure (wpAny_pure ⟨rfl, h', toks, rfl, ?_, ?_⟩)
        · rw [len, List.take_length] at set
          exact set
        · intro b o lt get
          apply mv.heap b o
          · intro z
            rw [grown] at z
            rcases List.mem_cons.mp z with z | z
            · exact Nat.ne_of_lt lt z
            · exact Nat.ne_of_lt (Nat.lt_succ_of_lt lt) (List.mem_singleton.mp z)
          · exact Heap.get?_push_of_some _ (Heap.get?_push_of_some _ get)
    intro r2 s2 filled
    rcases r2 with e | f2
    · exact filled
    cases f2 with
    | ret v2 =>
      obtain ⟨rfl, h', tk, rfl, set, keep⟩ := filled
      repeat any_goals first | assumption | wp_step
      exact q _ _ set keep
    | _ => exact filled.elim
  | _ => exact made.elim
end
end Ol

set_option Elab.async false
set_option linter.all false
set_option maxRecDepth 100000
set_option maxHeartbeats 4000000
namespace Ol
open PySem PySem.Spec PyProof.Rows L2
/-- len(set(xs)), xs a tuple of texts: how many different ones -/
def tLenTT (K : PySem.W.Frag) (ta : TE) : TE := fun σ H Q => ta σ H fun x H1 => ∃ (l : Addr) (xs : List Str), x = .ref l ∧ SqT K H1 l (xs.map V.str) ∧ xs.length ≤ 1000 ∧ Q (.int (firstN xs xs.length)) H1
theorem pe_lenTT {X : Cx} {a : Expr} {ta : TE} {p p2 q pos : Pos} (calm : X.calm = true) (gl : Gl X "len") (ml : X.mg "len" = none) (gs : Gl X "set") (ms : X.mg "set" = none) (pa : PE X a ta)
    (st : starEach [a] X.env = (false, eval a X.env) :: starEach [] X.env := by rfl) : PE X (.Call (.Name "len" p) [.Call (.Name "set" p2) [a] [] q] [] pos) (tLenTT X.K ta) := by
  constructor
  intro pins s σ H Q I h
  refine Call_ (ld_blt I gl ml boot_len (callWith_builtin1 (args_cons ?_ rfl) rfl rfl))
  refine Call_ (ld_blt I gs ms boot_set (callWith_type1 (args_cons (thn (pa.run pins s σ H _ I h) ?_) st) st rfl))
  rintro v s1 ⟨x, H1, I1, rx, l, xs, rfl, sq, few, fin⟩
  refine args_nil ?_
  cases rx
  obtain ⟨its, vals, place, _⟩ := I1.tuple sq
  refine set_textsT (I1.ok.hd calm) place (texts_of vals) (Nat.lt_of_le_of_lt (Nat.succ_le_succ few) (by decide)) fun h' tk set keep => ?_
  refine args_nil ?_
  obtain ⟨o, es, ep, tb, get, exact_, data, _, _, _, fits, cnt⟩ := set
  have I2 : Inv X pins σ H1 { s1 with heap := h', toks := tk } := I1.kept fun b o e => keep b o (Heap.lt_size e) e
  have small : (es.size : Int) < 2 ^ 63 := by
    have := firstN_le xs xs.length
    omega
  exact call_len_set get exact_ data fits small ⟨.int (firstN xs xs.length), H1, I2.tok _, ⟨_, by rw [cnt]⟩, fin⟩
end Ol

set_option Elab.async false
set_option linter.all false
set_option maxRecDepth 100000
set_option maxHeartbeats 4000000
namespace K12
open PySem PySem.Spec PyProof.Rows L2 Ol
open TL (tl)
def topS (i : Nat) : Stmt := PySem.Challenge.pw_openlanes_k12_lanes_told.main.body.getD i (.Pass ⟨0, 0, 0, 0⟩)
section
variable {P : Program} {w : World} {K : PySem.W.Frag} {mg : Str → Option Value} {base : Heap}
def isBoundD : PyData → Bool
  | .int i => decide (1 ≤ i)
  | _ => false
abbrev s_is_bound : Stmt := (topS 12)
theorem sc_is_bound : FnScope ["thing"] ["thing"] (defScope s_is_bound) := ⟨rfl, rfl, rfl, by decide +kernel, rfl, by decide +kernel, by decide +kernel⟩
theorem ok_is_bound {f : Addr} {fd : FuncData} (F : Fun K "is_bound" "is_bound" s_is_bound f fd) (C1 : Ca P w K mg base 1 "is_integer" ["thing"] (spPred Any isIntD)) :
    FnOk P w K mg base CX0 2 f fd ["thing"] (spPred Any isBoundD) := by
  refine F.ok sc_is_bound (fun vs H Q E h => ?_) (fun cdv A outer s H vs Q E hr h => ?_)
  · obtain ⟨v, d, rfl, _⟩ := h
    rfl
  · obtain ⟨v, d, rfl, hd, hz, q⟩ := h
    refine ⟨_, (pss_one (ps_ret (pe_and (pe_ca C1 (hr.mono (by decide)) (by rfl) (pa_cons (pv 0) pa_nil)) (pe_one (pe_cmpR op_ge (pv 0) pe_int (nomark _)))))), ?_⟩
    refine ⟨_, rfl, v, d, rfl, hd, trivial, fun H1 e1 => ⟨_, rfl, ?_⟩⟩
    refine ite2 (fun h => ?_) (fun h => ?_)
    · obtain ⟨i, rfl, rfl⟩ := dq_int hd h
      refine ⟨_, rfl, _, _, rfl, rfl, ?_⟩
      exact q H1 e1
    · have e : isBoundD d = false := by
        cases d with
        | int i => exact absurd rfl h
        | _ => rfl
      have q' := q H1 e1
      rw [e] at q'
      exact q'
/-- names with whole numbers, as a dict holds them -/
def kvI (ps : List (Str × Int)) : List (Key × V) := ps.map fun p => (.inr p.1, .int p.2)
def spIsBounds : Sp := fun vs H Q _ => ∃ (a : Addr) (ps : List (Str × Int)), vs = [.ref a] ∧ H a = some (.dK (kvI ps)) ∧ ps ≠ [] ∧ ps.length ≤ 1000 ∧
  (∀ p ∈ ps, isNameS p.1 = true ∧ 1 ≤ p.2) ∧ ∀ H', Ext H H' → Q (.bl true) H'
abbrev s_is_bounds : Stmt := (topS 13)
theorem sc_is_bounds : FnScope ["thing", "name", "bound"] ["thing"] (defScope s_is_bounds) := ⟨rfl, rfl, rfl, by decide +kernel, rfl, by decide +kernel, by decide +kernel⟩
theorem ok_is_bounds {f : Addr} {fd : FuncData} (F : Fun K "is_bounds" "is_bounds" s_is_bounds f fd) (T : BT mg)
    (C3 : Ca P w K mg base 1 "is_name" ["thing"] (spPred Ok1 isNameD)) (C4 : Ca P w K mg base 2 "is_bound" ["thing"] (spPred Any isBoundD)) :
    FnOk P w K mg base CX0 3 f fd ["thing"] spIsBounds := by
  refine F.ok sc_is_bounds (fun vs H Q E h => ?_) (fun cdv A outer s H vs Q E hr h => ?_)
  · obtain ⟨a, ps, rfl, _⟩ := h
    rfl
  · obtain ⟨a, ps, rfl, ha, hne, hl, hps, q⟩ := h
    refine ⟨_, (pss_cons (ps_if (PW.pt (pw_or (pt_not (pt_val (pe_callB call_isi (by rfl) T.n_isinstance (by decide +kernel) (pa_cons (pv 0) (pa_cons (pe_bltn (v := .ty "dict") (by rfl) T.n_dict (by decide +kernel) rfl) pa_nil))))) (pw_or1 (pt_cmpR op_eq (pe_callB call_lenD (by rfl) T.n_len (by decide +kernel) (pa_cons (pv 0) pa_nil)) pe_int (nomark _)))))
      (pss_one (ps_ret pe_bl))
      pss_nil)
    (pss_one (ps_ret (pe_callB (cr_all rfl) (by rfl) T.n_all (by decide +kernel) (pa_cons (pe_lock (pe_lc (own := [("name", 1), ("bound", 2)]) (g := gTup K 2 (gCons (gName 1) (gCons (gName 2) gNil))) (tt := tYes) rfl sc_is_bounds.nd (pi_items (pv 0)) (blkOk_by (N := ["thing", "name", "bound"]) (sc := defScope s_is_bounds) (by decide +kernel)) (fun _ _ _ _ _ => (pg_tup (by rfl) (pgs_cons (pg_name (i := 1) sc_is_bounds.nd rfl (.inl rfl)) (pgs_cons (pg_name (i := 2) sc_is_bounds.nd rfl (.inl rfl)) pgs_nil)))) (fun _ _ _ _ _ => pts_nil) (fun _ _ _ _ _ => (pe_and (pe_ca C3 (hr.mono (by decide)) (by rfl) (pa_cons (pv 1) pa_nil)) (pe_one (pe_ca C4 (hr.mono (by decide)) (by rfl) (pa_cons (pv 2) pa_nil))))))) pa_nil))))), ?_⟩
    refine ⟨_, rfl, _, _, _, _, _, rfl, .ty "dict", .base (.dK ha), ki_dict (.dict []), _, rfl, ?_⟩
    refine iteF ?_
    refine ⟨_, rfl, a, _, rfl, ha, rfl, _, rfl, ?_⟩
    have hlen : (kvI ps).length = ps.length := by unfold kvI; rw [List.length_map]
    refine ite2 (fun g => ?_) (fun _ => ?_)
    · have z := of_decide_eq_true g
      injection z with z
      rw [hlen] at z
      cases ps with
      | nil => exact absurd rfl hne
      | cons p ps => simp at z; omega
    refine ⟨a, _, ha, trivial, fun od => ⟨_, rfl, a, od, _, rfl, upd_same, fun D hD => ?_⟩⟩
    have nD : D ≠ a := fun z => by rw [z, upd_same] at hD; cases hD
    refine lc_acc walk_items (fun i xs _ => xs = List.replicate i (V.bl true)) (fun _ _ _ _ _ h => h) rfl hD (fun i xs _ h => by rw [h, List.length_replicate]; exact Nat.le_refl _) (by rw [hlen]; exact Nat.le_trans hl (by decide)) (fun H' e => e _ _ upd_same) ?_ ?_
    · rintro i x H1 H2 xs hi e1 ⟨T', y1, y2, rfl, hT, rfl, g1, g2⟩ hp QY QN kY kN
      have hi' : i < ps.length := by rw [← hlen]; exact hi
      have hk : (kvI ps)[i]? = some (.inr ps[i].1, .int ps[i].2) := by
        unfold kvI
        rw [List.getElem?_map, List.getElem?_eq_getElem hi']
        rfl
      have k1 : y1 = .str ps[i].1 := by
        have z := g1
        dsimp only at z
        rw [hk] at z
        exact (Option.some.inj z).symm
      have k2 : y2 = .int ps[i].2 := by
        have z := g2
        dsimp only at z
        rw [hk] at z
        exact (Option.some.inj z).symm
      subst k1
      subst k2
      obtain ⟨b1, b2⟩ := hps _ (List.getElem_mem hi')
      have eT := Ext.new (o := .tup [.str ps[i].1, .int ps[i].2]) hT
      refine ⟨T', _, rfl, SqT.of upd_same, rfl, _, _, rfl, _, _, rfl, rfl, rfl, ?_⟩
      refine tyes ?_
      refine ⟨_, rfl, _, _, rfl, .str _, (fun x hx => by cases hx; exact name_tx b1), fun H3 e3 => ⟨_, rfl, ?_⟩⟩
      rw [if_pos (show isNameD (.str ps[i].1) = true from b1)]
      refine ⟨_, rfl, _, _, rfl, .int _, trivial, fun H4 e4 => ?_⟩
      rw [show isBoundD (.int ps[i].2) = true from decide_eq_true b2]
      refine kY _ H4 ((eT.trans e3).trans e4) fun Hz _ hh => ?_
      rw [hh, List.replicate_succ']
    · rintro H1 xs e1 hx hp
      subst hp
      refine ⟨e1 _ _ upd_same, D, List.replicate (kvI ps).length true, rfl, SqL.of ?_, ?_⟩
      · rw [upd_ne nD, hx, List.map_replicate]
      · have e2 : Ext H (upd H1 a (.dK (kvI ps))) := fun b o z => by
          by_cases c : b = a
          · rw [c] at z ⊢
            rw [upd_same, ← ha, z]
          · rw [upd_ne c]
            exact e1 _ _ (by rw [upd_ne c]; exact z)
        have ea : (List.replicate (kvI ps).length true).all id = true := by simp
        rw [ea]
        exact q _ e2
end
end K12

set_option Elab.async false
set_option linter.all false
set_option maxRecDepth 100000
set_option maxHeartbeats 4000000
namespace K12
open PySem PySem.Spec PyProof.Rows L2 Ol
open TL (tl)
section
variable {P : Program} {w : World} {K : PySem.W.Frag} {mg : Str → Option Value} {base : Heap}
/-- the state of a lane, as data -/
def stD (c : Nat) (b : Bool) : PyData := .tuple [.int (c : Int), .bool b]
def optD : Option (Nat × Bool) → PyData
  | none => .none
  | some s => stD s.1 s.2
theorem st_inv {H : Hp} {v : V} {c : Nat} {b : Bool} (h : Dq H v (stD c b)) : ∃ a, v = .ref a ∧ H a = some (.tup [.int (c : Int), .bl b]) := by
  generalize e : stD c b = d at h
  cases h with
  | tup h t =>
    unfold stD at e
    cases e
    cases t with
    | cons t1 t2 =>
      cases t1
      cases t2 with
      | cons t3 t4 =>
        cases t3
        cases t4
        exact ⟨_, rfl, h⟩
  | _ => cases e
theorem st_new {H : Hp} {p : Addr} {c : Nat} {b : Bool} : Dq (upd H p (.tup [.int (c : Int), .bl b])) (.ref p) (stD c b) :=
  .tup upd_same (.cons (.int _) (.cons (.bl _) .nil))
end
end K12

set_option Elab.async false
set_option linter.all false
set_option maxRecDepth 100000
set_option maxHeartbeats 4000000
namespace K12
open PySem PySem.Spec PyProof.Rows L2 Ol
open TL (tl)
/-- the fields -/
def lf (n b s : Addr) : List (Str × V) := [("_names", .ref n), ("_bounds", .ref b), ("_spots", .ref s)]
theorem n_b : ¬ (("_names" : Str) = "_bounds") := by decide +kernel
theorem n_s : ¬ (("_names" : Str) = "_spots") := by decide +kernel
theorem b_s : ¬ (("_bounds" : Str) = "_spots") := by decide +kernel
theorem b_n : ¬ (("_bounds" : Str) = "_names") := by decide +kernel
theorem s_n : ¬ (("_spots" : Str) = "_names") := by decide +kernel
theorem s_b : ¬ (("_spots" : Str) = "_bounds") := by decide +kernel
theorem lf_n (n b s : Addr) : (lf n b s).lookup ("_names" : Str) = some (.ref n) := by
  unfold lf
  rw [List.lookup_cons_self]
theorem lf_b (n b s : Addr) : (lf n b s).lookup ("_bounds" : Str) = some (.ref b) := by
  unfold lf
  rw [List.lookup_cons, beq_eq_false_iff_ne.mpr b_n]
  dsimp only
  rw [List.lookup_cons_self]
theorem lf_s (n b s : Addr) : (lf n b s).lookup ("_spots" : Str) = some (.ref s) := by
  unfold lf
  rw [List.lookup_cons, beq_eq_false_iff_ne.mpr s_n]
  dsimp only
  rw [List.lookup_cons, beq_eq_false_iff_ne.mpr s_b]
  dsimp only
  rw [List.lookup_cons_self]
theorem lf_no (n b s : Addr) {m : Str} (h1 : ¬ m = "_names") (h2 : ¬ m = "_bounds") (h3 : ¬ m = "_spots") : (lf n b s).lookup m = none := by
  unfold lf
  rw [List.lookup_cons, beq_eq_false_iff_ne.mpr h1]
  dsimp only
  rw [List.lookup_cons, beq_eq_false_iff_ne.mpr h2]
  dsimp only
  rw [List.lookup_cons, beq_eq_false_iff_ne.mpr h3]
  rfl
theorem put1 (n : Addr) : putF "_names" (.ref n) [] = ([("_names", V.ref n)] : List (Str × V)) := rfl
theorem put2 (n b : Addr) : putF "_bounds" (.ref b) [("_names", V.ref n)] = ([("_names", V.ref n), ("_bounds", V.ref b)] : List (Str × V)) := by
  show (if ("_names" : Str) = "_bounds" then _ else (("_names" : Str), V.ref n) :: putF "_bounds" (V.ref b) []) = _
  rw [if_neg n_b]
  rfl
theorem put3 (n b s : Addr) : putF "_spots" (.ref s) [("_names", V.ref n), ("_bounds", V.ref b)] = lf n b s := by
  show (if ("_names" : Str) = "_spots" then _ else (("_names" : Str), V.ref n) :: (if ("_bounds" : Str) = "_spots" then _ else (("_bounds" : Str), V.ref b) :: putF "_spots" (V.ref s) [])) = _
  rw [if_neg n_s, if_neg b_s]
  rfl
/-- Lanes with these names and bounds stand at p -/
def LanesAt (C : Addr) (H : Hp) (p : Addr) (ns : List Str) (bs : List Int) : Prop :=
  ∃ dx n b s, H p = some (.ins C dx (lf n b s)) ∧ H n = some (.tup (ns.map V.str)) ∧ H b = some (.tup (bs.map V.int)) ∧ H s = some (.dK (spots ns)) ∧
    bs.length = ns.length ∧ ns.Nodup ∧ ns.length ≤ 60 ∧ (∀ x ∈ ns, isNameS x = true) ∧ (∀ i ∈ bs, 1 ≤ i)
theorem LanesAt.up {C : Addr} {H H' : Hp} {p : Addr} {ns : List Str} {bs : List Int} (e : Ext H H') : LanesAt C H p ns bs → LanesAt C H' p ns bs
  | ⟨dx, n, b, s, h1, h2, h3, h4, r⟩ => ⟨dx, n, b, s, e _ _ h1, e _ _ h2, e _ _ h3, e _ _ h4, r⟩
/-- what the text says of the class -/
structure LT (K : PySem.W.Frag) (mg : Str → Option Value) (C : Addr) : Prop where
  cl : Cls K C
  nN : NoAttr K C "_names"
  nB : NoAttr K C "_bounds"
  nS : NoAttr K C "_spots"
  gC : mg "Lanes" = some (.ref C)
  n_enum : mg "enumerate" = none
  n_zip : mg "zip" = none
abbrev cL (i : Nat) : Stmt := inClass (topS 15) i
section
variable {P : Program} {w : World} {K : PySem.W.Frag} {mg : Str → Option Value} {base : Heap} {C : Addr}
def bdOf (ps : List (Str × Int)) (x : Str) : Int := ((ps.find? fun p => decide (p.1 = x)).map (·.2)).getD 0
def spInit (C : Addr) : Sp := fun vs H Q _ => ∃ (H0 : Hp) (p dx a : Addr) (ps : List (Str × Int)), vs = [.ref p, .ref a] ∧ H0 p = none ∧ Ext H0 H ∧ H p = some (.ins C dx []) ∧ H0 a = some (.dK (kvI ps)) ∧
  ps ≠ [] ∧ ps.length ≤ 60 ∧ (∀ q ∈ ps, isNameS q.1 = true ∧ 1 ≤ q.2) ∧ (ps.map (·.1)).Nodup ∧
  ∀ H' ns, Ext H0 H' → ns.Perm (ps.map (·.1)) → sortedS ns = true → LanesAt C H' p ns (ns.map (bdOf ps)) → Q .non H'
theorem sc_init : FnScope ["self", "bounds", "name", "spot"] ["self", "bounds"] (defScope (cL 0)) := ⟨rfl, rfl, rfl, by decide +kernel, rfl, by decide +kernel, by decide +kernel⟩
theorem tyes' {σ : L2.St} {H : Hp} {Q : Bool → Hp → Prop} (h : Q true H) : tYes σ H Q := h
theorem range_getD {α β : Type} (h : α → β) (d : α) : ∀ l : List α, (List.range l.length).map (fun i => h (l.getD i d)) = l.map h
  | [] => rfl
  | a :: l => by
    rw [List.length_cons, List.range_succ_eq_map, List.map_cons, List.map_map, List.map_cons]
    congr 1
    exact range_getD h d l
theorem kvI_val {ps : List (Str × Int)} {x : Str} (h : x ∈ ps.map (·.1)) : valV (kvI ps) (.inr x) = some (.int (bdOf ps x)) := by
  induction ps with
  | nil => cases h
  | cons p ps ih =>
    unfold kvI bdOf
    rw [List.map_cons, List.find?_cons]
    by_cases c : p.1 = x
    · rw [valV_pos (by rw [c]), decide_eq_true c]
      rfl
    · rw [valV_neg (fun z => c (Sum.inr.inj z)), decide_eq_false c]
      rw [List.map_cons, List.mem_cons] at h
      exact ih (h.resolve_left fun z => c z.symm)
theorem bd_mem {ps : List (Str × Int)} {x : Str} (h : x ∈ ps.map (·.1)) : ∃ p ∈ ps, p.1 = x ∧ p.2 = bdOf ps x := by
  induction ps with
  | nil => cases h
  | cons p ps ih =>
    unfold bdOf
    rw [List.find?_cons]
    by_cases c : p.1 = x
    · rw [decide_eq_true c]
      exact ⟨p, List.mem_cons_self, c, rfl⟩
    · rw [decide_eq_false c]
      rw [List.map_cons, List.mem_cons] at h
      obtain ⟨r, h1, h2, h3⟩ := ih (h.resolve_left fun z => c z.symm)
      exact ⟨r, List.mem_cons_of_mem _ h1, h2, h3⟩
theorem ok_init {f : Addr} {fd : FuncData} (F : Fun K "__init__" "Lanes.__init__" (cL 0) f fd) (T : BT mg) (L : LT K mg C)
    (C5 : Ca P w K mg base 3 "is_bounds" ["thing"] spIsBounds) :
    FnOk P w K mg base CX0 4 f fd ["self", "bounds"] (spInit C) := by
  refine F.ok sc_init (fun vs H Q E h => ?_) (fun cdv A outer s H vs Q E hr h => ?_)
  · obtain ⟨H0, p, dx, a, ps, rfl, _⟩ := h
    rfl
  · obtain ⟨H0, p, dx, a, ps, rfl, hp0, e0, hp, ha, hne, hl, hps, hnd, q⟩ := h
    refine ⟨_, (pss_cons (ps_if (pt_not (pt_val (pe_ca C5 (hr.mono (by decide)) (by rfl) (pa_cons (pv 1) pa_nil)))) (pss_one ps_never) pss_nil)
      (pss_cons (ps_fld (pv 0) (pe_callTy call_tuple_of (by rfl) T.n_tuple (by decide +kernel) (pa_cons (pe_callB (call_sortedD rfl) (by rfl) T.n_sorted (by decide +kernel) (pa_cons (pv 1) pa_nil)) pa_nil)) rfl)
      (pss_cons (ps_fld (pv 0) (pe_callTy call_tuple_of (by rfl) T.n_tuple (by decide +kernel) (pa_cons (pe_lc (own := [("name", 2)]) (g := gName 2) (tt := tYes) rfl sc_init.nd (pi_tup (pe_fld (pv 0) rfl)) (blkOk_by (N := ["self", "bounds", "name", "spot"]) (sc := defScope (cL 0)) (by decide +kernel)) (fun _ _ _ _ _ => pg_name (i := 2) sc_init.nd rfl (.inl rfl)) (fun _ _ _ _ _ => pts_nil) (fun _ _ _ _ _ => pe_dget (hu_of hr) (pv 1) (pv 2) (fun _ _ => rfl))) pa_nil)) rfl)
      (pss_one (ps_fld (pv 0) (pe_dc (own := [("name", 2), ("spot", 3)]) (g := gTup K 2 (gCons (gName 3) (gCons (gName 2) gNil))) (tt := tYes) rfl sc_init.nd (pi_enumT (by rfl) L.n_enum (pa_cons (pe_fld (pv 0) rfl) pa_nil)) (blkOk_by (N := ["self", "bounds", "name", "spot"]) (sc := defScope (cL 0)) (by decide +kernel)) (fun _ _ _ _ _ => pg_tup (by rfl) (pgs_cons (pg_name (i := 3) sc_init.nd rfl (.inl rfl)) (pgs_cons (pg_name (i := 2) sc_init.nd rfl (.inl rfl)) pgs_nil))) (fun _ _ _ _ _ => pts_nil) (fun _ _ _ _ _ => pv 2) (fun _ _ _ _ _ => pv 3)) rfl))))), ?_⟩
    have kl : (kvI ps).map (·.1) = (ps.map (·.1)).map Sum.inr := by
      unfold kvI
      rw [List.map_map, List.map_map]
      rfl
    refine ⟨_, rfl, a, ps, rfl, e0 _ _ ha, hne, Nat.le_trans hl (by decide), hps, fun H1 e1 => ⟨_, rfl, ?_⟩⟩
    refine iteF ?_
    have e01 := e0.trans e1
    refine ⟨_, rfl, a, _, _, rfl, Rd.of (e01 _ _ ha), kl, (by rw [List.length_map]; omega), fun ns l hperm hso hl1 => ?_⟩
    have hx2 : H1 a = some (.dK (kvI ps)) := e01 _ _ ha
    have hpH : H1 p = some (.ins C dx []) := e1 _ _ hp
    have nd : ns.Nodup := hperm.nodup_iff.mpr hnd
    have len : ns.length = ps.length := by rw [hperm.length_eq, List.length_map]
    have el := Ext.new (o := .lst (ns.map V.str)) hl1
    refine ⟨l, _, rfl, .inl ⟨SqL.of upd_same, fun n hn => ?_⟩⟩
    have en := Ext.new (o := .tup (ns.map V.str)) hn
    refine ⟨_, rfl, p, C, dx, [], rfl, (el.trans en) _ _ hpH, L.cl, L.nN, (by show 0 < 1000; decide), ?_⟩
    rw [put1]
    have e4 : Ext H0 (upd (upd (upd H1 l (.lst (ns.map V.str))) n (.tup (ns.map V.str))) p (.ins C dx [("_names", .ref n)])) := Ext.mut (e01.trans (el.trans en)) hp0
    have npn : p ≠ n := fun z => by
      have := (el _ _ hpH)
      rw [z, hn] at this
      cases this
    have h4n : (upd (upd (upd H1 l (.lst (ns.map V.str))) n (.tup (ns.map V.str))) p (.ins C dx [("_names", .ref n)])) n = some (.tup (ns.map V.str)) := by
      rw [upd_ne (Ne.symm npn)]
      exact upd_same
    have h4p : (upd (upd (upd H1 l (.lst (ns.map V.str))) n (.tup (ns.map V.str))) p (.ins C dx [("_names", .ref n)])) p = some (.ins C dx [("_names", .ref n)]) := upd_same
    generalize hH4 : upd (upd (upd H1 l (.lst (ns.map V.str))) n (.tup (ns.map V.str))) p (.ins C dx [("_names", .ref n)]) = H4 at *
    refine ⟨_, rfl, p, C, dx, _, _, rfl, h4p, L.cl, L.nN, rfl, n, rfl, ⟨_, SqT.of h4n⟩, fun D hD => ?_⟩
    have nm : ∀ i, i < ns.length → ns.getD i Str.empty ∈ ps.map (·.1) := fun i hi => by
      rw [List.getD_eq_getElem?_getD, List.getElem?_eq_getElem hi]
      exact hperm.mem_iff.mp (List.getElem_mem hi)
    have ml : (ns.map V.str).length = ns.length := List.length_map ..
    refine lc_det (w := walk_tup (xs := ns.map V.str)) (fun i => V.str (ns.getD i Str.empty)) (fun _ => true) (fun i => V.int (bdOf ps (ns.getD i Str.empty))) hD (by rw [ml]; exact Nat.le_trans (by omega) (show 60 ≤ sizeLine by decide)) ?_ (fun H' e => SqT.of (e _ _ h4n)) (fun _ _ _ _ _ h => tyes' h) ?_ ?_
    · rintro i Hi x H' hi ⟨rfl, hx⟩
      refine ⟨rfl, ?_⟩
      rw [List.getElem?_map] at hx
      rw [ml] at hi
      rw [List.getElem?_eq_getElem hi] at hx
      rw [List.getD_eq_getElem?_getD, List.getElem?_eq_getElem hi]
      exact (Option.some.inj hx).symm
    · intro i Hi hi _ e Q' q'
      rw [ml] at hi
      have hai : Hi a = some (.dK (kvI ps)) := (e4.trans e) _ _ ha
      have g := DGet.k (k := .inr (ns.getD i Str.empty)) hai
      rw [kvI_val (nm i hi)] at g
      exact ⟨_, rfl, _, rfl, a, _, rfl, g, q'⟩
    have e5 := Ext.new (o := .lst ((ns.map (bdOf ps)).map V.int)) hD
    have mm : (((List.range (ns.map V.str).length).filter fun _ => true).map fun i => V.int (bdOf ps (ns.getD i Str.empty))) = (ns.map (bdOf ps)).map V.int := by
      rw [ml, List.filter_eq_self.mpr (fun _ _ => rfl), List.map_map]
      exact range_getD (V.int ∘ bdOf ps) Str.empty ns
    rw [mm]
    refine ⟨D, _, rfl, .inl ⟨SqL.of upd_same, fun b hb => ?_⟩⟩
    have e6 := Ext.new (o := .tup ((ns.map (bdOf ps)).map V.int)) hb
    have e46 := e5.trans e6
    refine ⟨_, rfl, p, C, dx, _, rfl, e46 _ _ h4p, L.cl, L.nB, (by show 1 < 1000; decide), ?_⟩
    rw [put2]
    have e7 := Ext.mut (o := .ins C dx [("_names", .ref n), ("_bounds", .ref b)]) (e4.trans e46) hp0
    have npb : p ≠ b := fun z => by
      have := e5 _ _ h4p
      rw [z, hb] at this
      cases this
    have h7n : (upd (upd (upd H4 D (.lst ((ns.map (bdOf ps)).map V.int))) b (.tup ((ns.map (bdOf ps)).map V.int))) p (.ins C dx [("_names", .ref n), ("_bounds", .ref b)])) n = some (.tup (ns.map V.str)) := by
      rw [upd_ne (Ne.symm npn)]
      exact e46 _ _ h4n
    have h7b : (upd (upd (upd H4 D (.lst ((ns.map (bdOf ps)).map V.int))) b (.tup ((ns.map (bdOf ps)).map V.int))) p (.ins C dx [("_names", .ref n), ("_bounds", .ref b)])) b = some (.tup ((ns.map (bdOf ps)).map V.int)) := by
      rw [upd_ne (Ne.symm npb)]
      exact upd_same
    have h7p : (upd (upd (upd H4 D (.lst ((ns.map (bdOf ps)).map V.int))) b (.tup ((ns.map (bdOf ps)).map V.int))) p (.ins C dx [("_names", .ref n), ("_bounds", .ref b)])) p = some (.ins C dx [("_names", .ref n), ("_bounds", .ref b)]) := upd_same
    generalize upd (upd (upd H4 D (.lst ((ns.map (bdOf ps)).map V.int))) b (.tup ((ns.map (bdOf ps)).map V.int))) p (.ins C dx [("_names", .ref n), ("_bounds", .ref b)]) = H7 at *
    refine ⟨_, rfl, p, C, dx, _, _, rfl, h7p, L.cl, L.nN, rfl, n, _, rfl, SqT.of h7n, fun D2 hD2 => ?_⟩
    refine dc_it (w := walk_enumT (xs := ns.map V.str)) (fun i Hi => Ext H7 Hi ∧ Hi D2 = some (.dK (spots (ns.take i)))) ⟨Ext.new hD2, upd_same⟩ (fun i Hi _ h => SqT.of (h.1 _ _ h7n)) ?_ ?_
    · rintro i v Hi H' hi ⟨ei, hdi⟩ ⟨T', y1, y2, rfl, hT, rfl, g1, g2⟩
      rw [ml] at hi
      cases g1
      dsimp only at g2
      rw [List.getElem?_map, List.getElem?_eq_getElem hi] at g2
      cases g2
      have eT := Ext.new (o := .tup [.int (i : Int), .str ns[i]]) hT
      refine ⟨T', _, rfl, SqT.of upd_same, rfl, _, _, rfl, _, _, rfl, rfl, rfl, ?_⟩
      refine tyes ?_
      have hns : ns[i] ∉ ns.take i := fun z => by
        obtain ⟨j, hj, ej⟩ := List.getElem_of_mem z
        rw [List.length_take] at hj
        rw [List.getElem_take] at ej
        exact List.pairwise_iff_getElem.mp nd j i (by omega) hi (by omega) ej
      refine ⟨_, rfl, _, rfl, spots (ns.take i), .inr ns[i], rfl, eT _ _ hdi, ?_, Ext.mut (ei.trans eT) hD2, ?_⟩
      · rw [spots_len, List.length_take]
        exact Nat.lt_of_le_of_lt (show _ ≤ 60 by omega) (by decide)
      · rw [upd_same, putK_new (spots_none hns), List.take_add_one, List.getElem?_eq_getElem hi]
        show _ = some (HO.dK (spots (ns.take i ++ [ns[i]])))
        rw [spots_snoc, List.length_take, Nat.min_eq_left (Nat.le_of_lt hi)]
    · rintro H8 ⟨e8, h8d⟩
      rw [ml, List.take_length] at h8d
      refine ⟨_, rfl, p, C, dx, _, rfl, e8 _ _ h7p, L.cl, L.nS, (by show 2 < 1000; decide), ?_⟩
      rw [put3]
      have npD : p ≠ D2 := fun z => by rw [← z, h7p] at hD2; cases hD2
      refine q _ ns (Ext.mut (e7.trans e8) hp0) hperm hso ⟨dx, n, b, D2, upd_same, ?_, ?_, ?_, List.length_map .., nd, by omega, ?_, ?_⟩
      · rw [upd_ne (Ne.symm npn)]; exact e8 _ _ h7n
      · rw [upd_ne (Ne.symm npb)]; exact e8 _ _ h7b
      · rw [upd_ne (Ne.symm npD)]; exact h8d
      · intro x hx
        obtain ⟨r, hr1, hr2, _⟩ := bd_mem (hperm.mem_iff.mp hx)
        rw [← hr2]
        exact (hps r hr1).1
      · intro i hi
        obtain ⟨x, hx, rfl⟩ := List.mem_map.mp hi
        obtain ⟨r, hr1, _, hr3⟩ := bd_mem (hperm.mem_iff.mp hx)
        rw [← hr3]
        exact (hps r hr1).2
end
end K12

set_option Elab.async false
set_option linter.all false
set_option maxRecDepth 100000
set_option maxHeartbeats 4000000
namespace K12
open PySem PySem.Spec PyProof.Rows L2 Ol
open TL (tl)
theorem DqAll_get {H : Hp} : ∀ {xs : List V} {ds : List PyData}, DqAll H xs ds → ∀ (i : Nat) (d : PyData), ds[i]? = some d → ∃ v, xs[i]? = some v ∧ Dq H v d
  | _, _, .nil, i, d, h => by simp at h
  | _, _, .cons a t, 0, d, h => by
    cases h
    exact ⟨_, rfl, a⟩
  | _, _, .cons a t, i + 1, d, h => DqAll_get t i d h
theorem DqAll_set {H : Hp} : ∀ {xs : List V} {ds : List PyData}, DqAll H xs ds → ∀ (i : Nat) (v : V) (d : PyData), Dq H v d → DqAll H (xs.set i v) (ds.set i d)
  | _, _, .nil, i, v, d, h => .nil
  | _, _, .cons a t, 0, v, d, h => .cons h t
  | _, _, .cons a t, i + 1, v, d, h => .cons a (DqAll_set t i v d h)
/-- a content, as data -/
def ctL (cs : List (Nat × Bool)) : List PyData := cs.map fun s => stD s.1 s.2
def ctD (cs : List (Nat × Bool)) : PyData := .tuple (ctL cs)
theorem ct_inv {H : Hp} {v : V} {cs : List (Nat × Bool)} (h : Dq H v (ctD cs)) : ∃ a xs, v = .ref a ∧ H a = some (.tup xs) ∧ DqAll H xs (ctL cs) ∧ xs.length = cs.length := by
  obtain ⟨a, xs, ds, rfl, e, h1, h2⟩ := dq_tup h rfl
  unfold ctD at e
  cases e
  exact ⟨a, xs, rfl, h1, h2, by rw [h2.len]; unfold ctL; rw [List.length_map]⟩
end K12

set_option Elab.async false
set_option linter.all false
set_option maxRecDepth 100000
set_option maxHeartbeats 4000000
namespace K12
open PySem PySem.Spec PyProof.Rows L2 Ol
open TL (tl)
-- a
section
variable {P : Program} {w : World} {K : PySem.W.Frag} {mg : Str → Option Value} {base : Heap}
abbrev s__law_take : Stmt := (topS 18)
theorem sc__law_take : FnScope ["_law_bag_here", "_law_many", "_law_cell", "_law_mixed_here", "_law_value", "_law_begin", "_law_second"] ["_law_bag_here", "_law_many"] (defScope s__law_take) := ⟨rfl, rfl, rfl, by decide +kernel, rfl, by decide +kernel, by decide +kernel⟩

theorem pos_of {j : Int} (h : 0 < j) : 0 < j := h
theorem upd_self {H : Hp} {a : Addr} {o : HO} (h : H a = some o) : upd H a o = H := by
  funext b
  by_cases z : b = a
  · rw [z, upd_same, h]
  · rw [upd_ne z]
theorem ok_take {f : Addr} {fd : FuncData} (F : Fun K "_law_take" "_law_take" s__law_take f fd) (T : BT mg) :
    FnOk P w K mg base CX0 1 f fd ["_law_bag_here", "_law_many"] spTake0 := by
  refine F.ok sc__law_take (fun vs H Q E h => ?_) (fun cdv A outer s H vs Q E hr h => ?_)
  · obtain ⟨a, c, b0, b1, b2, ns, m, rfl, _⟩ := h
    rfl
  · obtain ⟨a, c, b0, b1, b2, ns, m, rfl, ha, hc, hns, bi, hm, hm2, q⟩ := h
    have hca : c ≠ a := by
      intro z
      rw [z, ha] at hc
      have e : bagL b0 b1 b2 c = ns.map V.int := by
        injection hc with hc
        injection hc
      have e3 : (bagL b0 b1 b2 c)[3]? = (ns.map V.int)[3]? := by rw [e]
      rw [List.getElem?_map] at e3
      have e4 : some (V.ref c) = (ns[3]?).map V.int := e3
      cases q3 : ns[3]? with
      | none =>
        rw [q3] at e4
        cases e4
      | some z3 =>
        rw [q3] at e4
        cases e4
    refine cutB (fun σ H' => ∃ x0 x1 x2 v2 v3, BagI x0 x1 x2 ∧ σ = [some (.ref a), some (.int m), v2, v3, none, none, none] ∧ H' = upd H a (.lst (bagL x0 x1 x2 c)))
      ⟨_, (pss_cons (ps_if (pt_cmpR op_gt (pe_ix ix_list (pv 0) pe_int (fun _ _ => rfl)) pe_int (nomark _))
      (pss_cons (ps_set (i := 4) sc__law_take.nd rfl (.inl rfl) (pe_op op_mod (pe_callTy call_int1 (by rfl) T.n_int (by decide +kernel) (pa_cons (pe_ix ix_list (pv 0) pe_int (fun _ _ => rfl)) pa_nil)) (pv 1)))
      (pss_cons (ps_asg (pe_op op_fdiv (pe_ix ix_list (pv 0) pe_int (fun _ _ => rfl)) (pv 1)) (pg_sub (pv 0) pe_int set_list))
      (pss_one (ps_ret (pv 4)))))
      pss_nil)
    (pss_cons (ps_set (i := 5) sc__law_take.nd rfl (.inl rfl) (pe_op op_mod (pe_callTy call_int1 (by rfl) T.n_int (by decide +kernel) (pa_cons (pe_op op_mul (pe_op op_add (pe_ix ix_list (pv 0) pe_int (fun _ _ => rfl)) pe_int) pe_int) pa_nil)) pe_int))
    (pss_cons (ps_set (i := 6) sc__law_take.nd rfl (.inl rfl) (pe_op op_mod (pe_callTy call_int1 (by rfl) T.n_int (by decide +kernel) (pa_cons (pe_op op_mul (pe_op op_mod (pe_callTy call_int1 (by rfl) T.n_int (by decide +kernel) (pa_cons (pe_op op_mul (pv 5) (pv 5)) pa_nil)) pe_int) pe_int) pa_nil)) pe_int))
    (pss_cons (ps_if (pt_cmpR op_gt (pv 1) pe_int (nomark _))
      (pss_one (ps_ret (pe_op op_mod (pe_callTy call_int1 (by rfl) T.n_int (by decide +kernel) (pa_cons (pe_op op_add (pe_op op_mul (pv 6) pe_int) (pv 5)) pa_nil)) (pv 1))))
      pss_nil)
    (pss_one (ps_ret (pe_op op_mod (pe_callTy call_int1 (by rfl) T.n_int (by decide +kernel) (pa_cons (pe_op op_fdiv (pv 6) pe_int) pa_nil)) (pv 1)))))))), ?_⟩
      ⟨_, (ps_if (pt_cmpR op_eq (pe_ix ix_list (pv 0) pe_int (fun _ _ => rfl)) pe_int (nomark _))
      (pss_cons (ps_set (i := 2) sc__law_take.nd rfl (.inl rfl) pe_int)
      (pss_cons (ps_if (pt_cmpR op_lt (pe_ix ix_list (pv 0) pe_int (fun _ _ => rfl)) (pe_callB call_len_seq (by rfl) T.n_len (by decide +kernel) (pa_cons (pe_ix ix_list (pv 0) pe_int (fun _ _ => rfl)) pa_nil)) (nomark _))
        (pss_one (ps_set (i := 2) sc__law_take.nd rfl (.inl rfl) (pe_ix ix_list (pe_ix ix_list (pv 0) pe_int (fun _ _ => rfl)) (pe_ix ix_list (pv 0) pe_int (fun _ _ => rfl)) (fun _ _ => rfl))))
        pss_nil)
      (pss_cons (ps_augS (pv 0) pe_int get_list pe_int ip_add set_list)
      (pss_cons (ps_if (pt_cmpR op_ge (pv 2) pe_int (nomark _))
        (pss_one (ps_asg (pv 2) (pg_sub (pv 0) pe_int set_list)))
        pss_nil)
      (pss_cons (ps_set (i := 3) sc__law_take.nd rfl (.inl rfl) (pe_op op_add (pe_op op_add (pe_op op_mul (pe_ix ix_list (pv 0) pe_int (fun _ _ => rfl)) pe_int) (pe_op op_mod (pe_callTy call_int1 (by rfl) T.n_int (by decide +kernel) (pa_cons (pv 2) pa_nil)) pe_int)) (pe_op op_mul pe_int (pe_ix ix_list (pv 0) pe_int (fun _ _ => rfl)))))
      (pss_one (ps_asg (pe_op op_mod (pe_callTy call_int1 (by rfl) T.n_int (by decide +kernel) (pa_cons (pv 3) pa_nil)) pe_int) (pg_sub (pv 0) pe_int set_list))))))))
      pss_nil), fun nx hn => ?_⟩
    · rintro σ H' ⟨x0, x1, x2, v2, v3, xi, rfl, rfl⟩
      have hL : SqL K (upd H a (.lst (bagL x0 x1 x2 c))) a (bagL x0 x1 x2 c) := SqL.of upd_same
      have p0 := xi.h0
      have p1 := xi.h1
      have p1' := xi.h1'
      -- if bag[0] > 0
      refine ⟨_, rfl, a, _, _, _, rfl, rfl, hL, rfl, _, _, rfl, rfl, _, rfl, ?_⟩
      refine ite2 (fun h0 => ?_) (fun h0 => ?_)
      · refine ⟨_, rfl, a, _, _, _, rfl, rfl, hL, rfl, .inl ⟨_, rfl, _, rfl, _, _, rfl, rfl, hm, ?_⟩⟩
        refine ⟨_, rfl, a, _, _, _, rfl, rfl, hL, rfl, _, rfl, _, _, rfl, rfl, ⟨hm, hm2⟩, _, rfl, a, _, _, 0, rfl, rfl, upd_same, rfl, ?_⟩
        refine ⟨_, rfl, ?_⟩
        have z := q (x0 % m) (x0 / m) x1 x2 (Int.emod_nonneg _ (by omega)) (Int.emod_lt_of_pos _ hm) ⟨Int.ediv_nonneg p0 (by omega), xi.h1, xi.h1', xi.h2⟩
        have e : upd (upd H a (.lst (bagL x0 x1 x2 c))) a (.lst ((bagL x0 x1 x2 c).set 0 (.int (x0 / m)))) = upd H a (.lst (bagL (x0 / m) x1 x2 c)) := upd_upd
        rw [e]
        exact z
      · -- begin, second
        refine ⟨_, rfl, a, _, _, _, rfl, rfl, hL, rfl, _, _, rfl, rfl, _, _, rfl, rfl, .inl ⟨by omega, by omega⟩, .inl ⟨_, rfl, _, _, rfl, rfl, pos_of (by decide), ?_⟩⟩
        have g1 : 0 ≤ ((x1 + 1) * 39373) % 1000000007 := Int.emod_nonneg _ (by decide)
        have g2 : ((x1 + 1) * 39373) % 1000000007 < 1000000007 := Int.emod_lt_of_pos _ (by decide)
        generalize ((x1 + 1) * 39373) % 1000000007 = bg at g1 g2 ⊢
        refine ⟨_, rfl, _, rfl, _, _, rfl, rfl, .inl ⟨by omega, by omega⟩, .inl ⟨_, rfl, _, _, rfl, rfl, pos_of (by decide), ?_⟩⟩
        have g3 : 0 ≤ (bg * bg) % 998244353 := Int.emod_nonneg _ (by decide)
        have g4 : (bg * bg) % 998244353 < 998244353 := Int.emod_lt_of_pos _ (by decide)
        generalize (bg * bg) % 998244353 = sq at g3 g4 ⊢
        refine ⟨_, _, rfl, rfl, .inl ⟨by omega, by omega⟩, .inl ⟨_, rfl, _, _, rfl, rfl, pos_of (by decide), ?_⟩⟩
        have g5 : 0 ≤ (sq * 30011) % 998244353 := Int.emod_nonneg _ (by decide)
        have g6 : (sq * 30011) % 998244353 < 998244353 := Int.emod_lt_of_pos _ (by decide)
        generalize (sq * 30011) % 998244353 = sc at g5 g6 ⊢
        refine ⟨_, rfl, _, _, rfl, rfl, _, rfl, ?_⟩
        refine ite2 (fun h1 => ?_) (fun h1 => ?_)
        · refine ⟨_, rfl, _, _, rfl, rfl, .inl ⟨by omega, by omega⟩, _, rfl, _, _, rfl, rfl, .inl ⟨_, rfl, _, rfl, _, _, rfl, rfl, hm, ?_⟩⟩
          exact q _ x0 x1 x2 (Int.emod_nonneg _ (by omega)) (Int.emod_lt_of_pos _ hm) xi
        · refine ⟨_, rfl, _, _, rfl, rfl, ⟨by decide, by decide⟩, .inl ⟨_, rfl, _, rfl, _, _, rfl, rfl, hm, ?_⟩⟩
          exact q _ x0 x1 x2 (Int.emod_nonneg _ (by omega)) (Int.emod_lt_of_pos _ hm) xi
    · -- the cell
      have sa : SqL K H a (bagL b0 b1 b2 c) := SqL.of ha
      have p1 := bi.h1
      have p1' := bi.h1'
      have p2 := bi.h2
      refine ⟨_, rfl, a, _, _, _, rfl, rfl, sa, rfl, rfl, _, rfl, ?_⟩
      refine ite2 (fun h0 => ?_) (fun h0 => ?_)
      · refine ⟨_, rfl, a, _, _, _, rfl, rfl, sa, rfl, _, rfl, a, _, _, _, rfl, rfl, sa, rfl, c, _, rfl, .inl (SqL.of hc), _, _, rfl, rfl, _, rfl, ?_⟩
        refine ite2 (fun h1 => ?_) (fun h1 => ?_)
        · have h1' : b2 < (ns.length : Int) := by
            have z := of_decide_eq_true h1
            rwa [List.length_map] at z
          obtain ⟨j, ej⟩ : ∃ j : Nat, b2 = (j : Int) := ⟨b2.toNat, by omega⟩
          have hj : j < ns.length := by omega
          have hz : 0 ≤ ns[j] := hns _ (List.getElem_mem hj)
          refine ⟨_, rfl, a, _, _, _, rfl, rfl, sa, rfl, _, rfl, a, _, _, _, rfl, rfl, sa, rfl, c, _, _, V.int ns[j], rfl, rfl, SqL.of hc, at_of (j := j) ej (by rw [List.getElem?_map, List.getElem?_eq_getElem hj]; rfl), ?_⟩
          refine ⟨_, rfl, a, _, 2, _, rfl, rfl, sa, rfl, _, _, rfl, rfl, a, _, _, 2, rfl, rfl, ha, rfl, ?_⟩
          refine ⟨_, rfl, _, _, rfl, rfl, _, rfl, ?_⟩
          refine ite2 (fun h2 => ?_) (fun h2 => ?_)
          · refine ⟨_, rfl, _, rfl, a, _, _, 0, rfl, rfl, upd_same, rfl, ?_⟩
            refine ⟨_, rfl, a, _, _, _, rfl, rfl, SqL.of upd_same, rfl, _, _, rfl, rfl, .inl ⟨by omega, by omega⟩, _, rfl, .inl ⟨_, rfl, _, _, rfl, rfl, pos_of (by decide), _, _, rfl, rfl, _, rfl, a, _, _, _, rfl, rfl, SqL.of upd_same, rfl, _, _, rfl, rfl, .inl ⟨by decide, by decide⟩, _, _, rfl, rfl, ?_⟩⟩
            refine ⟨_, rfl, .inl ⟨_, rfl, _, _, rfl, rfl, pos_of (by decide), _, rfl, a, _, _, 1, rfl, rfl, upd_same, rfl, ?_⟩⟩
            exact hn _ _ ⟨_, _, b2 + 1, _, _, ⟨hz, Int.emod_nonneg _ (by decide), Int.emod_lt_of_pos _ (by decide), by omega⟩, rfl, by rw [upd_upd, upd_upd]; rfl⟩
          · refine ⟨_, rfl, a, _, _, _, rfl, rfl, SqL.of upd_same, rfl, _, _, rfl, rfl, .inl ⟨by omega, by omega⟩, _, rfl, .inl ⟨_, rfl, _, _, rfl, rfl, pos_of (by decide), _, _, rfl, rfl, _, rfl, a, _, _, _, rfl, rfl, SqL.of upd_same, rfl, _, _, rfl, rfl, .inl ⟨by decide, by decide⟩, _, _, rfl, rfl, ?_⟩⟩
            refine ⟨_, rfl, .inl ⟨_, rfl, _, _, rfl, rfl, pos_of (by decide), _, rfl, a, _, _, 1, rfl, rfl, upd_same, rfl, ?_⟩⟩
            exact hn _ _ ⟨_, _, b2 + 1, _, _, ⟨bi.h0, Int.emod_nonneg _ (by decide), Int.emod_lt_of_pos _ (by decide), by omega⟩, rfl, by rw [upd_upd]; rfl⟩
        · refine ⟨_, rfl, a, _, 2, _, rfl, rfl, sa, rfl, _, _, rfl, rfl, a, _, _, 2, rfl, rfl, ha, rfl, ?_⟩
          refine ⟨_, rfl, _, _, rfl, rfl, _, rfl, ?_⟩
          refine ite2 (fun h2 => ?_) (fun h2 => ?_)
          · exact absurd (of_decide_eq_true h2) (by decide)
          · refine ⟨_, rfl, a, _, _, _, rfl, rfl, SqL.of upd_same, rfl, _, _, rfl, rfl, .inl ⟨by omega, by omega⟩, _, rfl, .inl ⟨_, rfl, _, _, rfl, rfl, pos_of (by decide), _, _, rfl, rfl, _, rfl, a, _, _, _, rfl, rfl, SqL.of upd_same, rfl, _, _, rfl, rfl, .inl ⟨by decide, by decide⟩, _, _, rfl, rfl, ?_⟩⟩
            refine ⟨_, rfl, .inl ⟨_, rfl, _, _, rfl, rfl, pos_of (by decide), _, rfl, a, _, _, 1, rfl, rfl, upd_same, rfl, ?_⟩⟩
            exact hn _ _ ⟨_, _, b2 + 1, _, _, ⟨bi.h0, Int.emod_nonneg _ (by decide), Int.emod_lt_of_pos _ (by decide), by omega⟩, rfl, by rw [upd_upd]; rfl⟩
      · exact hn _ _ ⟨b0, b1, b2, none, none, bi, rfl, (upd_self ha).symm⟩
end

-- b
section
variable {P : Program} {w : World} {K : PySem.W.Frag} {mg : Str → Option Value} {base : Heap}

abbrev s_is_integer : Stmt := (topS 8)
theorem sc_is_integer : FnScope ["thing"] ["thing"] (defScope s_is_integer) := ⟨rfl, rfl, rfl, by decide +kernel, rfl, by decide +kernel, by decide +kernel⟩
theorem ok_is_integer {f : Addr} {fd : FuncData} (F : Fun K "is_integer" "is_integer" s_is_integer f fd) (T : BT mg) :
    FnOk P w K mg base CX0 1 f fd ["thing"] (spPred Any isIntD) := by
  refine F.ok sc_is_integer (fun vs H Q E h => ?_) (fun cdv A outer s H vs Q E hr h => ?_)
  · obtain ⟨v, d, rfl, _⟩ := h
    rfl
  · obtain ⟨v, d, rfl, hd, hz, q⟩ := h
    have q' := q H (Ext.refl H)
    rw [isIntD_eq] at q'
    refine ⟨_, (pss_one (ps_ret (pe_and (pe_callB call_isi (by rfl) T.n_isinstance (by decide +kernel) (pa_cons (pv 0) (pa_cons (pe_bltn (v := .ty "int") (by rfl) T.n_int (by decide +kernel) rfl) pa_nil))) (pe_one (pe_not (pe_callB call_isi (by rfl) T.n_isinstance (by decide +kernel) (pa_cons (pv 0) (pa_cons (pe_bltn (v := .ty "bool") (by rfl) T.n_bool (by decide +kernel) rfl) pa_nil)))))))), ?_⟩
    refine ⟨_, rfl, _, _, _, _, _, rfl, .ty "int", ty_of hd, ki_int d, _, rfl, ?_⟩
    refine ite2 (fun h => ?_) (fun h => ?_)
    · refine ⟨_, rfl, _, _, _, _, _, rfl, .ty "bool", ty_of hd, ki_bool d, _, rfl, ?_⟩
      rw [h, Bool.true_and] at q'
      exact q'
    · rw [Bool.eq_false_iff.mpr h, Bool.false_and] at q'
      exact q'

abbrev s_is_name : Stmt := (topS 9)
theorem sc_is_name : FnScope ["thing", "letter"] ["thing"] (defScope s_is_name) := ⟨rfl, rfl, rfl, by decide +kernel, rfl, by decide +kernel, by decide +kernel⟩
theorem ok_is_name {f : Addr} {fd : FuncData} (F : Fun K "is_name" "is_name" s_is_name f fd) (T : BT mg) {tl : Tok} {tn : Tok} (gLet : mg "LETTERS" = some (.str abc tl)) (gLong : mg "LONGEST" = some (.int 8 tn)) :
    FnOk P w K mg base CX0 1 f fd ["thing"] (spPred Ok1 isNameD) := by
  refine F.ok sc_is_name (fun vs H Q E h => ?_) (fun cdv A outer s H vs Q E hr h => ?_)
  · obtain ⟨v, d, rfl, _⟩ := h
    rfl
  · obtain ⟨v, d, rfl, hd, hz, q⟩ := h
    refine ⟨_, (pss_cons (ps_if (PW.pt (pw_or (pt_not (pt_val (pe_callB call_isi (by rfl) T.n_isinstance (by decide +kernel) (pa_cons (pv 0) (pa_cons (pe_bltn (v := .ty "str") (by rfl) T.n_str (by decide +kernel) rfl) pa_nil))))) (pw_or1 (pt_not (pt_chain op_le op_le pe_int (pe_callB call_len_str (by rfl) T.n_len (by decide +kernel) (pa_cons (pv 0) pa_nil)) (pe_glob (v := .int 8) rfl gLong ⟨_, rfl⟩))))))
      (pss_one (ps_ret pe_bl))
      pss_nil)
    (pss_one (ps_ret (pe_callB (cr_all rfl) (by rfl) T.n_all (by decide +kernel) (pa_cons (pe_lc (own := [("letter", 1)]) (g := gName 1) (tt := tYes) rfl sc_is_name.nd (pi_str (pv 0)) (blkOk_by (N := ["thing", "letter"]) (sc := defScope s_is_name) (by decide +kernel)) (fun _ _ _ _ _ => (pg_name (i := 1) sc_is_name.nd rfl (.inl rfl))) (fun _ _ _ _ _ => pts_nil) (fun _ _ _ _ _ => (pe_cmpR op_in_sign (pv 1) (pe_glob (v := .str abc) rfl gLet ⟨_, rfl⟩) (by rfl)))) pa_nil))))), ?_⟩
    refine ⟨_, rfl, _, _, _, _, _, rfl, .ty "str", ty_of hd, ki_str d, _, rfl, ?_⟩
    refine ite2 (fun h => ?_) (fun h => ?_)
    · have q' := q H (Ext.refl H)
      rw [kS_not h] at q'
      exact iteT q'
    · obtain ⟨x, rfl, rfl⟩ := dq_str hd (kS_yes h)
      have hx : x.length ≤ 1000 := (hz x rfl).1
      have hx2 : x.length ≤ sizeLine := Nat.le_trans hx (by decide)
      have qx : Q (.bl (isNameS x)) H := q H (Ext.refl H)
      refine ⟨_, rfl, _, rfl, hx2, _, _, rfl, rfl, _, rfl, ?_⟩
      refine ite2 (fun h1 => ?_) (fun h1 => ?_)
      · refine ⟨_, _, rfl, rfl, _, rfl, ?_⟩
        have h1' : (1 : Int) ≤ (x.length : Int) := of_decide_eq_true h1
        refine ite2 (fun h2 => ?_) (fun h2 => ?_)
        · have h2' : ¬ (x.length : Int) ≤ 8 := by simpa using h2
          rw [isNameS_short (by omega)] at qx
          exact qx
        · have h2' : (x.length : Int) ≤ 8 := by simpa using h2
          rw [isNameS_long (by omega)] at qx
          refine ⟨_, rfl, x, rfl, fun D hD => ?_⟩
          refine lc_det walk_str (sg x) (fun _ => true) (fun i => V.bl (decide (x.cps.toList.getD i 0 ∈ abc.cps.toList))) hD hx2 its_sg (fun _ _ => trivial)
            (fun i H' _ _ Q' q' => q') (fun i H' _ _ _ Q' q' => ⟨_, rfl, _, abc, rfl, rfl, q'⟩) ?_
          rw [signs_all x fun c => decide (c ∈ abc.cps.toList)]
          refine ⟨D, _, rfl, SqL.of upd_same, ?_⟩
          rw [all_id_map]
          have q2 := q (upd H D (.lst ((x.cps.toList.map fun c => decide (c ∈ abc.cps.toList)).map V.bl))) (Ext.new hD)
          have e2 : isNameD (.str x) = x.cps.toList.all fun c => decide (c ∈ abc.cps.toList) := isNameS_long (by omega)
          rw [e2] at q2
          exact q2
      · have h1' : ¬ (1 : Int) ≤ (x.length : Int) := by simpa using h1
        rw [isNameS_short (by omega)] at qx
        exact ⟨_, rfl, iteT qx⟩
end

-- d
section
variable {P : Program} {w : World} {K : PySem.W.Frag} {mg : Str → Option Value} {base : Heap}
abbrev s__law_alike : Stmt := (topS 19)
theorem sc__law_alike : FnScope ["_law_found", "_law_due"] ["_law_found", "_law_due"] (defScope s__law_alike) := ⟨rfl, rfl, rfl, by decide +kernel, rfl, by decide +kernel, by decide +kernel⟩
theorem ok_alike {f : Addr} {fd : FuncData} (F : Fun K "_law_alike" "_law_alike" s__law_alike f fd) (T : BT mg) :
    FnG P w K mg base 1 f fd ["_law_found", "_law_due"] spAlike := by
  refine okG F sc__law_alike (fun vs H Q E h => ?_) (fun cdv A outer s H vs Q E hG hr h => ?_)
  · obtain ⟨v, u, d, rfl, _⟩ := h
    rfl
  · obtain ⟨v, u, d, rfl, S, h1, h2, hs, ft, q⟩ := h
    refine ⟨_, (pss_one (ps_ret (pe_and (pe_cmpR (op_eqQ hr) (pv 0) (pv 1) (nomark _)) (pe_one (pe_cmpR op_eq (pe_callB (call_reprD hG hr) (by rfl) T.n_repr (by decide +kernel) (pa_cons (pv 0) pa_nil)) (pe_callB (call_reprD hG hr) (by rfl) T.n_repr (by decide +kernel) (pa_cons (pv 1) pa_nil)) (nomark _)))))), ?_⟩
    refine ⟨_, rfl, _, rfl, d, d, S, h1, h2, hs, hs, _, rfl, ?_⟩
    rw [SeqAt.eqv_refl d (SeqAt.canLay_of_shaped hs)]
    refine iteT ?_
    refine ⟨_, rfl, v, d, rfl, S, h1, ft.sh, ft.dep, ft.len, _, rfl, u, d, rfl, S, h2, ft.sh, ft.dep, ft.len, rfl, ?_⟩
    have e : decide (V.str d.shown = V.str d.shown) = true := decide_eq_true rfl
    rw [e]
    exact q H (Ext.refl H)
end

-- f
section
variable {P : Program} {w : World} {K : PySem.W.Frag} {mg : Str → Option Value} {base : Heap}

abbrev s__law_bag : Stmt := (topS 17)
theorem sc__law_bag : FnScope ["_law_script", "_law_cell"] ["_law_script"] (defScope s__law_bag) := ⟨rfl, rfl, rfl, by decide +kernel, rfl, by decide +kernel, by decide +kernel⟩
theorem ok_bag {f : Addr} {fd : FuncData} (F : Fun K "_law_bag" "_law_bag" s__law_bag f fd) (T : BT mg) :
    FnOk P w K mg base CX0 1 f fd ["_law_script"] (spBag0 K) := by
  refine F.ok sc__law_bag (fun vs H Q E h => ?_) (fun cdv A outer s H vs Q E hr h => ?_)
  · obtain ⟨a, ns, rfl, _⟩ := h
    rfl
  · obtain ⟨a, ns, rfl, hs, hl, q⟩ := h
    refine ⟨_, (pss_one (ps_ret (pe_lst (pa_cons pe_int (pa_cons pe_int (pa_cons pe_int (pa_cons (pe_lc (own := [("_law_cell", 1)]) (g := gName 1) (tt := tYes) rfl sc__law_bag.nd (pi_list (pe_slice sl_list (pv 0) po_none (po_some pe_int))) (blkOk_by (N := ["_law_script", "_law_cell"]) (sc := defScope s__law_bag) (by decide +kernel)) (fun _ _ _ _ _ => (pg_name (i := 1) sc__law_bag.nd rfl (.inl rfl))) (fun _ _ _ _ _ => pts_nil) (fun _ _ _ _ _ => (pe_callB call_abs (by rfl) T.n_abs (by decide +kernel) (pa_cons (pv 1) pa_nil)))) pa_nil))))))), ?_⟩
    obtain ⟨cs, ec, hc⟩ := cut_ints ns none (some 63)
    refine ⟨_, rfl, _, rfl, a, _, rfl, hs, fun p hp => ?_⟩
    rw [ec]
    have e1 : Ext H (upd H p (.lst (cs.map V.int))) := Ext.new hp
    refine ⟨p, rfl, ⟨_, SqL.of upd_same⟩, fun D hD => ?_⟩
    have e2 : Ext (upd H p (.lst (cs.map V.int))) (upd (upd H p (.lst (cs.map V.int))) D (.lst ((cs.map fun i => if i < 0 then -i else i).map V.int))) := Ext.new hD
    refine lc_det (walk_list (K := K) (a := p) (xs := cs.map V.int)) (fun i => .int (cs.getD i 0)) (fun _ => true) (fun i => .int (if cs.getD i 0 < 0 then -(cs.getD i 0) else cs.getD i 0)) hD (by rw [List.length_map]; exact Nat.le_trans hc (Nat.le_trans hl (by decide)))
      ?_ (fun H' e => SqL.of (e _ _ upd_same)) (fun i H' _ _ Q' q' => q') (fun i H' _ _ _ Q' q' => ⟨_, rfl, _, rfl, q'⟩) ?_
    · rintro i H' x H'' hi ⟨rfl, hx⟩
      refine ⟨rfl, ?_⟩
      rw [List.getElem?_map] at hx
      rw [List.getD_eq_getElem?_getD]
      cases e : cs[i]? with
      | none => rw [e] at hx; cases hx
      | some z => rw [e] at hx; exact (Option.some.inj hx).symm
    · rw [List.filter_eq_self.mpr (fun _ _ => rfl), List.length_map, map_range_getI (fun i => V.int (if i < 0 then -i else i)) cs]
      have em : (cs.map fun i => V.int (if i < 0 then -i else i)) = (cs.map fun i => if i < 0 then -i else i).map V.int := by
        rw [List.map_map]
        rfl
      rw [em]
      refine ⟨by show 4 ≤ sizeLine; decide, fun r hr' => ?_⟩
      have e3 := Ext.new (o := .lst (bagL 0 1234567891 0 D)) hr'
      have nDr : D ≠ r := fun z => by rw [← z, upd_same] at hr'; cases hr'
      refine q r D (cs.map fun i => if i < 0 then -i else i) _ ((e1.trans e2).free hr') ((e1.trans e2).trans e3) upd_same (by rw [upd_ne nDr, upd_same]) ?_ nDr
      intro n hn
      obtain ⟨i, _, rfl⟩ := List.mem_map.mp hn
      split <;> omega
end

-- g
section
variable {P : Program} {w : World} {K : PySem.W.Frag} {mg : Str → Option Value} {base : Heap}
abbrev s__law_names : Stmt := (topS 21)
theorem sc__law_names : FnScope ["_law_bag_here", "_law_many", "_law_letters", "_law_words", "_law_style", "_law_turn", "_law_base", "_law_at", "_law_k"] ["_law_bag_here", "_law_many"] (defScope s__law_names) := ⟨rfl, rfl, rfl, by decide +kernel, rfl, by decide +kernel, by decide +kernel⟩
theorem ok_names {f : Addr} {fd : FuncData} (F : Fun K "_law_names" "_law_names" s__law_names f fd) (T : BT mg)
    (CT : Ca P w K mg base 1 "_law_take" ["_law_bag_here", "_law_many"] spTake) :
    FnOk P w K mg base CX0 2 f fd ["_law_bag_here", "_law_many"] spNames := by
  refine F.ok sc__law_names (fun vs H Q E h => ?_) (fun cdv A outer s H vs Q E hr h => ?_)
  · obtain ⟨a, m, rfl, _⟩ := h
    rfl
  · obtain ⟨a, m, rfl, hb, hm1, hm8, q⟩ := h
    refine ⟨_, (pss_cons (ps_set (i := 2) sc__law_names.nd rfl (.inr rfl) pe_str)
    (pss_cons (ps_set (i := 3) sc__law_names.nd rfl (.inl rfl) pe_str)
    (pss_cons (ps_set (i := 3) sc__law_names.nd rfl (.inl rfl) (pe_split (pe_op op_add_str (pv 3) pe_str) pe_str))
    (pss_cons (ps_asg (pe_tup (pa_cons (pe_ca CT (hr.mono (by decide)) (by rfl) (pa_cons (pv 0) (pa_cons pe_int pa_nil))) (pa_cons (pe_ca CT (hr.mono (by decide)) (by rfl) (pa_cons (pv 0) (pa_cons pe_int pa_nil))) pa_nil))) (pg_tup (by rfl) (pgs_cons (pg_name (i := 4) sc__law_names.nd rfl (.inl rfl)) (pgs_cons (pg_name (i := 5) sc__law_names.nd rfl (.inr rfl)) pgs_nil))))
    (pss_cons (ps_set (i := 6) sc__law_names.nd rfl (.inr rfl) (pe_join pe_str (pe_lc (own := [("_law_k", 8)]) (g := gName 8) (tt := tYes) rfl sc__law_names.nd (pi_range1 (by rfl) T.n_range (pa_cons (pe_op op_add pe_int (pe_ca CT (hr.mono (by decide)) (by rfl) (pa_cons (pv 0) (pa_cons pe_int pa_nil)))) pa_nil)) (blkOk_by (N := ["_law_bag_here", "_law_many", "_law_letters", "_law_words", "_law_style", "_law_turn", "_law_base", "_law_at", "_law_k"]) (sc := defScope s__law_names) (by decide +kernel)) (fun _ _ _ _ _ => (pg_name (i := 8) sc__law_names.nd rfl (.inl rfl))) (fun _ _ _ _ _ => pts_nil) (fun _ _ _ _ _ => (pe_ix ix_str (pv 2) (pe_ca CT (hr.mono (by decide)) (by rfl) (pa_cons (pv 0) (pa_cons pe_int pa_nil))) (fun _ _ => rfl))))))
    (pss_cons (ps_set (i := 7) sc__law_names.nd rfl (.inr rfl) (pe_ca CT (hr.mono (by decide)) (by rfl) (pa_cons (pv 0) (pa_cons (pe_op op_add (pe_callB call_len_str (by rfl) T.n_len (by decide +kernel) (pa_cons (pv 6) pa_nil)) pe_int) pa_nil))))
    (pss_cons (ps_if (pt_cmpR op_eq (pv 4) pe_int (nomark _))
      (pss_one (ps_ret (pe_slice sl_list (pe_op op_cat (pe_slice sl_list (pv 3) (po_some (pv 5)) po_none) (pe_slice sl_list (pv 3) po_none (po_some (pv 5)))) po_none (po_some (pv 1)))))
      pss_nil)
    (pss_cons (ps_if (pt_cmpR op_eq (pv 4) pe_int (nomark _))
      (pss_one (ps_ret (pe_lc (own := [("_law_k", 8)]) (g := gName 8) (tt := tYes) rfl sc__law_names.nd (pi_range1 (by rfl) T.n_range (pa_cons (pv 1) pa_nil)) (blkOk_by (N := ["_law_bag_here", "_law_many", "_law_letters", "_law_words", "_law_style", "_law_turn", "_law_base", "_law_at", "_law_k"]) (sc := defScope s__law_names) (by decide +kernel)) (fun _ _ _ _ _ => (pg_name (i := 8) sc__law_names.nd rfl (.inl rfl))) (fun _ _ _ _ _ => pts_nil) (fun _ _ _ _ _ => (pe_ix ix_str (pv 2) (pe_op op_mod (pe_callTy call_int1 (by rfl) T.n_int (by decide +kernel) (pa_cons (pe_op op_add (pv 5) (pe_op op_mul pe_int (pv 8))) pa_nil)) pe_int) (fun _ _ => rfl))))))
      pss_nil)
    (pss_one (ps_ret (pe_lc (own := [("_law_k", 8)]) (g := gName 8) (tt := tYes) rfl sc__law_names.nd (pi_range1 (by rfl) T.n_range (pa_cons (pv 1) pa_nil)) (blkOk_by (N := ["_law_bag_here", "_law_many", "_law_letters", "_law_words", "_law_style", "_law_turn", "_law_base", "_law_at", "_law_k"]) (sc := defScope s__law_names) (by decide +kernel)) (fun _ _ _ _ _ => (pg_name (i := 8) sc__law_names.nd rfl (.inl rfl))) (fun _ _ _ _ _ => pts_nil) (fun _ _ _ _ _ => (pe_op op_add_str (pe_op op_add_str (pe_slice sl_str (pv 6) po_none (po_some (pv 7))) (pe_ix ix_str (pv 2) (pe_op op_mod (pe_callTy call_int1 (by rfl) T.n_int (by decide +kernel) (pa_cons (pe_op op_add (pv 5) (pe_op op_mul pe_int (pv 8))) pa_nil)) pe_int) (fun _ _ => rfl))) (pe_slice sl_str (pv 6) (po_some (pv 7)) po_none)))))))))))))), ?_⟩
    -- the words
    refine ⟨_, rfl, _, _, rfl, rfl, by decide +kernel, ⟨_, rfl⟩, _, _, rfl, rfl, by decide +kernel, by decide +kernel, fun pw hpw => ?_⟩
    rw [show Txt.split (Str.ofString "send take ended close else first any step quit server back again where log a b ab ba z" ++ Str.ofString " stuck seat sticks lane") (Str.ofString " ") = wordL from split_words]
    have e1 := Ext.new (o := .lst (wordL.map V.str)) hpw
    have hw1 : upd H pw (.lst (wordL.map V.str)) pw = some (.lst (wordL.map V.str)) := upd_same
    generalize upd H pw (.lst (wordL.map V.str)) = H1 at e1 hw1 ⊢
    -- style, turn
    refine ⟨_, rfl, a, 4, rfl, hb.up e1, by decide, by decide, fun r0 l0 u0 => ⟨_, rfl, a, 20, rfl, hb.up e1, by decide, by decide, fun r1 l1 u1 => ⟨by show 2 ≤ sizeLine; decide, fun pt hpt => ?_⟩⟩⟩
    have e2 := e1.trans (Ext.new (o := .tup [.int r0, .int r1]) hpt)
    have hw2 := Ext.new (o := .tup [.int r0, .int r1]) hpt _ _ hw1
    refine ⟨pt, _, rfl, SqT.of upd_same, rfl, _, _, rfl, _, _, rfl, rfl, ?_⟩
    generalize upd H1 pt (.tup [.int r0, .int r1]) = H2 at e2 hw2 ⊢
    -- the base
    refine ⟨⟨_, rfl⟩, _, rfl, a, 7, rfl, hb.up e2, by decide, by decide, fun r2 l2 u2 => ⟨_, _, rfl, rfl, _, rfl, by omega, by omega, fun D hD => ?_⟩⟩
    refine lc_ext walk_range (fun _ v _ => ∃ c, c ∈ abcL ∧ v = .str (one c)) (fun _ _ _ _ _ h => h) hD (by show (1 + r2).toNat ≤ 2 ^ 24; omega) (fun _ _ => trivial) ?_ ?_
    · rintro i x H' H'' hi e ⟨rfl, rfl⟩
      refine ⟨Ext.refl _, fun Q' q' => ?_⟩
      refine ⟨_, rfl, _, rfl, a, 26, rfl, hb.up (e2.trans e), by decide, by decide, fun r l u => ?_⟩
      obtain ⟨j, rfl⟩ : ∃ j : Nat, r = (j : Int) := ⟨r.toNat, by omega⟩
      have hj : j < 26 := by omega
      exact ⟨_, _, 97 + j, rfl, rfl, by decide +kernel, atI_nat (abc_at j hj), q' _ _ (Ext.refl _) ⟨_, abc_mem hj, rfl⟩⟩
    intro H3 xs e3 hD3 hl hR
    obtain ⟨cs, rfl, hcl, hcm⟩ := ones_of hl hR
    have hcs1 : 1 ≤ cs.length := by rw [hcl]; omega
    have hcs7 : cs.length ≤ 7 := by rw [hcl]; omega
    refine ⟨_, D, cs.map one, rfl, rfl, .inl (SqL.of hD3), by rw [ones_len, List.length_map]; show cs.length + cs.length * 0 ≤ _; omega, ?_⟩
    have hj := join_signs cs
    have ej : Txt.join (Str.ofString "") (cs.map one) = Txt.join "" (cs.map one) := rfl
    rw [ej]
    generalize Txt.join "" (cs.map one) = b at hj ⊢
    have hbl : b.length = cs.length := by rw [tlen, hj]
    have e23 := e2.trans e3
    have hw3 := e3 _ _ hw2
    -- the place
    refine ⟨_, rfl, _, rfl, _, rfl, by rw [hbl]; show _ ≤ 2 ^ 24; omega, _, _, rfl, rfl, a, _, rfl, hb.up e23, by omega, by omega, fun r3 l3 u3 => ?_⟩
    obtain ⟨t, rfl⟩ : ∃ j : Nat, r1 = (j : Int) := ⟨r1.toNat, by omega⟩
    obtain ⟨at_, rfl⟩ : ∃ j : Nat, r3 = (j : Int) := ⟨r3.toNat, by omega⟩
    obtain ⟨k, rfl⟩ : ∃ j : Nat, m = (j : Int) := ⟨m.toNat, by omega⟩
    have hk8 : k ≤ 8 := by omega
    have ha : at_ ≤ cs.length := by omega
    refine ⟨_, rfl, rfl, _, rfl, ?_⟩
    refine ite2 (fun g0 => ?_) (fun g0 => ?_)
    · refine ⟨_, rfl, _, rfl, _, rfl, pw, _, rfl, SqL.of hw3, fun p1 h1 => ?_⟩
      have f1 := Ext.new (o := .lst (cutV (wordL.map V.str) (some (t : Int)) none)) h1
      refine ⟨_, rfl, _, rfl, _, rfl, pw, _, rfl, SqL.of (f1 _ _ hw3), fun p2 h2 => ?_⟩
      have f2 := Ext.new (o := .lst (cutV (wordL.map V.str) none (some (t : Int)))) h2
      refine ⟨p1, p2, _, _, rfl, rfl, f2 _ _ upd_same, upd_same, ?_, fun p3 h3 => ?_⟩
      · have z1 := cutV_length (wordL.map V.str) (some (t : Int)) none
        have z2 := cutV_length (wordL.map V.str) none (some (t : Int))
        have z3 : (wordL.map V.str).length = 23 := rfl
        show _ ≤ 2 ^ 24
        omega
      · have f3 := Ext.new (o := .lst (cutV (wordL.map V.str) (some (t : Int)) none ++ cutV (wordL.map V.str) none (some (t : Int)))) h3
        refine ⟨_, rfl, _, rfl, p3, _, rfl, SqL.of upd_same, fun p4 h4 => ?_⟩
        have el : cutV (cutV (wordL.map V.str) (some (t : Int)) none ++ cutV (wordL.map V.str) none (some (t : Int))) none (some (k : Int)) = ((wordL.drop t ++ wordL.take t).take k).map V.str := by
          rw [cut_drop, cut_take, cut_take, List.map_take, List.map_append, List.map_drop, List.map_take]
        rw [el]
        have e4 := ((e23.trans f1).trans f2).trans f3
        exact q p4 _ _ (e4.trans (Ext.new h4)) (e4.free h4) upd_same (names0 t k (by omega) (by omega))
    · refine ⟨_, rfl, rfl, _, rfl, ?_⟩
      refine ite2 (fun g1 => ?_) (fun g1 => ?_)
      · refine ⟨_, rfl, _, rfl, by omega, by omega, fun D4 hD4 => ?_⟩
        refine lc_det walk_range (fun i => .int (0 + (i : Int))) (fun _ => true) (fun i => .str (one (let1 t i))) hD4 (by show _ ≤ 2 ^ 24; omega) (fun i H x H' _ y => y) (fun _ _ => trivial) (fun i H' _ _ Q' q' => q') (fun i H' hi _ _ Q' q' => ?_) ?_
        · refine ⟨_, rfl, _, rfl, _, rfl, _, _, rfl, rfl, .inl ⟨by decide, by decide⟩, _, _, rfl, rfl, .inl ⟨_, rfl, _, _, rfl, rfl, pos_of (by decide), _, _, let1 t i, rfl, rfl, by decide +kernel, ?_, q'⟩⟩
          have ev : ((t : Int) + 3 * (0 + (i : Int))) % 26 = (((t + 3 * i) % 26 : Nat) : Int) := by omega
          show atI _ (((t : Int) + 3 * (0 + (i : Int))) % 26) = _
          rw [ev]
          exact atI_nat (abc_at _ (Nat.mod_lt _ (by decide)))
        · rw [List.filter_eq_self.mpr (fun _ _ => rfl)]
          have em : ((List.range (k : Int).toNat).map fun i => V.str (one (let1 t i))) = ((List.range k).map fun i => one (let1 t i)).map V.str := by
            rw [List.map_map]
            rfl
          rw [em]
          exact q D4 _ _ (e23.trans (Ext.new hD4)) (e23.free hD4) upd_same (names1 t k hk8)
      · refine ⟨_, rfl, _, rfl, by omega, by omega, fun D4 hD4 => ?_⟩
        refine lc_det walk_range (fun i => .int (0 + (i : Int))) (fun _ => true) (fun i => .str (cutS b none (some (at_ : Int)) ++ one (let1 t i) ++ cutS b (some (at_ : Int)) none)) hD4 (by show _ ≤ 2 ^ 24; omega) (fun i H x H' _ y => y) (fun _ _ => trivial) (fun i H' _ _ Q' q' => q') (fun i H' hi _ _ Q' q' => ?_) ?_
        · have hb2 : b.length ≤ 2 ^ 24 := by omega
          have c1 := cutS_length b none (some (at_ : Int))
          have c2 := cutS_length b (some (at_ : Int)) none
          refine ⟨_, rfl, _, rfl, _, rfl, b, rfl, hb2, ?_⟩
          refine ⟨_, rfl, _, rfl, _, rfl, _, _, rfl, rfl, .inl ⟨by decide, by decide⟩, _, _, rfl, rfl, .inl ⟨_, rfl, _, _, rfl, rfl, pos_of (by decide), _, _, let1 t i, rfl, rfl, by decide +kernel, ?_, ?_⟩⟩
          · have ev : ((t : Int) + 3 * (0 + (i : Int))) % 26 = (((t + 3 * i) % 26 : Nat) : Int) := by omega
            show atI _ (((t : Int) + 3 * (0 + (i : Int))) % 26) = _
            rw [ev]
            exact atI_nat (abc_at _ (Nat.mod_lt _ (by decide)))
          · refine ⟨_, _, rfl, rfl, by show _ + 1 ≤ 2 ^ 24; omega, ?_⟩
            refine ⟨_, rfl, _, rfl, _, rfl, b, rfl, hb2, _, _, rfl, rfl, ?_, q'⟩
            have c3 : (cutS b none (some (at_ : Int)) ++ one (let1 t i)).length = (cutS b none (some (at_ : Int))).length + 1 := by
              rw [tlen, tlen, tl_app, List.length_append]
              rfl
            show (cutS b none (some (at_ : Int)) ++ one (let1 t i)).length + _ ≤ 2 ^ 24
            omega
        · rw [List.filter_eq_self.mpr (fun _ _ => rfl)]
          have em : ((List.range (k : Int).toNat).map fun i => V.str (cutS b none (some (at_ : Int)) ++ one (let1 t i) ++ cutS b (some (at_ : Int)) none)) = ((List.range k).map fun i => cutS b none (some (at_ : Int)) ++ one (let1 t i) ++ cutS b (some (at_ : Int)) none).map V.str := by
            rw [List.map_map]
            rfl
          rw [em]
          refine q D4 _ _ (e23.trans (Ext.new hD4)) (e23.free hD4) upd_same (names2 cs at_ t k _ hcs1 hcs7 hcm hk8 ha fun i _ => ?_)
          rw [tl_app, tl_app, cutS_take, cutS_drop, hj]
          rfl
end

end K12

set_option Elab.async false
set_option linter.all false
set_option maxRecDepth 100000
set_option maxHeartbeats 4000000
namespace K12
open PySem PySem.Spec PyProof.Rows L2 Ol RZ
open TL (tl)
/-! ### sizes -/
theorem nd_st (c : Nat) (b : Bool) : Nd (stD c b) := .tup (.cons (.int _) (.cons (.bl _) .nil))
theorem nd_ct (cs : List (Nat × Bool)) : Nd (ctD cs) := .tup (NdAll.of fun d hd => by
  obtain ⟨s, _, rfl⟩ := List.mem_map.mp hd
  exact nd_st _ _)
theorem nd_all (f : List (List (Nat × Bool))) : Nd (.list (f.map ctD)) := .lst (NdAll.of fun d hd => by
  obtain ⟨s, _, rfl⟩ := List.mem_map.mp hd
  exact nd_ct _)
theorem lay_all : ∀ {ds : List PyData}, (∀ d ∈ ds, d.canLay0 = true) → PyData.canLayAll0 ds = true
  | [], _ => by simp [PyData.canLayAll0]
  | d :: ds, h => by simp [PyData.canLayAll0, h d List.mem_cons_self, lay_all fun e he => h e (List.mem_cons_of_mem _ he)]
theorem lay_shaped {d : PyData} (h : d.canLay0 = true) (hd : d.depth ≤ 64) : SeqAt.shaped d = true := by
  unfold SeqAt.shaped
  rw [h, decide_eq_true hd]
  rfl
theorem lay_st (c : Nat) (b : Bool) : (stD c b).canLay0 = true := by simp [stD, PyData.canLay0, PyData.canLayAll0]
theorem lay_ct (cs : List (Nat × Bool)) : (ctD cs).canLay0 = true := by
  unfold ctD
  rw [PyData.canLay0]
  refine lay_all fun d hd => ?_
  obtain ⟨s, _, rfl⟩ := List.mem_map.mp hd
  exact lay_st _ _
theorem lay_cts (f : List (List (Nat × Bool))) : (PyData.list (f.map ctD)).canLay0 = true := by
  rw [PyData.canLay0]
  refine lay_all fun d hd => ?_
  obtain ⟨s, _, rfl⟩ := List.mem_map.mp hd
  exact lay_ct _
theorem gd_st (c : Nat) (b : Bool) (h : c ≤ 3) : Gd 1 (stD c b) := by
  refine gd_tuple (fun d hd => ?_) (by simp)
  simp only [List.mem_cons, List.not_mem_nil, or_false] at hd
  rcases hd with rfl | rfl
  · have : c = 0 ∨ c = 1 ∨ c = 2 ∨ c = 3 := by omega
    rcases this with rfl | rfl | rfl | rfl <;> exact gd_int _ (by decide +kernel) (by decide +kernel)
  · exact gd_bl b
theorem gd_ct (cs : List (Nat × Bool)) (hl : cs.length ≤ 3) (h : ∀ s ∈ cs, s.1 ≤ 3) : Gd 2 (ctD cs) := by
  refine gd_tuple (fun d hd => ?_) (by unfold ctL; rw [List.length_map]; omega)
  obtain ⟨s, hs, rfl⟩ := List.mem_map.mp hd
  exact gd_st _ _ (h s hs)
theorem fits_list {n : Nat} {ds : List PyData} (h : ∀ d ∈ ds, Gd n d) (hn : n ≤ 3) (h5 : ds.length ≤ 20) : Fits (.list ds) := by
  have h' : ∀ d ∈ ds, Gd 3 d := fun d hd => (h d hd).up hn
  obtain ⟨h1, h2, h3, h4⟩ := all_sh h'
  refine ⟨by simpa [PyData.showable] using h1, by simp only [PyData.depth]; omega, ?_⟩
  simp only [PyData.shown]
  have z := pile_le _ h3
  have z1 := listText_le (PyData.shownAll ds)
  rw [h4] at z
  have z2 : ds.length * (200 * 8 ^ 3 + 2) ≤ 20 * (200 * 8 ^ 3 + 2) := Nat.mul_le_mul_right _ h5
  exact Nat.le_trans (show _ ≤ 20 * (200 * 8 ^ 3 + 2) + 2 by omega) (by decide)
theorem name_gd {x : Str} (h : isNameS x = true) : Gd 0 (.str x) := by
  obtain ⟨h1, h2, h3⟩ := name_tl h
  exact gd_str x (by rw [tlen]; omega) fun c hc => abc_low c (h3 c hc)
theorem name_ok {x : Str} (h : isNameS x = true) : PyData.strOk x = true := by
  obtain ⟨h1, h2, h3⟩ := name_tl h
  unfold PyData.strOk
  rw [Array.all_eq_true_iff_forall_mem]
  intro c hc
  have hc' : c ∈ tl x := Array.mem_toList_iff.mpr hc
  exact decide_eq_true (Nat.lt_of_lt_of_le (abc_low c (h3 c hc')) (by decide))
end K12

set_option Elab.async false
set_option linter.all false
set_option maxRecDepth 100000
set_option maxHeartbeats 4000000
namespace K12
open PySem PySem.Spec PyProof.Rows L2 Ol RZ
open TL (tl)
/-! ### texts and ints as data -/
theorem dq_strs {H : Hp} : ∀ ns : List Str, DqAll H (ns.map V.str) (ns.map PyData.str)
  | [] => .nil
  | x :: ns => .cons (.str x) (dq_strs ns)
theorem dq_ints {H : Hp} : ∀ ns : List Int, DqAll H (ns.map V.int) (ns.map PyData.int)
  | [] => .nil
  | x :: ns => .cons (.int x) (dq_ints ns)
theorem eqv_strs : ∀ xs ys : List Str, PyData.eqvAll (xs.map PyData.str) (ys.map PyData.str) = decide (xs = ys)
  | [], [] => rfl
  | [], _ :: _ => rfl
  | _ :: _, [] => rfl
  | x :: xs, y :: ys => by
    rw [List.map_cons, List.map_cons, PyData.eqvAll, eqv_strs xs ys, PyData.eqv]
    by_cases h : x = y <;> by_cases h2 : xs = ys <;> simp [h, h2]
theorem eqv_ints : ∀ xs ys : List Int, PyData.eqvAll (xs.map PyData.int) (ys.map PyData.int) = decide (xs = ys)
  | [], [] => rfl
  | [], _ :: _ => rfl
  | _ :: _, [] => rfl
  | x :: xs, y :: ys => by
    rw [List.map_cons, List.map_cons, PyData.eqvAll, eqv_ints xs ys, PyData.eqv]
    by_cases h : x = y <;> by_cases h2 : xs = ys <;> simp [h, h2]
theorem lay_strs : ∀ {ns : List Str}, (∀ x ∈ ns, PyData.strOk x = true) → PyData.canLayAll0 (ns.map PyData.str) = true
  | [], _ => by simp [PyData.canLayAll0]
  | x :: ns, h => by simp [PyData.canLayAll0, PyData.canLay0, h x List.mem_cons_self, lay_strs fun y hy => h y (List.mem_cons_of_mem _ hy)]
theorem lay_ints : ∀ ns : List Int, PyData.canLayAll0 (ns.map PyData.int) = true
  | [] => by simp [PyData.canLayAll0]
  | x :: ns => by simp [PyData.canLayAll0, PyData.canLay0, lay_ints ns]
theorem dep_strs : ∀ ns : List Str, PyData.depthAll (ns.map PyData.str) ≤ 1
  | [] => by simp [PyData.depthAll]
  | x :: ns => by have := dep_strs ns; simp only [List.map_cons, PyData.depthAll, PyData.depth]; omega
theorem dep_ints : ∀ ns : List Int, PyData.depthAll (ns.map PyData.int) ≤ 1
  | [] => by simp [PyData.depthAll]
  | x :: ns => by have := dep_ints ns; simp only [List.map_cons, PyData.depthAll, PyData.depth]; omega
theorem sh_strs {ns : List Str} (h : ∀ x ∈ ns, isNameS x = true) : SeqAt.shaped (.tuple (ns.map PyData.str)) = true :=
  lay_shaped (by rw [PyData.canLay0]; exact lay_strs fun x hx => name_ok (h x hx)) (by have := dep_strs ns; rw [PyData.depth]; omega)
theorem sh_ints (ns : List Int) : SeqAt.shaped (.tuple (ns.map PyData.int)) = true :=
  lay_shaped (by rw [PyData.canLay0]; exact lay_ints ns) (by have := dep_ints ns; rw [PyData.depth]; omega)
theorem eqv_tup (a b : List PyData) : PyData.eqv (.tuple a) (.tuple b) = PyData.eqvAll a b := by rw [PyData.eqv]
section
variable {P : Program} {w : World} {K : PySem.W.Frag} {mg : Str → Option Value} {base : Heap} {C N : Addr}
/-! ### what isinstance says of the class -/
structure IsC (K : PySem.W.Frag) (C : Addr) : Prop where
  cls : PySem.W.findIn K (.ref C) "__class__" =
    some (some (.builtin "object.__class__"))
  get : PySem.W.specialIn K (.builtin "object.__class__") "__get__" =
    some (some (.builtin "getset_descriptor.__get__"))
  set : PySem.W.takesIn K (.builtin "object.__class__") =
    some true
  mro : PySem.W.mroIn K C (.type "object") =
    some true
  kS : PySem.W.kitOne K (.ref C) (.type "str") = some false
  kC : PySem.W.kitOne K (.ref C) (.ref C) = some true
  kD : PySem.W.kitOne K (.type "dict") (.ref C) = some false
  kN : PySem.W.kitOne K (.type "NoneType") (.ref C) = some false
  nD : PySem.W.notFirst K C (.type "dict") = true
  nN : PySem.W.notFirst K C (.type "NoneType") = true
theorem IsC.nC {K : PySem.W.Frag} {C : Addr} : PySem.W.notFirst K C (.ref C) = true := by simp [PySem.W.notFirst]
theorem IsC.ty {H : Hp} {p dx : Addr} {fs : List (Str × V)} (I : IsC K C) (c : Cls K C) (h : H p = some (.ins C dx fs)) : TyX K H (.ref p) (.ref C) := .base (.ins h c I.cls I.get I.set I.mro)
/-! ### is_name of Lanes -/
def spNameO (C : Addr) : Sp := fun vs H Q _ => ∃ (p dx : Addr) (fs : List (Str × V)), vs = [.ref p] ∧ H p = some (.ins C dx fs) ∧ Q (.bl false) H
theorem ok_is_nameO {f : Addr} {fd : FuncData} (F : Fun K "is_name" "is_name" s_is_name f fd) (T : BT mg) {tl : Tok} {tn : Tok} (gLet : mg "LETTERS" = some (.str abc tl)) (gLong : mg "LONGEST" = some (.int 8 tn)) (I : IsC K C) (c : Cls K C) :
    FnOk P w K mg base CX0 1 f fd ["thing"] (spNameO C) := by
  refine F.ok sc_is_name (fun vs H Q E h => ?_) (fun cdv A outer s H vs Q E hr h => ?_)
  · obtain ⟨p, dx, fs, rfl, _⟩ := h
    rfl
  · obtain ⟨p, dx, fs, rfl, hp, q⟩ := h
    refine ⟨_, (pss_cons (ps_if (PW.pt (pw_or (pt_not (pt_val (pe_callB call_isi (by rfl) T.n_isinstance (by decide +kernel) (pa_cons (pv 0) (pa_cons (pe_bltn (v := .ty "str") (by rfl) T.n_str (by decide +kernel) rfl) pa_nil))))) (pw_or1 (pt_not (pt_chain op_le op_le pe_int (pe_callB call_len_str (by rfl) T.n_len (by decide +kernel) (pa_cons (pv 0) pa_nil)) (pe_glob (v := .int 8) rfl gLong ⟨_, rfl⟩))))))
      (pss_one (ps_ret pe_bl))
      pss_nil)
    (pss_one (ps_ret (pe_callB (cr_all rfl) (by rfl) T.n_all (by decide +kernel) (pa_cons (pe_lc (own := [("letter", 1)]) (g := gName 1) (tt := tYes) rfl sc_is_name.nd (pi_str (pv 0)) (blkOk_by (N := ["thing", "letter"]) (sc := defScope s_is_name) (by decide +kernel)) (fun _ _ _ _ _ => (pg_name (i := 1) sc_is_name.nd rfl (.inl rfl))) (fun _ _ _ _ _ => pts_nil) (fun _ _ _ _ _ => (pe_cmpR op_in_sign (pv 1) (pe_glob (v := .str abc) rfl gLet ⟨_, rfl⟩) (by rfl)))) pa_nil))))), ?_⟩
    refine ⟨_, rfl, _, _, _, _, _, rfl, .ty "str", I.ty c hp, I.kS, _, rfl, ?_⟩
    exact iteT q
/-! ### thing in lanes -/
def inD (ns : List Str) : PyData → Bool
  | .str x => decide (x ∈ ns)
  | _ => false
def spHas (C : Addr) : Sp := fun vs H Q _ => ∃ (p : Addr) (ns : List Str) (bs : List Int) (v : V) (d : PyData), vs = [.ref p, v] ∧ LanesAt C H p ns bs ∧ Dq H v d ∧ Ok1 d ∧
  ∀ H', Ext H H' → Q (.bl (inD ns d)) H'
def spHasO (C : Addr) : Sp := fun vs H Q _ => ∃ (p : Addr) (ns : List Str) (bs : List Int) (p2 dx2 : Addr) (fs2 : List (Str × V)), vs = [.ref p, .ref p2] ∧ LanesAt C H p ns bs ∧ H p2 = some (.ins C dx2 fs2) ∧ Q (.bl false) H
theorem sc_has : FnScope ["self", "thing"] ["self", "thing"] (defScope (cL 4)) := ⟨rfl, rfl, rfl, by decide +kernel, rfl, by decide +kernel, by decide +kernel⟩
theorem spots_mem {ns : List Str} (hd : ns.Nodup) (x : Str) : (valV (spots ns) (.inr x)).isSome = decide (x ∈ ns) := by
  by_cases h : x ∈ ns
  · obtain ⟨i, hi, e⟩ := List.getElem_of_mem h
    rw [decide_eq_true h, ← e, spots_val hd hi]
    rfl
  · rw [decide_eq_false h, spots_none h]
    rfl
theorem ok_has {f : Addr} {fd : FuncData} (F : Fun K "__contains__" "Lanes.__contains__" (cL 4) f fd) (T : BT mg) (L : LT K mg C) :
    FnOk P w K mg base CX0 2 f fd ["self", "thing"] (spHas C) := by
  refine F.ok sc_has (fun vs H Q E h => ?_) (fun cdv A outer s H vs Q E hr h => ?_)
  · obtain ⟨p, ns, bs, v, d, rfl, _⟩ := h
    rfl
  · obtain ⟨p, ns, bs, v, d, rfl, hL, hd, hx, q⟩ := h
    refine ⟨_, (pss_one (ps_ret (pe_and (pe_callB call_isi (by rfl) T.n_isinstance (by decide +kernel) (pa_cons (pv 1) (pa_cons (pe_bltn (v := .ty "str") (by rfl) T.n_str (by decide +kernel) rfl) pa_nil))) (pe_one (pe_cmp (pc_din (hu_of hr) (pv 1) (pe_fld (pv 0) rfl)) rfl))))), ?_⟩
    obtain ⟨dx, n, b, sp, h1, h2, h3, h4, _, hnd, _, hns, _⟩ := id hL
    refine ⟨_, rfl, _, _, _, _, _, rfl, .ty "str", ty_of hd, ki_str d, _, rfl, ?_⟩
    refine ite2 (fun g => ?_) (fun g => ?_)
    · obtain ⟨x, rfl, rfl⟩ := dq_str hd g
      refine ⟨_, rfl, _, rfl, p, C, dx, _, _, rfl, h1, L.cl, L.nS, lf_s _ _ _, sp, _, rfl, DGet.k (k := Sum.inr x) h4, ?_⟩
      rw [spots_mem hnd]
      exact q _ (Ext.refl H)
    · have z : inD ns d = false := by
        cases d with
        | str x => exact absurd rfl g
        | _ => rfl
      have q' := q H (Ext.refl H)
      rw [z] at q'
      exact q'
theorem ok_hasO {f : Addr} {fd : FuncData} (F : Fun K "__contains__" "Lanes.__contains__" (cL 4) f fd) (T : BT mg) (L : LT K mg C) (I : IsC K C) (c : Cls K C) :
    FnOk P w K mg base CX0 2 f fd ["self", "thing"] (spHasO C) := by
  refine F.ok sc_has (fun vs H Q E h => ?_) (fun cdv A outer s H vs Q E hr h => ?_)
  · obtain ⟨p, ns, bs, p2, dx2, fs2, rfl, _⟩ := h
    rfl
  · obtain ⟨p, ns, bs, p2, dx2, fs2, rfl, hL, hp2, q⟩ := h
    refine ⟨_, (pss_one (ps_ret (pe_and (pe_callB call_isi (by rfl) T.n_isinstance (by decide +kernel) (pa_cons (pv 1) (pa_cons (pe_bltn (v := .ty "str") (by rfl) T.n_str (by decide +kernel) rfl) pa_nil))) (pe_one (pe_cmp (pc_din (hu_of hr) (pv 1) (pe_fld (pv 0) rfl)) rfl))))), ?_⟩
    refine ⟨_, rfl, _, _, _, _, _, rfl, .ty "str", I.ty c hp2, I.kS, _, rfl, ?_⟩
    exact iteF q
/-! ### == -/
def spEqL (K : PySem.W.Frag) (C : Addr) : Sp := fun vs H Q _ => ∃ (p : Addr) (ns : List Str) (bs : List Int) (y : V), vs = [.ref p, y] ∧ Sys H ∧ LanesAt C H p ns bs ∧
  ((∃ (p2 : Addr) (ns2 : List Str) (bs2 : List Int), y = .ref p2 ∧ LanesAt C H p2 ns2 bs2 ∧ Q (.bl (decide (ns = ns2) && decide (bs = bs2))) H) ∨
   (∃ t, TyX K H y t ∧ PySem.W.kitOne K t (.ref C) = some false ∧ Q (.bl false) H))
theorem sc_eq : FnScope ["self", "other"] ["self", "other"] (defScope (cL 2)) := ⟨rfl, rfl, rfl, by decide +kernel, rfl, by decide +kernel, by decide +kernel⟩
theorem ok_eq {f : Addr} {fd : FuncData} (F : Fun K "__eq__" "Lanes.__eq__" (cL 2) f fd) (T : BT mg) (L : LT K mg C) (I : IsC K C) :
    FnOk P w K mg base CX0 1 f fd ["self", "other"] (spEqL K C) := by
  refine F.ok sc_eq (fun vs H Q E h => ?_) (fun cdv A outer s H vs Q E hr h => ?_)
  · obtain ⟨p, ns, bs, y, rfl, _⟩ := h
    rfl
  · obtain ⟨p, ns, bs, y, rfl, hS, hL, q⟩ := h
    refine ⟨_, (pss_one (ps_ret (pe_and (pe_callB call_isi (by rfl) T.n_isinstance (by decide +kernel) (pa_cons (pv 1) (pa_cons (pe_glob (v := .ref C) rfl L.gC rfl) pa_nil))) (pe_and (pe_cmpR (op_eqQ hr) (pe_fld (pv 0) rfl) (pe_fld (pv 1) rfl) (nomark _)) (pe_one (pe_cmpR (op_eqQ hr) (pe_fld (pv 0) rfl) (pe_fld (pv 1) rfl) (nomark _))))))), ?_⟩
    obtain ⟨dx, n, b, sp, h1, h2, h3, h4, hl, hnd, hl2, hns, hbs⟩ := id hL
    rcases q with ⟨p2, ns2, bs2, rfl, hL2, q⟩ | ⟨t, ty, kt, q⟩
    · obtain ⟨dx2, n2, b2, sp2, k1, k2, k3, k4, kl, knd, kl2, kns, kbs⟩ := id hL2
      refine ⟨_, rfl, _, _, _, _, _, rfl, .own C, I.ty L.cl k1, I.kC, _, rfl, ?_⟩
      refine iteT ?_
      refine ⟨_, rfl, p, C, dx, _, _, rfl, h1, L.cl, L.nN, lf_n _ _ _, _, rfl, p2, C, dx2, _, _, rfl, k1, L.cl, L.nN, lf_n _ _ _, .tuple (ns.map PyData.str), .tuple (ns2.map PyData.str), hS, .tup h2 (dq_strs ns), .tup k2 (dq_strs ns2), sh_strs hns, sh_strs kns, _, rfl, ?_⟩
      rw [eqv_tup, eqv_strs]
      refine ite2 (fun g => ?_) (fun g => ?_)
      · refine ⟨_, rfl, p, C, dx, _, _, rfl, h1, L.cl, L.nB, lf_b _ _ _, _, rfl, p2, C, dx2, _, _, rfl, k1, L.cl, L.nB, lf_b _ _ _, .tuple (bs.map PyData.int), .tuple (bs2.map PyData.int), hS, .tup h3 (dq_ints bs), .tup k3 (dq_ints bs2), sh_ints bs, sh_ints bs2, ?_⟩
        rw [eqv_tup, eqv_ints]
        rw [g, Bool.true_and] at q
        exact q
      · have g' : decide (ns = ns2) = false := by simpa using g
        rw [g', Bool.false_and] at q
        first | exact q | (rw [g']; exact q)
    · refine ⟨_, rfl, _, _, _, _, _, rfl, .own C, ty, kt, _, rfl, ?_⟩
      exact iteF q
/-! ### len, names -/
def spLenL (C : Addr) : Sp := fun vs H Q _ => ∃ (p : Addr) (ns : List Str) (bs : List Int), vs = [.ref p] ∧ LanesAt C H p ns bs ∧ Q (.int (ns.length : Int)) H
theorem sc_len : FnScope ["self"] ["self"] (defScope (cL 3)) := ⟨rfl, rfl, rfl, by decide +kernel, rfl, by decide +kernel, by decide +kernel⟩
theorem ok_len {f : Addr} {fd : FuncData} (F : Fun K "__len__" "Lanes.__len__" (cL 3) f fd) (T : BT mg) (L : LT K mg C) :
    FnOk P w K mg base CX0 1 f fd ["self"] (spLenL C) := by
  refine F.ok sc_len (fun vs H Q E h => ?_) (fun cdv A outer s H vs Q E hr h => ?_)
  · obtain ⟨p, ns, bs, rfl, _⟩ := h
    rfl
  · obtain ⟨p, ns, bs, rfl, hL, q⟩ := h
    refine ⟨_, (pss_one (ps_ret (pe_callB call_len_seq (by rfl) T.n_len (by decide +kernel) (pa_cons (pe_fld (pv 0) rfl) pa_nil)))), ?_⟩
    obtain ⟨dx, n, b, sp, h1, h2, _⟩ := id hL
    refine ⟨_, rfl, p, C, dx, _, _, rfl, h1, L.cl, L.nN, lf_n _ _ _, n, _, rfl, .inr (SqT.of h2), ?_⟩
    rw [List.length_map]
    exact q
def spNamesL (C : Addr) : Sp := fun vs H Q _ => ∃ (p : Addr) (ns : List Str) (bs : List Int), vs = [.ref p] ∧ LanesAt C H p ns bs ∧ ∀ r, Dq H r (.tuple (ns.map PyData.str)) → Q r H
theorem sc_namesL : FnScope ["self"] ["self"] (defScope (cL 5)) := ⟨rfl, rfl, rfl, by decide +kernel, rfl, by decide +kernel, by decide +kernel⟩
theorem ok_namesL {f : Addr} {fd : FuncData} (F : Fun K "names" "Lanes.names" (cL 5) f fd) (L : LT K mg C) :
    FnOk P w K mg base CX0 1 f fd ["self"] (spNamesL C) := by
  refine F.ok sc_namesL (fun vs H Q E h => ?_) (fun cdv A outer s H vs Q E hr h => ?_)
  · obtain ⟨p, ns, bs, rfl, _⟩ := h
    rfl
  · obtain ⟨p, ns, bs, rfl, hL, q⟩ := h
    refine ⟨_, (pss_one (ps_ret (pe_fld (pv 0) rfl))), ?_⟩
    obtain ⟨dx, n, b, sp, h1, h2, _⟩ := id hL
    exact ⟨_, rfl, p, C, dx, _, _, rfl, h1, L.cl, L.nN, lf_n _ _ _, q _ (.tup h2 (dq_strs ns))⟩
/-! ### the first content -/
def firstL (ns : List Str) : List (Nat × Bool) := ns.map fun _ => (0, false)
def spFirst (C : Addr) : Sp := fun vs H Q _ => ∃ (p : Addr) (ns : List Str) (bs : List Int), vs = [.ref p] ∧ LanesAt C H p ns bs ∧ ns ≠ [] ∧
  ∀ (r : V) (H' : Hp), Ext H H' → Dq H' r (ctD (firstL ns)) → Q r H'
theorem sc_first : FnScope ["self"] ["self"] (defScope (cL 6)) := ⟨rfl, rfl, rfl, by decide +kernel, rfl, by decide +kernel, by decide +kernel⟩
theorem first_all {H : Hp} {t : Addr} (ht : H t = some (.tup [.int 0, .bl false])) : ∀ ns : List Str, DqAll H (List.replicate ns.length (V.ref t)) (ctL (firstL ns))
  | [] => .nil
  | _ :: ns => .cons (.tup ht (.cons (.int 0) (.cons (.bl false) .nil))) (first_all ht ns)
theorem ok_first {f : Addr} {fd : FuncData} (F : Fun K "first" "Lanes.first" (cL 6) f fd) (T : BT mg) (L : LT K mg C) :
    FnOk P w K mg base CX0 1 f fd ["self"] (spFirst C) := by
  refine F.ok sc_first (fun vs H Q E h => ?_) (fun cdv A outer s H vs Q E hr h => ?_)
  · obtain ⟨p, ns, bs, rfl, _⟩ := h
    rfl
  · obtain ⟨p, ns, bs, rfl, hL, hne, q⟩ := h
    refine ⟨_, (pss_one (ps_ret (pe_op op_repA (pe_tup (pa_cons (pe_tup (pa_cons pe_int (pa_cons pe_bl pa_nil))) pa_nil)) (pe_callB call_len_seq (by rfl) T.n_len (by decide +kernel) (pa_cons (pe_fld (pv 0) rfl) pa_nil))))), ?_⟩
    refine ⟨by show 2 ≤ sizeLine; decide, fun t ht => ⟨by show 1 ≤ sizeLine; decide, fun t2 ht2 => ?_⟩⟩
    have e1 := Ext.new (o := .tup [.int 0, .bl false]) ht
    have e2 := Ext.new (o := .tup [.ref t]) ht2
    obtain ⟨dx, n, b, sp, h1, h2, h3, h4, hl, hnd, hl2, hns, hbs⟩ := hL.up (e1.trans e2)
    have lp : 0 < ns.length := List.length_pos_iff.mpr hne
    refine ⟨_, rfl, p, C, dx, _, _, rfl, h1, L.cl, L.nN, lf_n _ _ _, n, _, rfl, .inr (SqT.of h2), t2, _, _, rfl, rfl, SqT.of upd_same, by simp, ?_, ?_, by simp, fun hk => ?_, fun hk p2 hp2 => ?_⟩
    · rw [List.length_map]; omega
    · rw [List.length_map]; omega
    · refine q _ _ (e1.trans e2) (.tup upd_same ?_)
      have z : ns.length = 1 := by rw [List.length_map] at hk; omega
      have r := first_all (H := upd (upd H t (.tup [.int 0, .bl false])) t2 (.tup [.ref t])) (t := t) (e2 _ _ upd_same) ns
      rw [z] at r
      exact r
    · have e3 := Ext.new (o := .tup (List.replicate ((ns.map V.str).length : Int).toNat [V.ref t]).flatten) hp2
      refine q _ _ ((e1.trans e2).trans e3) (.tup upd_same ?_)
      have r := first_all (H := upd (upd (upd H t (.tup [.int 0, .bl false])) t2 (.tup [.ref t])) p2 (.tup (List.replicate ((ns.map V.str).length : Int).toNat [V.ref t]).flatten)) (t := t) (e3 _ _ (e2 _ _ upd_same)) ns
      have z : (List.replicate ((ns.map V.str).length : Int).toNat [V.ref t]).flatten = List.replicate ns.length (V.ref t) := by
        rw [List.length_map, Int.toNat_natCast]
        simp
      rw [z] at r ⊢
      exact r
/-! ### the index of a lane -/
def spSpot (C : Addr) : Sp := fun vs H Q _ => ∃ (p : Addr) (ns : List Str) (bs : List Int) (i : Nat) (hi : i < ns.length), vs = [.ref p, .str ns[i]] ∧ LanesAt C H p ns bs ∧
  ∀ H', Ext H H' → Q (.int (i : Int)) H'
theorem sc_spot : FnScope ["self", "lane"] ["self", "lane"] (defScope (cL 7)) := ⟨rfl, rfl, rfl, by decide +kernel, rfl, by decide +kernel, by decide +kernel⟩
theorem ok_spot {f : Addr} {fd : FuncData} (F : Fun K "_spot" "Lanes._spot" (cL 7) f fd) (L : LT K mg C)
    (M : Cm P w K mg base C 2 "__contains__" ["self", "thing"] (spHas C)) :
    FnOk P w K mg base CX0 3 f fd ["self", "lane"] (spSpot C) := by
  refine F.ok sc_spot (fun vs H Q E h => ?_) (fun cdv A outer s H vs Q E hr h => ?_)
  · obtain ⟨p, ns, bs, i, hi, rfl, _⟩ := h
    rfl
  · obtain ⟨p, ns, bs, i, hi, rfl, hL, q⟩ := h
    refine ⟨_, (pss_cons (ps_if (pt_cmpR (op_notInM M (hr.mono (by decide))) (pv 1) (pv 0) (by rfl)) (pss_one ps_never) pss_nil)
      (pss_one (ps_ret (pe_dget (hu_of hr) (pe_fld (pv 0) rfl) (pv 1) (fun _ _ => rfl))))), ?_⟩
    have hm : ns[i] ∈ ns := List.getElem_mem hi
    obtain ⟨dx, n, b, sp, h1, h2, h3, h4, hl, hnd, hl2, hns, hbs⟩ := id hL
    refine ⟨_, rfl, _, rfl, p, dx, _, rfl, h1, p, ns, bs, _, _, rfl, hL, .str _, (fun y hy => by cases hy; exact name_tx (hns _ hm)), fun H1 e1 => ⟨_, rfl, ?_⟩⟩
    rw [show inD ns (.str ns[i]) = true from decide_eq_true hm]
    refine ⟨_, rfl, ?_⟩
    refine iteF ?_
    refine ⟨_, rfl, p, C, dx, _, _, rfl, e1 _ _ h1, L.cl, L.nS, lf_s _ _ _, _, rfl, sp, _, rfl, ?_, q _ e1⟩
    have g := DGet.k (k := Sum.inr ns[i]) (e1 _ _ h4)
    rw [spots_val hnd hi] at g
    exact g
abbrev s_noInit : Stmt := inClass (topS 4) 0
structure NT (K : PySem.W.Frag) (mg : Str → Option Value) (N : Addr) : Prop where
  gN : mg "NoLane" = some (.ref N)
  ox : OexC K N
  xf : XfC K N
  nL : PySem.W.findIn K (.ref N) "lane" = some none
  te : PySem.W.exmOne K (.ref N) (.ref N) = some true
def no1 (l : V) : List (Str × V) := [("lane", l)]
def spNoI (N : Addr) : Sp := fun vs H Q _ => ∃ (a : Addr) (x : V), vs = [.ref a, x] ∧ H a = some (exo a N none) ∧
  ∀ (dx : Addr) (H' : Hp), H dx = none → dx ≠ a → (∀ b, b ≠ a → b ≠ dx → H' b = H b) → H' a = some (exo a N (some dx)) → H' dx = some (exd dx (no1 x)) → Q .non H'
theorem sc_noI : FnScope ["self", "lane"] ["self", "lane"] (defScope s_noInit) := ⟨rfl, rfl, rfl, by decide +kernel, rfl, by decide +kernel, by decide +kernel⟩
theorem ok_noI {f : Addr} {fd : FuncData} (F : Fun K "__init__" "NoLane.__init__" s_noInit f fd) (T : NT K mg N) :
    FnOk P w K mg base CX0 1 f fd ["self", "lane"] (spNoI N) := by
  refine F.ok sc_noI (fun vs H Q E h => ?_) (fun cdv A outer s H vs Q E hr h => ?_)
  · obtain ⟨a, x, rfl, _⟩ := h
    rfl
  · obtain ⟨a, x, rfl, ha, q⟩ := h
    refine ⟨_, (pss_one (ps_ost (pv 0) (pv 1))), ?_⟩
    refine ⟨_, rfl, _, rfl, a, N, rfl, T.ox, T.nL, .inl ⟨ha, fun dx hdx nda => ?_⟩⟩
    refine q dx _ hdx nda (fun b h1 h2 => ?_) upd_same ?_
    · rw [upd_ne h1, upd_ne h2]
    · rw [upd_ne nda]
      exact upd_same
structure NI (P : Program) (w : World) (K : PySem.W.Frag) (mg : Str → Option Value) (base : Heap) (N : Addr) : Prop where
  has : ∃ (f : Addr) (fd : FuncData), FnOk P w K mg base CX0 1 f fd ["self", "lane"] (spNoI N) ∧ PySem.W.findIn K (.ref N) "__init__" = some (some (.ref f)) ∧
    PySem.W.typeIn K (.ref f) = some (.type "function") ∧ Binds K fd ["self", "lane"] []
/-! ### the index of a lane, or NoLane -/
def spSpotX (C N : Addr) : Sp := fun vs H Q E => ∃ (p : Addr) (ns : List Str) (bs : List Int) (x : Str), vs = [.ref p, .str x] ∧ LanesAt C H p ns bs ∧ Tx x ∧
  (∀ (i : Nat) (hi : i < ns.length), ns[i] = x → ∀ H', Ext H H' → Q (.int (i : Int)) H') ∧
  (x ∉ ns → ∀ (d : Addr) (H' : Hp), Ext H H' → H' d = some (.xd (no1 (.str x))) → E (.ref N) (some d) H')
theorem ok_spotX {f : Addr} {fd : FuncData} (F : Fun K "_spot" "Lanes._spot" (cL 7) f fd) (L : LT K mg C) (T : NT K mg N) (I : NI P w K mg base N)
    (M : Cm P w K mg base C 2 "__contains__" ["self", "thing"] (spHas C)) :
    FnOk P w K mg base (L2.CX P w) 3 f fd ["self", "lane"] (spSpotX C N) := by
  obtain ⟨fI, fdI, FI, iC, tI, bI⟩ := I.has
  refine F.okX sc_spot (fun vs H Q E h => ?_) (fun cdv A outer s H vs Q E hr h => ?_)
  · obtain ⟨p, ns, bs, x, rfl, _⟩ := h
    rfl
  · obtain ⟨p, ns, bs, x, rfl, hL, hx, q1, q2⟩ := h
    refine ⟨_, (pss_cons (ps_if (pt_cmpR (op_notInM M (hr.mono (by decide))) (pv 1) (pv 0) (by rfl)) (pss_one (ps_raise rfl (takes_of rfl rfl rfl rfl) (pmk_oex T.ox iC tI FI (hr.mono (by decide)) bI .nil pass0 (by rfl) T.gN (pa_cons (pv 1) pa_nil)))) pss_nil)
      (pss_one (ps_ret (pe_dget (hu_of hr) (pe_fld (pv 0) rfl) (pv 1) (fun _ _ => rfl))))), ?_⟩
    obtain ⟨dx, n, b, sp, h1, h2, h3, h4, hl, hnd, hl2, hns, hbs⟩ := id hL
    refine ⟨_, rfl, _, rfl, p, dx, _, rfl, h1, p, ns, bs, _, _, rfl, hL, .str _, (fun y hy => by cases hy; exact hx), fun H1 e1 => ⟨_, rfl, ?_⟩⟩
    refine ⟨_, rfl, ?_⟩
    by_cases hm : x ∈ ns
    · rw [show inD ns (.str x) = true from decide_eq_true hm]
      refine iteF ?_
      obtain ⟨i, hi, rfl⟩ := List.getElem_of_mem hm
      refine ⟨_, rfl, p, C, dx, _, _, rfl, e1 _ _ h1, L.cl, L.nS, lf_s _ _ _, _, rfl, sp, _, rfl, ?_, q1 i hi rfl _ e1⟩
      have g := DGet.k (k := Sum.inr ns[i]) (e1 _ _ h4)
      rw [spots_val hnd hi] at g
      exact g
    · rw [show inD ns (.str x) = false from decide_eq_false hm]
      refine iteT ?_
      refine ⟨_, rfl, by show 1 ≤ 1000; decide, fun ax hax => ?_⟩
      refine ⟨ax, .str x, rfl, upd_same, fun dx' H3 hdx nda hk hA hD => ?_⟩
      rw [upd_ne nda] at hdx
      refine ⟨rfl, dx', _, hA, hD, hdx, q2 hm dx' _ (fun b o z => ?_) upd_same⟩
      have z2 := e1 b o z
      have nb1 : b ≠ ax := fun y => by rw [y, hax] at z2; cases z2
      have nb2 : b ≠ dx' := fun y => by rw [y, hdx] at z2; cases z2
      rw [upd_ne nb2, del_ne nb1, hk b nb1 nb2, upd_ne nb1]
      exact z2
/-! ### the bound of a lane -/
def spBound (C : Addr) : Sp := fun vs H Q _ => ∃ (p : Addr) (ns : List Str) (bs : List Int) (i : Nat) (hi : i < ns.length) (bd : Int), vs = [.ref p, .str ns[i]] ∧ LanesAt C H p ns bs ∧ bs[i]? = some bd ∧ ∀ H', Ext H H' → Q (.int bd) H'
theorem sc_bound : FnScope ["self", "lane"] ["self", "lane"] (defScope (cL 9)) := ⟨rfl, rfl, rfl, by decide +kernel, rfl, by decide +kernel, by decide +kernel⟩
theorem ok_bound {f : Addr} {fd : FuncData} (F : Fun K "bound" "Lanes.bound" (cL 9) f fd) (L : LT K mg C)
    (MS : Cm P w K mg base C 3 "_spot" ["self", "lane"] (spSpot C)) :
    FnOk P w K mg base CX0 4 f fd ["self", "lane"] (spBound C) := by
  refine F.ok sc_bound (fun vs H Q E h => ?_) (fun cdv A outer s H vs Q E hr h => ?_)
  · obtain ⟨p, ns, bs, i, hi, bd, rfl, _⟩ := h
    rfl
  · obtain ⟨p, ns, bs, i, hi, bd, rfl, hL, hb, q⟩ := h
    refine ⟨_, (pss_one (ps_ret (pe_ix ix_tup (pe_fld (pv 0) rfl) (pe_cm MS L.cl (hr.mono (by decide)) (pv 0) (pa_cons (pv 1) pa_nil)) (fun _ _ => rfl)))), ?_⟩
    obtain ⟨dx, n, b, sp, h1, h2, h3, _⟩ := id hL
    refine ⟨_, rfl, p, C, dx, _, _, rfl, h1, L.cl, L.nB, lf_b _ _ _, _, rfl, p, dx, _, rfl, h1, lf_no _ _ _ (by decide +kernel) (by decide +kernel) (by decide +kernel), _, rfl, p, ns, bs, i, hi, rfl, hL, fun H1 e1 => ?_⟩
    exact ⟨b, _, _, _, rfl, rfl, SqT.of (e1 _ _ h3), atI_nat (by rw [List.getElem?_map, hb]; rfl), q _ e1⟩
def spBoundX (C N : Addr) : Sp := fun vs H _ E => ∃ (p : Addr) (ns : List Str) (bs : List Int) (x : Str), vs = [.ref p, .str x] ∧ LanesAt C H p ns bs ∧ Tx x ∧ x ∉ ns ∧
  ∀ (d : Addr) (H' : Hp), Ext H H' → H' d = some (.xd (no1 (.str x))) → E (.ref N) (some d) H'
theorem ok_boundX {f : Addr} {fd : FuncData} (F : Fun K "bound" "Lanes.bound" (cL 9) f fd) (L : LT K mg C)
    (MS : CmX P w K mg base C 3 "_spot" ["self", "lane"] (spSpotX C N)) :
    FnOk P w K mg base (L2.CX P w) 4 f fd ["self", "lane"] (spBoundX C N) := by
  refine F.okX sc_bound (fun vs H Q E h => ?_) (fun cdv A outer s H vs Q E hr h => ?_)
  · obtain ⟨p, ns, bs, x, rfl, _⟩ := h
    rfl
  · obtain ⟨p, ns, bs, x, rfl, hL, hx, hn, q⟩ := h
    refine ⟨_, (pss_one (ps_ret (pe_ix ix_tup (pe_fld (pv 0) rfl) (pe_cmX MS L.cl (hr.mono (by decide)) (fun σ => passAt (takes_of rfl rfl rfl rfl) σ) (pv 0) (pa_cons (pv 1) pa_nil)) (fun _ _ => rfl)))), ?_⟩
    obtain ⟨dx, n, b, sp, h1, h2, h3, h4, hl, hnd, hl2, hns, hbs⟩ := id hL
    exact ⟨_, rfl, p, C, dx, _, _, rfl, h1, L.cl, L.nB, lf_b _ _ _, _, rfl, p, dx, _, rfl, h1, lf_no _ _ _ (by decide +kernel) (by decide +kernel) (by decide +kernel), _, rfl, p, ns, bs, x, rfl, hL, hx, fun i hi e => absurd (e ▸ List.getElem_mem hi) hn, fun _ => q⟩
end
end K12

set_option Elab.async false
set_option linter.all false
set_option maxRecDepth 100000
set_option maxHeartbeats 4000000
namespace K12
open PySem PySem.Spec PyProof.Rows L2 Ol RZ
open TL (tl)
section
variable {P : Program} {w : World} {K : PySem.W.Frag} {mg : Str → Option Value} {base : Heap} {C : Addr}
/-! ### names that differ -/
/-- a list or a tuple of these texts -/
def SeqS (H : Hp) (a : Addr) (xs : List Str) : Prop := H a = some (.lst (xs.map V.str)) ∨ H a = some (.tup (xs.map V.str))
theorem SeqS.up {H H' : Hp} {a : Addr} {xs : List Str} (e : Ext H H') (h : SeqS H a xs) : SeqS H' a xs := h.elim (fun h => .inl (e _ _ h)) fun h => .inr (e _ _ h)
def spRowN (fN : Addr) : Sp := fun vs H Q _ => ∃ (a : Addr) (xs : List Str), vs = [.ref a, .ref fN] ∧ SeqS H a xs ∧ (∀ x ∈ xs, isNameS x = true) ∧ xs.length ≤ 60 ∧ ∀ H', Ext H H' → Q (.bl true) H'
abbrev s_row : Stmt := (topS 10)
theorem sc_row : FnScope ["thing", "is_part", "part"] ["thing", "is_part"] (defScope s_row) := ⟨rfl, rfl, rfl, by decide +kernel, rfl, by decide +kernel, by decide +kernel⟩
theorem kit_lt : PySem.W.kitAny K (.type "list") [.type "list", .type "tuple"] = some true :=
  kitAny_cons (kit_ty (by decide +kernel : kitB "list" "list" = some true)) (fun z => Bool.noConfusion z) (fun _ => rfl)
theorem kit_tt : PySem.W.kitAny K (.type "tuple") [.type "list", .type "tuple"] = some true :=
  kitAny_cons (kit_ty (by decide +kernel : kitB "tuple" "list" = some false)) (fun _ => kitAny_cons (kit_ty (by decide +kernel : kitB "tuple" "tuple" = some true)) (fun z => Bool.noConfusion z) (fun _ => rfl)) (fun z => Bool.noConfusion z)
theorem ok_row {f fN : Addr} {fd fdN : FuncData} (F : Fun K "is_row_of" "is_row_of" s_row f fd) (T : BT mg)
    (FN : FnOk P w K mg base CX0 1 fN fdN ["thing"] (spPred Ok1 isNameD)) (kN : PySem.W.keepIn K (.ref fN) = true) (bN : Binds K fdN ["thing"] []) :
    FnOk P w K mg base CX0 2 f fd ["thing", "is_part"] (spRowN fN) := by
  refine F.ok sc_row (fun vs H Q E h => ?_) (fun cdv A outer s H vs Q E hr h => ?_)
  · obtain ⟨a, xs, rfl, _⟩ := h
    rfl
  · obtain ⟨a, xs, rfl, ha, hn, hl, q⟩ := h
    rcases ha with ha | ha
    · refine ⟨_, (pss_one (ps_ret (pe_and (pe_callB call_isiT (by rfl) T.n_isinstance (by decide +kernel) (pa_cons (pv 0) (pa_cons (pe_tup (pa_cons (pe_bltn (v := .ty "list") (by rfl) T.n_list (by decide +kernel) rfl) (pa_cons (pe_bltn (v := .ty "tuple") (by rfl) T.n_tuple (by decide +kernel) rfl) pa_nil))) pa_nil)))
        (pe_one (pe_callB (cr_all rfl) (by rfl) T.n_all (by decide +kernel) (pa_cons (pe_lc (own := [("part", 2)]) (g := gName 2) (tt := tYes) rfl sc_row.nd (pi_list (pv 0)) (blkOk_by (N := ["thing", "is_part", "part"]) (sc := defScope s_row) (by decide +kernel)) (fun _ _ _ _ _ => pg_name (i := 2) sc_row.nd rfl (.inl rfl)) (fun _ _ _ _ _ => pts_nil)
          (fun _ _ _ _ _ => pe_callL (i := 1) FN (hr.mono (by decide)) rfl (by first | exact .inl rfl | exact .inr (.inl rfl) | exact .inr (.inr rfl)) kN bN .nil pass0 (pa_cons (pv 2) pa_nil))) pa_nil)))))), ?_⟩
      refine ⟨_, rfl, by show 2 ≤ sizeLine; decide, fun tp htp => ?_⟩
      have e1 := Ext.new (o := .tup [.ty "list", .ty "tuple"]) htp
      refine ⟨_, tp, _, _, _, true, rfl, upd_same, .cons (.ty _) (.cons (.ty _) .nil), .base (.lst (e1 _ _ ha)), kit_lt, _, rfl, ?_⟩
      refine iteT ?_
      have ha1 := e1 _ _ ha
      refine ⟨_, rfl, a, rfl, ⟨_, SqL.of ha1⟩, fun D hD => ?_⟩
      have ml : (xs.map V.str).length = xs.length := List.length_map ..
      refine lc1_acc (walk_list (xs := xs.map V.str)) (fun i ys _ => ys = List.replicate i (V.bl true) ∧ i ≤ 60) (fun _ _ _ _ _ h => h) ⟨rfl, by decide⟩ hD (fun i ys _ h => by rw [h.1, List.length_replicate]; exact Nat.lt_of_le_of_lt h.2 (by decide)) (fun H' e => SqL.of (e _ _ ha1)) ?_ ?_
      · rintro i x Hi H' ys hi e hy ⟨rfl, hx⟩ ⟨hp, _⟩ QY QN kY kN
        rw [ml] at hi
        rw [List.getElem?_map, List.getElem?_eq_getElem hi] at hx
        cases hx
        have nm := hn _ (List.getElem_mem hi)
        refine ⟨rfl, ?_⟩
        refine tyes ?_
        refine ⟨rfl, _, rfl, _, _, rfl, .str _, (fun z hz => by cases hz; exact name_tx nm), fun H4 e4 => ?_⟩
        rw [show isNameD (.str xs[i]) = true from nm]
        exact kY _ H4 e4 ⟨by rw [hp, List.replicate_succ'], by omega⟩
      · rintro H4 ys e4 hy ⟨hp, _⟩
        rw [ml] at hp
        refine ⟨D, List.replicate xs.length true, rfl, SqL.of (by rw [hy, hp, List.map_replicate]), ?_⟩
        rw [show (List.replicate xs.length true).all id = true by simp]
        exact q _ (e1.trans e4)
    · refine ⟨_, (pss_one (ps_ret (pe_and (pe_callB call_isiT (by rfl) T.n_isinstance (by decide +kernel) (pa_cons (pv 0) (pa_cons (pe_tup (pa_cons (pe_bltn (v := .ty "list") (by rfl) T.n_list (by decide +kernel) rfl) (pa_cons (pe_bltn (v := .ty "tuple") (by rfl) T.n_tuple (by decide +kernel) rfl) pa_nil))) pa_nil)))
        (pe_one (pe_callB (cr_all rfl) (by rfl) T.n_all (by decide +kernel) (pa_cons (pe_lc (own := [("part", 2)]) (g := gName 2) (tt := tYes) rfl sc_row.nd (pi_tup (pv 0)) (blkOk_by (N := ["thing", "is_part", "part"]) (sc := defScope s_row) (by decide +kernel)) (fun _ _ _ _ _ => pg_name (i := 2) sc_row.nd rfl (.inl rfl)) (fun _ _ _ _ _ => pts_nil)
          (fun _ _ _ _ _ => pe_callL (i := 1) FN (hr.mono (by decide)) rfl (by first | exact .inl rfl | exact .inr (.inl rfl) | exact .inr (.inr rfl)) kN bN .nil pass0 (pa_cons (pv 2) pa_nil))) pa_nil)))))), ?_⟩
      refine ⟨_, rfl, by show 2 ≤ sizeLine; decide, fun tp htp => ?_⟩
      have e1 := Ext.new (o := .tup [.ty "list", .ty "tuple"]) htp
      refine ⟨_, tp, _, _, _, true, rfl, upd_same, .cons (.ty _) (.cons (.ty _) .nil), .base (.tup (e1 _ _ ha)), kit_tt, _, rfl, ?_⟩
      refine iteT ?_
      have ha1 := e1 _ _ ha
      refine ⟨_, rfl, a, rfl, ⟨_, SqT.of ha1⟩, fun D hD => ?_⟩
      have ml : (xs.map V.str).length = xs.length := List.length_map ..
      refine lc1_acc (walk_tup (xs := xs.map V.str)) (fun i ys _ => ys = List.replicate i (V.bl true) ∧ i ≤ 60) (fun _ _ _ _ _ h => h) ⟨rfl, by decide⟩ hD (fun i ys _ h => by rw [h.1, List.length_replicate]; exact Nat.lt_of_le_of_lt h.2 (by decide)) (fun H' e => SqT.of (e _ _ ha1)) ?_ ?_
      · rintro i x Hi H' ys hi e hy ⟨rfl, hx⟩ ⟨hp, _⟩ QY QN kY kN
        rw [ml] at hi
        rw [List.getElem?_map, List.getElem?_eq_getElem hi] at hx
        cases hx
        have nm := hn _ (List.getElem_mem hi)
        refine ⟨rfl, ?_⟩
        refine tyes ?_
        refine ⟨rfl, _, rfl, _, _, rfl, .str _, (fun z hz => by cases hz; exact name_tx nm), fun H4 e4 => ?_⟩
        rw [show isNameD (.str xs[i]) = true from nm]
        exact kY _ H4 e4 ⟨by rw [hp, List.replicate_succ'], by omega⟩
      · rintro H4 ys e4 hy ⟨hp, _⟩
        rw [ml] at hp
        refine ⟨D, List.replicate xs.length true, rfl, SqL.of (by rw [hy, hp, List.map_replicate]), ?_⟩
        rw [show (List.replicate xs.length true).all id = true by simp]
        exact q _ (e1.trans e4)
def spDiff : Sp := fun vs H Q _ => ∃ (a : Addr) (xs : List Str), vs = [.ref a] ∧ SeqS H a xs ∧ (∀ x ∈ xs, isNameS x = true) ∧ xs.Nodup ∧ xs ≠ [] ∧ xs.length ≤ 60 ∧ ∀ H', Ext H H' → Q (.bl true) H'
abbrev s_diff : Stmt := (topS 14)
theorem sc_diff : FnScope ["thing"] ["thing"] (defScope s_diff) := ⟨rfl, rfl, rfl, by decide +kernel, rfl, by decide +kernel, by decide +kernel⟩
theorem ok_diff {f fN : Addr} {fd : FuncData} (F : Fun K "are_different_names" "are_different_names" s_diff f fd) (T : BT mg) (n_set : mg "set" = none) (gN : mg "is_name" = some (.ref fN))
    (CR : Ca P w K mg base 2 "is_row_of" ["thing", "is_part"] (spRowN fN)) :
    FnOk P w K mg base CX0 3 f fd ["thing"] spDiff := by
  refine F.ok sc_diff (fun vs H Q E h => ?_) (fun cdv A outer s H vs Q E hr h => ?_)
  · obtain ⟨a, xs, rfl, _⟩ := h
    rfl
  · obtain ⟨a, xs, rfl, ha, hn, hd, hne, hl, q⟩ := h
    rcases ha with ha | ha
    · refine ⟨_, (pss_cons (ps_if (PW.pt (pw_or (pt_not (pt_val (pe_ca CR (hr.mono (by decide)) (by rfl) (pa_cons (pv 0) (pa_cons (pe_glob (v := .ref fN) rfl gN rfl) pa_nil))))) (pw_or1 (pt_cmpR op_eq (pe_callB call_len_seq (by rfl) T.n_len (by decide +kernel) (pa_cons (pv 0) pa_nil)) pe_int (nomark _))))) (pss_one (ps_ret pe_bl)) pss_nil)
        (pss_one (ps_ret (pe_cmpR op_eq (pe_lenT rfl (by rfl) T.n_len (by rfl) n_set (pv 0)) (pe_callB call_len_seq (by rfl) T.n_len (by decide +kernel) (pa_cons (pv 0) pa_nil)) (nomark _))))), ?_⟩
      refine ⟨_, rfl, a, xs, rfl, .inl ha, hn, hl, fun H1 e1 => ⟨_, rfl, ?_⟩⟩
      refine iteF ?_
      have ha1 := e1 _ _ ha
      have ml : (xs.map V.str).length = xs.length := List.length_map ..
      refine ⟨_, rfl, a, _, rfl, .inl (SqL.of ha1), rfl, _, rfl, ?_⟩
      refine ite2 (fun g => ?_) (fun _ => ?_)
      · have z := of_decide_eq_true g
        injection z with z
        rw [ml] at z
        exact absurd (List.length_eq_zero_iff.mp (by omega)) hne
      · refine ⟨_, rfl, a, xs, rfl, SqL.of ha1, by omega, _, rfl, a, _, rfl, .inl (SqL.of ha1), rfl, ?_⟩
        rw [firstN_nodup hd _ (Nat.le_refl _), ml, decide_eq_true rfl]
        exact q _ e1
    · refine ⟨_, (pss_cons (ps_if (PW.pt (pw_or (pt_not (pt_val (pe_ca CR (hr.mono (by decide)) (by rfl) (pa_cons (pv 0) (pa_cons (pe_glob (v := .ref fN) rfl gN rfl) pa_nil))))) (pw_or1 (pt_cmpR op_eq (pe_callB call_len_seq (by rfl) T.n_len (by decide +kernel) (pa_cons (pv 0) pa_nil)) pe_int (nomark _))))) (pss_one (ps_ret pe_bl)) pss_nil)
        (pss_one (ps_ret (pe_cmpR op_eq (pe_lenTT rfl (by rfl) T.n_len (by rfl) n_set (pv 0)) (pe_callB call_len_seq (by rfl) T.n_len (by decide +kernel) (pa_cons (pv 0) pa_nil)) (nomark _))))), ?_⟩
      refine ⟨_, rfl, a, xs, rfl, .inr ha, hn, hl, fun H1 e1 => ⟨_, rfl, ?_⟩⟩
      refine iteF ?_
      have ha1 := e1 _ _ ha
      have ml : (xs.map V.str).length = xs.length := List.length_map ..
      refine ⟨_, rfl, a, _, rfl, .inr (SqT.of ha1), rfl, _, rfl, ?_⟩
      refine ite2 (fun g => ?_) (fun _ => ?_)
      · have z := of_decide_eq_true g
        injection z with z
        rw [ml] at z
        exact absurd (List.length_eq_zero_iff.mp (by omega)) hne
      · refine ⟨_, rfl, a, xs, rfl, SqT.of ha1, by omega, _, rfl, a, _, rfl, .inr (SqT.of ha1), rfl, ?_⟩
        rw [firstN_nodup hd _ (Nat.le_refl _), ml, decide_eq_true rfl]
        exact q _ e1
theorem kvI_none {ps : List (Str × Int)} {x : Str} (h : x ∉ ps.map (·.1)) : valV (kvI ps) (.inr x) = none := by
  refine valV_none fun p hp e => h ?_
  unfold kvI at hp
  obtain ⟨q, hq, rfl⟩ := List.mem_map.mp hp
  have e' : q.1 = x := Sum.inr.inj e
  rw [← e']
  exact List.mem_map_of_mem hq
theorem kvI_keys (ps : List (Str × Int)) : (kvI ps).map (·.1) = (ps.map (·.1)).map Sum.inr := by
  unfold kvI
  rw [List.map_map, List.map_map]
  rfl
/-! ### Lanes.level -/
structure MkL (P : Program) (w : World) (K : PySem.W.Frag) (mg : Str → Option Value) (base : Heap) (C : Addr) : Prop where
  has : ∃ (f : Addr) (fd : FuncData), FnOk P w K mg base CX0 4 f fd ["self", "bounds"] (spInit C) ∧ Mk K C f ∧ Binds K fd ["self", "bounds"] []
def spLevel (C : Addr) : Sp := fun vs H Q _ => ∃ (a : Addr) (xs : List Str) (bd : Int), vs = [.ref C, .ref a, .int bd] ∧ SeqS H a xs ∧ (∀ x ∈ xs, isNameS x = true) ∧ xs.Nodup ∧ xs ≠ [] ∧ xs.length ≤ 60 ∧ 1 ≤ bd ∧
  ∀ (lx : Addr) (ns : List Str) (H' : Hp), Ext H H' → ns.Perm xs → sortedS ns = true → LanesAt C H' lx ns (ns.map fun _ => bd) → Q (.ref lx) H'
theorem sc_level : FnScope ["cls", "names", "bound", "name"] ["cls", "names", "bound"] (defScope (cL 1)) := ⟨rfl, rfl, rfl, by decide +kernel, rfl, by decide +kernel, by decide +kernel⟩
theorem kv_level {xs : List Str} {bd : Int} (x : Str) (hx : x ∈ xs) : bdOf (xs.map fun x => (x, bd)) x = bd := by
  obtain ⟨p, hp, _, e⟩ := bd_mem (ps := xs.map fun x => (x, bd)) (x := x) (by rw [List.map_map]; exact List.mem_map.mpr ⟨x, hx, rfl⟩)
  obtain ⟨y, _, rfl⟩ := List.mem_map.mp hp
  exact e.symm
theorem ok_level {f : Addr} {fd : FuncData} (F : Fun K "level" "Lanes.level" (cL 1) f fd) (T : BT mg)
    (CDf : Ca P w K mg base 3 "are_different_names" ["thing"] spDiff) (C4 : Ca P w K mg base 2 "is_bound" ["thing"] (spPred Any isBoundD)) (ML : MkL P w K mg base C) :
    FnOk P w K mg base CX0 6 f fd ["cls", "names", "bound"] (spLevel C) := by
  obtain ⟨fI, fdI, FI, mk, bI⟩ := ML.has
  refine F.ok sc_level (fun vs H Q E h => ?_) (fun cdv A outer s H vs Q E hr h => ?_)
  · obtain ⟨a, xs, bd, rfl, _⟩ := h
    rfl
  · obtain ⟨a, xs, bd, rfl, ha, hn, hd, hne, hl, hb, q⟩ := h
    rcases ha with ha | ha
    · refine ⟨_, (pss_cons (ps_if (pt_not (pt_val (pe_ca CDf (hr.mono (by decide)) (by rfl) (pa_cons (pv 1) pa_nil)))) (pss_one ps_never) pss_nil)
        (pss_cons (ps_if (pt_not (pt_val (pe_ca C4 (hr.mono (by decide)) (by rfl) (pa_cons (pv 2) pa_nil)))) (pss_one ps_never) pss_nil)
        (pss_one (ps_ret (pe_makeL (i := 0) mk FI (hr.mono (by decide)) rfl (by first | exact .inl rfl | exact .inr (.inl rfl) | exact .inr (.inr rfl)) bI pass0 (pa_cons (pe_dc (own := [("name", 3)]) (g := gName 3) (tt := tYes) rfl sc_level.nd (pi_list (pv 1)) (blkOk_by (N := ["cls", "names", "bound", "name"]) (sc := defScope (cL 1)) (by decide +kernel)) (fun _ _ _ _ _ => pg_name (i := 3) sc_level.nd rfl (.inl rfl)) (fun _ _ _ _ _ => pts_nil) (fun _ _ _ _ _ => pv 3) (fun _ _ _ _ _ => pv 2)) pa_nil)))))), ?_⟩
      refine ⟨_, rfl, a, xs, rfl, .inl ha, hn, hd, hne, hl, fun H1 e1 => ⟨_, rfl, ?_⟩⟩
      refine iteF ?_
      refine ⟨_, rfl, _, _, rfl, .int bd, trivial, fun H2 e2 => ⟨_, rfl, ?_⟩⟩
      rw [show isBoundD (.int bd) = true from decide_eq_true hb]
      refine iteF ?_
      have e12 := e1.trans e2
      have ha2 := e12 _ _ ha
      have ml : (xs.map V.str).length = xs.length := List.length_map ..
      refine ⟨rfl, _, rfl, a, rfl, ⟨_, SqL.of ha2⟩, fun D hD => ?_⟩
      refine dc_it (w := walk_list (xs := xs.map V.str)) (fun i Hi => Ext H2 Hi ∧ Hi D = some (.dK (kvI ((xs.take i).map fun x => (x, bd))))) ⟨Ext.new hD, upd_same⟩ (fun i Hi _ h => SqL.of (h.1 _ _ ha2)) ?_ ?_
      · rintro i v Hi H' hi ⟨ei, hdi⟩ ⟨rfl, hx⟩
        rw [ml] at hi
        rw [List.getElem?_map, List.getElem?_eq_getElem hi] at hx
        cases hx
        refine ⟨rfl, ?_⟩
        refine tyes ?_
        have hni : xs[i] ∉ xs.take i := fun z => by
          obtain ⟨j, hj, ej⟩ := List.getElem_of_mem z
          rw [List.length_take] at hj
          rw [List.getElem_take] at ej
          exact List.pairwise_iff_getElem.mp hd j i (by omega) hi (by omega) ej
        have hni2 : xs[i] ∉ ((xs.take i).map fun x => (x, bd)).map (·.1) := fun z => by
          obtain ⟨p, hp, e⟩ := List.mem_map.mp z
          obtain ⟨y, hy, rfl⟩ := List.mem_map.mp hp
          exact hni (e ▸ hy)
        refine ⟨_, rfl, _, rfl, _, .inr xs[i], rfl, hdi, ?_, Ext.mut ei hD, ?_⟩
        · unfold kvI
          rw [List.length_map, List.length_map, List.length_take]
          exact Nat.lt_of_le_of_lt (show _ ≤ 60 by omega) (by decide)
        · rw [upd_same, putK_new _ (kvI_none hni2), List.take_add_one, List.getElem?_eq_getElem hi, Option.toList_some, List.map_append]
          unfold kvI
          rw [List.map_append]
          rfl
      · rintro H3 ⟨e3, hd3⟩
        rw [ml, List.take_length] at hd3
        refine fun lx dx nlx ndx nex => ?_
        have eo := (Ext.new (o := .own lx) ndx)
        have pk : (xs.map fun x => (x, bd)).map (·.1) = xs := by rw [List.map_map]; exact (List.map_congr_left fun _ _ => rfl).trans (List.map_id xs)
        refine ⟨H3, lx, dx, D, xs.map fun x => (x, bd), rfl, nlx, Ext.mut eo nlx, upd_same, hd3, by simpa using hne, by rw [List.length_map]; exact hl, fun z hz => ?_, by rw [pk]; exact hd, fun H4 ns e4 hperm hso hL => ⟨rfl, ?_⟩⟩
        · obtain ⟨x, hx, rfl⟩ := List.mem_map.mp hz
          exact ⟨hn x hx, hb⟩
        · rw [pk] at hperm
          have ebs : ns.map (bdOf (xs.map fun x => (x, bd))) = ns.map fun _ => bd := List.map_congr_left fun x hx => kv_level x (hperm.mem_iff.mp hx)
          rw [ebs] at hL
          exact q lx ns H4 ((e12.trans e3).trans e4) hperm hso hL
    · refine ⟨_, (pss_cons (ps_if (pt_not (pt_val (pe_ca CDf (hr.mono (by decide)) (by rfl) (pa_cons (pv 1) pa_nil)))) (pss_one ps_never) pss_nil)
        (pss_cons (ps_if (pt_not (pt_val (pe_ca C4 (hr.mono (by decide)) (by rfl) (pa_cons (pv 2) pa_nil)))) (pss_one ps_never) pss_nil)
        (pss_one (ps_ret (pe_makeL (i := 0) mk FI (hr.mono (by decide)) rfl (by first | exact .inl rfl | exact .inr (.inl rfl) | exact .inr (.inr rfl)) bI pass0 (pa_cons (pe_dc (own := [("name", 3)]) (g := gName 3) (tt := tYes) rfl sc_level.nd (pi_tup (pv 1)) (blkOk_by (N := ["cls", "names", "bound", "name"]) (sc := defScope (cL 1)) (by decide +kernel)) (fun _ _ _ _ _ => pg_name (i := 3) sc_level.nd rfl (.inl rfl)) (fun _ _ _ _ _ => pts_nil) (fun _ _ _ _ _ => pv 3) (fun _ _ _ _ _ => pv 2)) pa_nil)))))), ?_⟩
      refine ⟨_, rfl, a, xs, rfl, .inr ha, hn, hd, hne, hl, fun H1 e1 => ⟨_, rfl, ?_⟩⟩
      refine iteF ?_
      refine ⟨_, rfl, _, _, rfl, .int bd, trivial, fun H2 e2 => ⟨_, rfl, ?_⟩⟩
      rw [show isBoundD (.int bd) = true from decide_eq_true hb]
      refine iteF ?_
      have e12 := e1.trans e2
      have ha2 := e12 _ _ ha
      have ml : (xs.map V.str).length = xs.length := List.length_map ..
      refine ⟨rfl, _, rfl, a, rfl, ⟨_, SqT.of ha2⟩, fun D hD => ?_⟩
      refine dc_it (w := walk_tup (xs := xs.map V.str)) (fun i Hi => Ext H2 Hi ∧ Hi D = some (.dK (kvI ((xs.take i).map fun x => (x, bd))))) ⟨Ext.new hD, upd_same⟩ (fun i Hi _ h => SqT.of (h.1 _ _ ha2)) ?_ ?_
      · rintro i v Hi H' hi ⟨ei, hdi⟩ ⟨rfl, hx⟩
        rw [ml] at hi
        rw [List.getElem?_map, List.getElem?_eq_getElem hi] at hx
        cases hx
        refine ⟨rfl, ?_⟩
        refine tyes ?_
        have hni : xs[i] ∉ xs.take i := fun z => by
          obtain ⟨j, hj, ej⟩ := List.getElem_of_mem z
          rw [List.length_take] at hj
          rw [List.getElem_take] at ej
          exact List.pairwise_iff_getElem.mp hd j i (by omega) hi (by omega) ej
        have hni2 : xs[i] ∉ ((xs.take i).map fun x => (x, bd)).map (·.1) := fun z => by
          obtain ⟨p, hp, e⟩ := List.mem_map.mp z
          obtain ⟨y, hy, rfl⟩ := List.mem_map.mp hp
          exact hni (e ▸ hy)
        refine ⟨_, rfl, _, rfl, _, .inr xs[i], rfl, hdi, ?_, Ext.mut ei hD, ?_⟩
        · unfold kvI
          rw [List.length_map, List.length_map, List.length_take]
          exact Nat.lt_of_le_of_lt (show _ ≤ 60 by omega) (by decide)
        · rw [upd_same, putK_new _ (kvI_none hni2), List.take_add_one, List.getElem?_eq_getElem hi, Option.toList_some, List.map_append]
          unfold kvI
          rw [List.map_append]
          rfl
      · rintro H3 ⟨e3, hd3⟩
        rw [ml, List.take_length] at hd3
        refine fun lx dx nlx ndx nex => ?_
        have eo := (Ext.new (o := .own lx) ndx)
        have pk : (xs.map fun x => (x, bd)).map (·.1) = xs := by rw [List.map_map]; exact (List.map_congr_left fun _ _ => rfl).trans (List.map_id xs)
        refine ⟨H3, lx, dx, D, xs.map fun x => (x, bd), rfl, nlx, Ext.mut eo nlx, upd_same, hd3, by simpa using hne, by rw [List.length_map]; exact hl, fun z hz => ?_, by rw [pk]; exact hd, fun H4 ns e4 hperm hso hL => ⟨rfl, ?_⟩⟩
        · obtain ⟨x, hx, rfl⟩ := List.mem_map.mp hz
          exact ⟨hn x hx, hb⟩
        · rw [pk] at hperm
          have ebs : ns.map (bdOf (xs.map fun x => (x, bd))) = ns.map fun _ => bd := List.map_congr_left fun x hx => kv_level x (hperm.mem_iff.mp hx)
          rw [ebs] at hL
          exact q lx ns H4 ((e12.trans e3).trans e4) hperm hso hL
end
end K12

set_option Elab.async false
set_option linter.all false
set_option maxRecDepth 100000
set_option maxHeartbeats 4000000
namespace K12
open PySem PySem.Spec PyProof.Rows L2 Ol RZ
open TL (tl)
/-- a name and a bound, as data -/
def pD (p : Str × Int) : PyData := .tuple [.str p.1, .int p.2]
theorem dq_app {H : Hp} : ∀ {a b : List V} {da db : List PyData}, DqAll H a da → DqAll H b db → DqAll H (a ++ b) (da ++ db)
  | _, _, _, _, .nil, h => h
  | _, _, _, _, .cons x t, h => .cons x (dq_app t h)
theorem dq_take {H : Hp} : ∀ {a : List V} {da : List PyData} (n : Nat), DqAll H a da → DqAll H (a.take n) (da.take n)
  | _, _, 0, _ => .nil
  | _, _, n + 1, .nil => .nil
  | _, _, n + 1, .cons x t => .cons x (dq_take n t)
theorem dq_drop {H : Hp} : ∀ {a : List V} {da : List PyData} (n : Nat), DqAll H a da → DqAll H (a.drop n) (da.drop n)
  | _, _, 0, h => h
  | _, _, n + 1, .nil => .nil
  | _, _, n + 1, .cons x t => dq_drop n t
theorem pd_inv {H : Hp} {v : V} {p : Str × Int} (h : Dq H v (pD p)) : ∃ a, v = .ref a ∧ H a = some (.tup [.str p.1, .int p.2]) := by
  obtain ⟨a, xs, ds, rfl, e, h1, h2⟩ := dq_tup h rfl
  cases e
  cases h2 with
  | cons a1 t1 => cases t1 with
    | cons a2 t2 =>
      cases t2
      cases a1
      cases a2
      exact ⟨a, rfl, h1⟩
theorem perm_put {qs ps : List (Str × Int)} (p : Str × Int) (j : Nat) (h : qs.Perm ps) : (qs.take j ++ [p] ++ qs.drop j).Perm (ps ++ [p]) := by
  have h1 : (qs.take j ++ p :: qs.drop j).Perm (p :: (qs.take j ++ qs.drop j)) := List.perm_middle
  rw [List.take_append_drop] at h1
  rw [List.append_assoc]
  exact h1.trans ((List.Perm.cons p h).trans (List.perm_append_singleton p ps).symm)
section
variable {P : Program} {w : World} {K : PySem.W.Frag} {mg : Str → Option Value} {base : Heap} {C : Addr}
/-! ### _law_mixed -/
def spMixed : Sp := fun vs H Q _ => ∃ (p l : Addr) (xs : List V) (ps : List (Str × Int)), vs = [.ref p, .ref l] ∧ Bag H p ∧ H l = some (.lst xs) ∧ DqAll H xs (ps.map pD) ∧ ps.length ≤ 20 ∧
  ∀ (d : Addr) (ys : List V) (qs : List (Str × Int)) (H' : Hp), H d = none → Ext H H' → H' d = some (.lst ys) → DqAll H' ys (qs.map pD) → qs.Perm ps → Q (.ref d) H'
abbrev s_mixed : Stmt := (topS 20)
theorem sc_mixed : FnScope ["_law_bag_here", "_law_things", "_law_found", "_law_thing"] ["_law_bag_here", "_law_things"] (defScope s_mixed) := ⟨rfl, rfl, rfl, by decide +kernel, rfl, by decide +kernel, by decide +kernel⟩
theorem ok_mixed {f : Addr} {fd : FuncData} (F : Fun K "_law_mixed" "_law_mixed" s_mixed f fd) (T : BT mg) (CT : Ca P w K mg base 1 "_law_take" ["_law_bag_here", "_law_many"] spTake) :
    FnOk P w K mg base CX0 2 f fd ["_law_bag_here", "_law_things"] spMixed := by
  refine F.ok sc_mixed (fun vs H Q E h => ?_) (fun cdv A outer s H vs Q E hr h => ?_)
  · obtain ⟨p, l, xs, ps, rfl, _⟩ := h
    rfl
  · obtain ⟨p, l, xs, ps, rfl, hB, hl, hx, h20, q⟩ := h
    refine ⟨_, (pss_cons (ps_set (i := 2) sc_mixed.nd rfl (.inl rfl) (pe_lst pa_nil))
      (pss_cons (ps_for PassesOwn.never rfl (pi_list (pv 1)) (pg_name (i := 3) sc_mixed.nd rfl (.inl rfl))
        (pss_one (ps_expr (pe_bm PySem.F.plainAttrs_list PySem.F.slot_list_insert PySem.F.type_list_insert mt_insert (pv 2) (pa_cons (pe_ca CT (hr.mono (by decide)) (by rfl) (pa_cons (pv 0) (pa_cons (pe_op op_add (pe_callB call_len_seq (by rfl) T.n_len (by decide +kernel) (pa_cons (pv 2) pa_nil)) pe_int) pa_nil))) (pa_cons (pv 3) pa_nil))))))
      (pss_one (ps_ret (pv 2))))), ?_⟩
    refine ⟨by show 0 ≤ sizeLine; decide, fun d hd => ?_⟩
    have e0 := Ext.new (o := .lst []) hd
    have lx : xs.length = ps.length := by rw [hx.len, List.length_map]
    refine ⟨_, rfl, l, rfl, ⟨_, SqL.of (e0 _ _ hl)⟩, ?_⟩
    refine for_list (xs := xs) (fun i σ H' => ∃ v3 ys qs, σ = [some (.ref p), some (.ref l), some (.ref d), v3] ∧ Ext H H' ∧ H' d = some (.lst ys) ∧ DqAll H ys (qs.map pD) ∧ qs.Perm (ps.take i) ∧ ys.length = i)
      ⟨none, [], [], rfl, e0, upd_same, .nil, .refl _, rfl⟩ (fun i σ H' _ ⟨_, _, _, _, e, _⟩ => SqL.of (e _ _ hl)) ?_ ?_
    · rintro i x σ H1 hxi ⟨v3, ys, qs, rfl, e, hd1, hys, hpm, hyl⟩
      have hi : i < ps.length := by have := (List.getElem?_eq_some_iff.mp hxi).1; omega
      obtain ⟨x', hx', dx'⟩ := DqAll_get hx i (pD ps[i]) (by rw [List.getElem?_map, List.getElem?_eq_getElem hi]; rfl)
      rw [hxi] at hx'
      cases hx'
      refine ⟨_, rfl, .inl ⟨rfl, _, SqL.of hd1⟩, _, rfl, _, rfl, d, _, rfl, .inl (SqL.of hd1), _, _, rfl, rfl, p, _, rfl, hB.up e, by omega, by omega, fun r r0 r1 => ⟨_, rfl, ?_⟩⟩
      obtain ⟨j, rfl⟩ : ∃ j : Nat, r = (j : Int) := ⟨r.toNat, by omega⟩
      refine ⟨d, ys, _, x, rfl, rfl, hd1, Nat.lt_of_le_of_lt (show _ ≤ 20 by omega) (by decide), by omega, by omega, ?_⟩
      refine ⟨_, _, qs.take j ++ [ps[i]] ++ qs.drop j, rfl, Ext.mut e hd, upd_same, ?_, ?_, ?_⟩
      · rw [Int.toNat_natCast, List.map_append, List.map_append, List.map_take, List.map_drop]
        exact dq_app (dq_app (dq_take j hys) (.cons dx' .nil)) (dq_drop j hys)
      · rw [List.take_add_one, List.getElem?_eq_getElem hi]
        exact perm_put _ _ hpm
      · rw [Int.toNat_natCast, List.length_append, List.length_append, List.length_take, List.length_drop, List.length_singleton]
        omega
    · rintro σ H' ⟨v3, ys, qs, rfl, e, hd1, hys, hpm, hyl⟩
      rw [lx, List.take_length] at hpm
      exact ⟨_, rfl, q d ys qs H' hd e hd1 (DqAll.up e hys) hpm⟩
/-! ### _law_dict -/
def spDict : Sp := fun vs H Q _ => ∃ (p l : Addr) (xs : List V) (ps : List (Str × Int)), vs = [.ref p, .ref l] ∧ Bag H p ∧ H l = some (.lst xs) ∧ DqAll H xs (ps.map pD) ∧ ps.length ≤ 20 ∧ (ps.map (·.1)).Nodup ∧
  ∀ (d : Addr) (qs : List (Str × Int)) (H' : Hp), H d = none → Ext H H' → H' d = some (.dK (kvI qs)) → qs.Perm ps → Q (.ref d) H'
abbrev s_dict : Stmt := (topS 22)
theorem sc_dict : FnScope ["_law_bag_here", "_law_pairs", "_law_found", "_law_name", "_law_bound"] ["_law_bag_here", "_law_pairs"] (defScope s_dict) := ⟨rfl, rfl, rfl, by decide +kernel, rfl, by decide +kernel, by decide +kernel⟩
theorem ok_dict {f : Addr} {fd : FuncData} (F : Fun K "_law_dict" "_law_dict" s_dict f fd) (T : BT mg) (CM : Ca P w K mg base 2 "_law_mixed" ["_law_bag_here", "_law_things"] spMixed) :
    FnOk P w K mg base CX0 3 f fd ["_law_bag_here", "_law_pairs"] spDict := by
  refine F.ok sc_dict (fun vs H Q E h => ?_) (fun cdv A outer s H vs Q E hr h => ?_)
  · obtain ⟨p, l, xs, ps, rfl, _⟩ := h
    rfl
  · obtain ⟨p, l, xs, ps, rfl, hB, hl, hx, h20, hnd, q⟩ := h
    refine ⟨_, (pss_cons (ps_set (i := 2) sc_dict.nd rfl (.inl rfl) pe_dnewK)
      (pss_cons (ps_for PassesOwn.never rfl (pi_list (pe_ca CM (hr.mono (by decide)) (by rfl) (pa_cons (pv 0) (pa_cons (pv 1) pa_nil)))) (pg_tup (by rfl) (pgs_cons (pg_name (i := 3) sc_dict.nd rfl (.inl rfl)) (pgs_cons (pg_name (i := 4) sc_dict.nd rfl (.inl rfl)) pgs_nil)))
        (pss_one (ps_dput (hu_of hr) (pv 2) (pv 3) (pv 4) rfl)))
      (pss_one (ps_ret (pv 2))))), ?_⟩
    intro d hd
    have e0 := Ext.new (o := .dK []) hd
    refine ⟨_, rfl, _, rfl, p, l, xs, ps, rfl, hB.up e0, e0 _ _ hl, DqAll.up e0 hx, h20, fun m ys qs H1 hm e1 hm1 hys hpm => ⟨m, rfl, ⟨_, SqL.of hm1⟩, ?_⟩⟩
    have e01 := e0.trans e1
    have hd1 := e1 _ _ (upd_same (H := H) (a := d) (o := HO.dK []))
    have lq : ys.length = qs.length := by rw [hys.len, List.length_map]
    have q20 : qs.length ≤ 20 := by rw [hpm.length_eq]; exact h20
    have ndq : (qs.map (·.1)).Nodup := (hpm.map _).nodup_iff.mpr hnd
    have dm : d ≠ m := fun z => by rw [← z, hd1] at hm1; cases hm1
    refine for_list (xs := ys) (fun i σ H' => ∃ v3 v4, σ = [some (.ref p), some (.ref l), some (.ref d), v3, v4] ∧ Ext (del H1 d) H' ∧ H' d = some (.dK (kvI (qs.take i))))
      ⟨none, none, rfl, del_ext, hd1⟩ (fun i σ H' _ ⟨_, _, _, e, _⟩ => SqL.of (e _ _ (by rw [del_ne (Ne.symm dm)]; exact hm1))) ?_ ?_
    · rintro i x σ H2 hxi ⟨v3, v4, rfl, e, hd2⟩
      have hi : i < qs.length := by have := (List.getElem?_eq_some_iff.mp hxi).1; omega
      obtain ⟨x', hx', dx'⟩ := DqAll_get hys i (pD qs[i]) (by rw [List.getElem?_map, List.getElem?_eq_getElem hi]; rfl)
      rw [hxi] at hx'
      cases hx'
      obtain ⟨t, rfl, ht⟩ := pd_inv dx'
      have dt : t ≠ d := fun z => by rw [z, hd1] at ht; cases ht
      have ht2 := e _ _ (by rw [del_ne dt]; exact ht)
      have hni : qs[i].1 ∉ (qs.take i).map (·.1) := fun z => by
        rw [List.map_take] at z
        obtain ⟨j, hj, ej⟩ := List.getElem_of_mem z
        rw [List.length_take, List.length_map] at hj
        rw [List.getElem_take, List.getElem_map] at ej
        have := List.pairwise_iff_getElem.mp ndq j i (by rw [List.length_map]; omega) (by rw [List.length_map]; omega) (by omega)
        rw [List.getElem_map, List.getElem_map] at this
        exact this ej
      refine ⟨t, _, rfl, SqT.of ht2, rfl, _, _, rfl, _, _, rfl, rfl, _, rfl, _, rfl, _, rfl, d, _, rfl, DPut.k (k := Sum.inr qs[i].1) hd2 (by unfold kvI; rw [List.length_map, List.length_take]; exact Nat.lt_of_le_of_lt (show _ ≤ 20 by omega) (by decide)), _, _, rfl, ?_, ?_⟩
      · intro b o z
        have nb : b ≠ d := fun y => by rw [y] at z; exact absurd z (by rw [del_same]; exact fun w => nomatch w)
        rw [upd_ne nb]
        exact e _ _ z
      · rw [upd_same, putK_new (kvI_none hni), List.take_add_one, List.getElem?_eq_getElem hi]
        unfold kvI
        rw [List.map_append]
        rfl
    · rintro σ H' ⟨v3, v4, rfl, e, hd2⟩
      rw [lq, List.take_length] at hd2
      refine ⟨_, rfl, q d qs H' hd (fun b o z => ?_) hd2 hpm⟩
      have nb : b ≠ d := fun y => by rw [y, hd] at z; cases z
      exact e _ _ (by rw [del_ne nb]; exact e01 _ _ z)
end
end K12

set_option Elab.async false
set_option linter.all false
set_option maxRecDepth 100000
set_option maxHeartbeats 4000000
namespace K12
open PySem PySem.Spec PyProof.Rows L2 Ol RZ
open TL (tl)
def ipM : TIp := fun x y H Q => ∃ i j, x = .int i ∧ y = .int j ∧ CMul i j ∧ Q (.int (i * j)) H
theorem ip_mul {X : Cx} : PIp X .Mult ipM := by
  intro pins s σ H x y v u Q I r1 r2 h
  obtain ⟨i, j, e1, e2, hc, q⟩ := h
  subst e1; subst e2
  obtain ⟨t, rfl⟩ := r1
  obtain ⟨t', rfl⟩ := r2
  exact imul_int ⟨.int _, H, I.tok _, ⟨_, rfl⟩, q⟩ hc.ok
/-- names with bounds of Lanes -/
structure OkRow (row : List (Str × Int)) : Prop where
  ne : row ≠ []
  l4 : row.length ≤ 4
  nd : (row.map (·.1)).Nodup
  nm : ∀ q ∈ row, isNameS q.1 = true
  bd : ∀ q ∈ row, 1 ≤ q.2 ∧ q.2 ≤ 3
def prD (row : List (Str × Int)) : PyData := .list (row.map pD)
theorem dget_kv {H : Hp} {db : Addr} {ps : List (Str × Int)} {x : Str} (h : H db = some (.dK (kvI ps))) (hx : x ∈ ps.map (·.1)) : DGet H db (.str x) (some (.int (bdOf ps x))) := by
  have g := DGet.k (k := .inr x) h
  rw [kvI_val hx] at g
  exact g
theorem at_prev {ys : List Str} {k : Nat} (h : k < ys.length) : ∃ y ∈ ys, atI (ys.map V.str) ((k : Int) - 1) = some (.str y) := by
  cases k with
  | zero =>
    have ne : ys ≠ [] := fun z => by rw [z] at h; cases h
    refine ⟨ys.getLast ne, List.getLast_mem ne, ?_⟩
    have e : ys.map V.str = (ys.dropLast.map V.str) ++ [V.str (ys.getLast ne)] := by
      conv => lhs; rw [← List.dropLast_concat_getLast ne]
      rw [List.map_append]
      rfl
    rw [e]
    exact atI_last _ _
  | succ k =>
    refine ⟨ys[k], List.getElem_mem _, ?_⟩
    have e : ((k + 1 : Nat) : Int) - 1 = (k : Int) := by omega
    rw [e]
    exact atI_nat (by rw [List.getElem?_map, List.getElem?_eq_getElem (by omega)]; rfl)
theorem split_at {α : Type} (xs : List α) (i : Nat) (h : i < xs.length) : xs.take i ++ [xs[i]] ++ xs.drop (i + 1) = xs := by
  rw [List.append_assoc, List.singleton_append, List.getElem_cons_drop, List.take_append_drop]
theorem nodup_put {α : Type} {xs : List α} {z : α} (i : Nat) (h : xs.Nodup) (hz : z ∉ xs) : (xs.take i ++ [z] ++ xs.drop (i + 1)).Nodup := by
  have h1 : (xs.take i ++ xs.drop (i + 1)).Sublist xs := by
    have := List.append_sublist_append_left (xs.take i) |>.mpr (List.drop_sublist_drop_left xs (Nat.le_succ i))
    rw [List.take_append_drop] at this
    exact this
  have h2 : (xs.take i ++ [z] ++ xs.drop (i + 1)).Perm (z :: (xs.take i ++ xs.drop (i + 1))) := by
    rw [List.append_assoc]
    exact List.perm_middle
  refine h2.nodup_iff.mpr (List.nodup_cons.mpr ⟨fun m => hz (h1.subset m), h1.nodup h⟩)
theorem nodup_cut {α : Type} {xs : List α} (i : Nat) (h : xs.Nodup) : (xs.take i ++ xs.drop (i + 1)).Nodup := by
  have h1 : (xs.take i ++ xs.drop (i + 1)).Sublist xs := by
    have := List.append_sublist_append_left (xs.take i) |>.mpr (List.drop_sublist_drop_left xs (Nat.le_succ i))
    rw [List.take_append_drop] at this
    exact this
  exact h1.nodup h
theorem OkRow.sub {xs : List (Str × Int)} (h : OkRow xs) (i : Nat) (h2 : 1 < xs.length) : OkRow (xs.take i ++ xs.drop (i + 1)) := by
  have sub : ∀ q ∈ xs.take i ++ xs.drop (i + 1), q ∈ xs := fun q hq => (List.mem_append.mp hq).elim List.mem_of_mem_take List.mem_of_mem_drop
  refine ⟨fun z => ?_, ?_, ?_, fun q hq => h.nm q (sub q hq), fun q hq => h.bd q (sub q hq)⟩
  · have := congrArg List.length z
    rw [List.length_append, List.length_take, List.length_drop, List.length_nil] at this
    omega
  · rw [List.length_append, List.length_take, List.length_drop]
    have := h.l4
    omega
  · rw [List.map_append, List.map_take, List.map_drop]
    exact nodup_cut i h.nd
theorem OkRow.bound {xs : List (Str × Int)} (h : OkRow xs) {i : Nat} (hi : i < xs.length) {b : Int} (h1 : 1 ≤ b) (h3 : b ≤ 3) : OkRow (xs.take i ++ [(xs[i].1, b)] ++ xs.drop (i + 1)) := by
  have nms : (xs.take i ++ [(xs[i].1, b)] ++ xs.drop (i + 1)).map (·.1) = xs.map (·.1) := by
    rw [List.map_append, List.map_append, List.map_take, List.map_drop]
    have := split_at (xs.map (·.1)) i (by rw [List.length_map]; exact hi)
    rw [List.getElem_map] at this
    exact this
  refine ⟨by simp, ?_, by rw [nms]; exact h.nd, fun q hq => ?_, fun q hq => ?_⟩
  · have := congrArg List.length nms
    rw [List.length_map, List.length_map] at this
    rw [this]
    exact h.l4
  · simp only [List.mem_append, List.mem_singleton] at hq
    rcases hq with (hq | rfl) | hq
    · exact h.nm q (List.mem_of_mem_take hq)
    · exact h.nm xs[i] (List.getElem_mem hi)
    · exact h.nm q (List.mem_of_mem_drop hq)
  · simp only [List.mem_append, List.mem_singleton] at hq
    rcases hq with (hq | rfl) | hq
    · exact h.bd q (List.mem_of_mem_take hq)
    · exact ⟨h1, h3⟩
    · exact h.bd q (List.mem_of_mem_drop hq)
theorem z_name : isNameS ("zzzzzzzz" : Str) = true := by decide +kernel
theorem OkRow.name {xs : List (Str × Int)} (h : OkRow xs) {i : Nat} (hi : i < xs.length) {b : Int} (h1 : 1 ≤ b) (h3 : b ≤ 3) (hz : ("zzzzzzzz" : Str) ∉ xs.map (·.1)) : OkRow (xs.take i ++ [(("zzzzzzzz" : Str), b)] ++ xs.drop (i + 1)) := by
  refine ⟨by simp, ?_, ?_, fun q hq => ?_, fun q hq => ?_⟩
  · have := h.l4
    rw [List.length_append, List.length_append, List.length_take, List.length_drop, List.length_singleton]
    omega
  · rw [List.map_append, List.map_append, List.map_take, List.map_drop]
    exact nodup_put i h.nd hz
  · simp only [List.mem_append, List.mem_singleton] at hq
    rcases hq with (hq | rfl) | hq
    · exact h.nm q (List.mem_of_mem_take hq)
    · exact z_name
    · exact h.nm q (List.mem_of_mem_drop hq)
  · simp only [List.mem_append, List.mem_singleton] at hq
    rcases hq with (hq | rfl) | hq
    · exact h.bd q (List.mem_of_mem_take hq)
    · exact ⟨h1, h3⟩
    · exact h.bd q (List.mem_of_mem_drop hq)
theorem OkRow.more {xs : List (Str × Int)} (h : OkRow xs) (h3 : xs.length ≤ 3) (hz : ("zzzzzzzz" : Str) ∉ xs.map (·.1)) : OkRow (xs ++ [(("zzzzzzzz" : Str), (1 : Int))]) := by
  refine ⟨by simp, by rw [List.length_append, List.length_singleton]; omega, ?_, fun q hq => ?_, fun q hq => ?_⟩
  · rw [List.map_append]
    exact List.nodup_append.mpr ⟨h.nd, by simp, fun a ha b hb => fun e => hz (by
      rw [List.map_singleton, List.mem_singleton] at hb
      have hb' : b = ("zzzzzzzz" : Str) := hb
      rw [← hb', ← e]
      exact ha)⟩
  · rcases List.mem_append.mp hq with hq | hq
    · exact h.nm q hq
    · rw [List.mem_singleton.mp hq]; exact z_name
  · rcases List.mem_append.mp hq with hq | hq
    · exact h.bd q hq
    · rw [List.mem_singleton.mp hq]; decide
section
variable {P : Program} {w : World} {K : PySem.W.Frag} {mg : Str → Option Value} {base : Heap} {C : Addr}
/-! ### _law_small -/
def spSmall : Sp := fun vs H Q _ => ∃ (l : Addr) (xs : List V) (ps : List (Str × Int)), vs = [.ref l] ∧ H l = some (.lst xs) ∧ DqAll H xs (ps.map pD) ∧ (∀ q ∈ ps, 1 ≤ q.2 ∧ q.2 ≤ 3) ∧ ∀ b, Q (.bl b) H
abbrev s_small : Stmt := (topS 24)
theorem sc_small : FnScope ["_law_pairs", "_law_product", "_law_name", "_law_bound"] ["_law_pairs"] (defScope s_small) := ⟨rfl, rfl, rfl, by decide +kernel, rfl, by decide +kernel, by decide +kernel⟩
theorem ok_small {f : Addr} {fd : FuncData} (F : Fun K "_law_small" "_law_small" s_small f fd) :
    FnOk P w K mg base CX0 1 f fd ["_law_pairs"] spSmall := by
  refine F.ok sc_small (fun vs H Q E h => ?_) (fun cdv A outer s H vs Q E hr h => ?_)
  · obtain ⟨l, xs, ps, rfl, _⟩ := h
    rfl
  · obtain ⟨l, xs, ps, rfl, hl, hx, hb, q⟩ := h
    refine ⟨_, (pss_cons (ps_set (i := 1) sc_small.nd rfl (.inl rfl) pe_int)
      (pss_cons (ps_for PassesOwn.never rfl (pi_list (pv 0)) (pg_tup (by rfl) (pgs_cons (pg_name (i := 2) sc_small.nd rfl (.inl rfl)) (pgs_cons (pg_name (i := 3) sc_small.nd rfl (.inl rfl)) pgs_nil)))
        (pss_one (ps_aug (i := 1) sc_small.nd rfl (.inl rfl) (pe_op op_mul pe_int (pe_op op_add (pv 3) pe_int)) (ti := ipM) ip_mul)))
      (pss_one (ps_ret (pe_cmpR op_le (pv 1) pe_int (nomark _)))))), ?_⟩
    refine ⟨_, rfl, l, rfl, ⟨_, SqL.of hl⟩, ?_⟩
    have lx : xs.length = ps.length := by rw [hx.len, List.length_map]
    refine for_list (xs := xs) (fun i σ H' => ∃ n v2 v3, σ = [some (.ref l), some (.int n), v2, v3] ∧ H' = H)
      ⟨_, _, _, rfl, rfl⟩ (fun i σ H' _ ⟨_, _, _, _, e⟩ => by rw [e]; exact SqL.of hl) ?_ ?_
    · rintro i x σ H1 hxi ⟨n, v2, v3, rfl, rfl⟩
      have hi : i < ps.length := by have := (List.getElem?_eq_some_iff.mp hxi).1; omega
      obtain ⟨x', hx', dx'⟩ := DqAll_get hx i (pD ps[i]) (by rw [List.getElem?_map, List.getElem?_eq_getElem hi]; rfl)
      rw [hxi] at hx'
      cases hx'
      obtain ⟨t, rfl, ht⟩ := pd_inv dx'
      have b := hb _ (List.getElem_mem hi)
      refine ⟨t, _, rfl, SqT.of ht, rfl, _, _, rfl, _, _, rfl, rfl, ?_⟩
      refine ⟨_, rfl, _, rfl, _, _, rfl, rfl, _, _, rfl, rfl, .inl ⟨by decide, by decide⟩, _, _, rfl, rfl, .inr ⟨by omega, by omega⟩, ?_⟩
      exact ⟨_, _, _, rfl, rfl⟩
    · rintro σ H' ⟨n, v2, v3, rfl, rfl⟩
      exact ⟨_, rfl, _, _, rfl, rfl, q _⟩
end
end K12

set_option Elab.async false
set_option linter.all false
set_option maxRecDepth 100000
set_option maxHeartbeats 4000000
namespace K12
open PySem PySem.Spec PyProof.Rows L2 Ol RZ
open TL (tl)
theorem cutN {tf tg : TS} {D : Ends} {σ : L2.St} {H : Hp} (W : L2.St → Hp → Prop) (h1 : ∀ N : L2.St → Hp → Prop, (∀ σ' H', W σ' H' → N σ' H') → tf { D with nx := N } σ H) (h2 : ∀ σ' H', W σ' H' → tg D σ' H') : tSeq tf tg D σ H :=
  h1 _ h2
theorem sysUp {H H' : Hp} (h : Sys H) (e : Ext H H') : Sys H' := by
  obtain ⟨o, u, q⟩ := h
  exact ⟨o, u, e _ _ q⟩
section
variable {P : Program} {w : World} {K : PySem.W.Frag} {mg : Str → Option Value} {base : Heap} {C : Addr}
/-! ### _law_others -/
def spOthers : Sp := fun vs H Q _ => ∃ (p an db : Addr) (ps : List (Str × Int)), vs = [.ref p, .ref an, .ref db] ∧ Bag H p ∧ H an = some (.lst ((ps.map (·.1)).map V.str)) ∧ H db = some (.dK (kvI ps)) ∧ OkRow ps ∧ ps.length ≤ 3 ∧ ("zzzzzzzz" : Str) ∉ ps.map (·.1) ∧
  ∀ (fl : Addr) (rows : List (List (Str × Int))) (H' : Hp), H fl = none → Ext H H' → Dq H' (.ref fl) (.list (rows.map prD)) → rows.length ≤ 5 → (∀ row ∈ rows, OkRow row) → Q (.ref fl) H'
abbrev nOth : List Str := ["_law_bag_here", "_law_names_here", "_law_bounds", "_law_found", "_law_at", "_law_more", "_law_pairs", "_law_name", "_law_k"]
abbrev s_others : Stmt := (topS 23)
theorem sc_others : FnScope nOth ["_law_bag_here", "_law_names_here", "_law_bounds"] (defScope s_others) := ⟨rfl, rfl, rfl, by decide +kernel, rfl, by decide +kernel, by decide +kernel⟩
theorem bd_at {ps : List (Str × Int)} (hd : (ps.map (·.1)).Nodup) {i : Nat} (hi : i < ps.length) : bdOf ps ps[i].1 = ps[i].2 := by
  obtain ⟨p, hp, e1, e2⟩ := bd_mem (ps := ps) (x := ps[i].1) (List.mem_map.mpr ⟨ps[i], List.getElem_mem hi, rfl⟩)
  obtain ⟨j, hj, rfl⟩ := List.getElem_of_mem hp
  have : i = j := by
    rcases Nat.lt_trichotomy i j with h | h | h
    · have := List.pairwise_iff_getElem.mp hd i j (by rw [List.length_map]; exact hi) (by rw [List.length_map]; exact hj) h
      rw [List.getElem_map, List.getElem_map] at this
      exact absurd e1.symm this
    · exact h
    · have := List.pairwise_iff_getElem.mp hd j i (by rw [List.length_map]; exact hj) (by rw [List.length_map]; exact hi) h
      rw [List.getElem_map, List.getElem_map] at this
      exact absurd e1 this
  subst this
  exact e2.symm
/-- the rows found so far: all but their list stands as it stood -/
structure Sg (H : Hp) (fl D : Addr) (xs : List V) (ps : List (Str × Int)) (Hk : Hp) (fx : List V) (rows : List (List (Str × Int))) : Prop where
  ex : Ext H (del Hk fl)
  hD : del Hk fl D = some (.lst xs)
  hx : DqAll (del Hk fl) xs (ps.map pD)
  hf : Hk fl = some (.lst fx)
  f2 : DqAll (del Hk fl) fx (rows.map prD)
theorem Sg.len {H : Hp} {fl D : Addr} {xs : List V} {ps : List (Str × Int)} {Hk : Hp} {fx : List V} {rows : List (List (Str × Int))} (h : Sg H fl D xs ps Hk fx rows) : fx.length = rows.length := by rw [h.f2.len, List.length_map]
theorem Sg.xl {H : Hp} {fl D : Addr} {xs : List V} {ps : List (Str × Int)} {Hk : Hp} {fx : List V} {rows : List (List (Str × Int))} (h : Sg H fl D xs ps Hk fx rows) : xs.length = ps.length := by rw [h.hx.len, List.length_map]
theorem Sg.d {H : Hp} {fl D : Addr} {xs : List V} {ps : List (Str × Int)} {Hk : Hp} {fx : List V} {rows : List (List (Str × Int))} (h : Sg H fl D xs ps Hk fx rows) : Hk D = some (.lst xs) := del_ext _ _ h.hD
theorem Sg.e {H : Hp} {fl D : Addr} {xs : List V} {ps : List (Str × Int)} {Hk : Hp} {fx : List V} {rows : List (List (Str × Int))} (h : Sg H fl D xs ps Hk fx rows) : Ext H Hk := h.ex.trans del_ext
theorem Sg.add {H : Hp} {fl D : Addr} {xs : List V} {ps : List (Str × Int)} {Hk H' : Hp} {fx : List V} {rows : List (List (Str × Int))} {r : V} {row : List (Str × Int)} (h : Sg H fl D xs ps Hk fx rows) (e : Ext Hk H') (hr : Dq (del H' fl) r (prD row)) :
    Sg H fl D xs ps (upd H' fl (.lst (fx ++ [r]))) (fx ++ [r]) (rows ++ [row]) := by
  have e2 := ext_del (D := fl) e
  refine ⟨by rw [del_upd]; exact h.ex.trans e2, by rw [del_upd]; exact e2 _ _ h.hD, by rw [del_upd]; exact DqAll.up e2 h.hx, upd_same, ?_⟩
  rw [del_upd, List.map_append]
  exact dq_app (DqAll.up e2 h.f2) (.cons hr .nil)
/-- a pair just made -/
theorem pd_new {H H' : Hp} {t fl : Addr} {x : Str} {b : Int} {u : HO} (hf : H fl = some u) (ht : H t = none) (e : Ext (upd H t (.tup [.str x, .int b])) H') : Dq (del H' fl) (.ref t) (pD (x, b)) := by
  have nt : t ≠ fl := fun z => by rw [z, hf] at ht; cases ht
  exact .tup (by rw [del_ne nt]; exact e _ _ upd_same) (.cons (.str _) (.cons (.int _) .nil))
theorem ok_others {f : Addr} {fd : FuncData} (F : Fun K "_law_others" "_law_others" s_others f fd) (T : BT mg) (CT : Ca P w K mg base 1 "_law_take" ["_law_bag_here", "_law_many"] spTake) :
    FnOk P w K mg base CX0 2 f fd ["_law_bag_here", "_law_names_here", "_law_bounds"] spOthers := by
  refine F.ok sc_others (fun vs H Q E h => ?_) (fun cdv A outer s H vs Q E hr h => ?_)
  · obtain ⟨p, an, db, ps, rfl, _⟩ := h
    rfl
  · obtain ⟨p, an, db, ps, rfl, hB, han, hdb, ok, l3, hz, q⟩ := h
    refine ⟨_, (pss_cons (ps_par (i := 3) (j := 4) rfl sc_others.nd rfl rfl (by decide) rfl rfl (pa_cons (pe_lst pa_nil) (pa_cons (pe_ca CT (hr.mono (by decide)) (by rfl) (pa_cons (pv 0) (pa_cons (pe_callB call_len_seq (by rfl) T.n_len (by decide +kernel) (pa_cons (pv 1) pa_nil)) pa_nil))) pa_nil)) (by rfl))
      (pss_cons (ps_set (i := 5) sc_others.nd rfl (.inl rfl) (pe_ifExp (pt_cmpR op_lt (pe_dget (hu_of hr) (pv 2) (pe_ix ix_list (pv 1) (pv 4) (fun _ _ => rfl)) (fun _ _ => rfl)) pe_int (nomark _)) pe_int (pe_un un_neg pe_int)))
      (pss_cons (ps_setLc (i := 6) (own := [("_law_name", 7)]) (g := gName 7) (tt := tYes) rfl sc_others.nd rfl rfl (sw_true rfl rfl rfl (by decide +kernel)) (pi_list (pv 1)) (blkOk_by (N := nOth) (sc := defScope s_others) (by decide +kernel)) (fun _ _ _ _ _ => pg_name (i := 7) sc_others.nd rfl (.inl rfl)) (fun _ _ _ _ _ => pts_nil) (fun _ _ _ _ _ => pe_tup (pa_cons (pv 7) (pa_cons (pe_dget (hu_of hr) (pv 2) (pv 7) (fun _ _ => rfl)) pa_nil))))
      (pss_cons (ps_expr (pe_bm PySem.F.plainAttrs_list PySem.F.slot_list_append PySem.F.type_list_append mt_append (pv 3) (pa_cons (pe_op op_cat (pe_op op_cat (pe_slice sl_list (pv 6) po_none (po_some (pv 4))) (pe_lst (pa_cons (pe_tup (pa_cons (pe_ix ix_list (pv 1) (pv 4) (fun _ _ => rfl)) (pa_cons (pe_op op_add (pe_dget (hu_of hr) (pv 2) (pe_ix ix_list (pv 1) (pv 4) (fun _ _ => rfl)) (fun _ _ => rfl)) (pv 5)) pa_nil))) pa_nil))) (pe_slice sl_list (pv 6) (po_some (pe_op op_add (pv 4) pe_int)) po_none)) pa_nil)))
      (pss_cons (ps_expr (pe_bm PySem.F.plainAttrs_list PySem.F.slot_list_append PySem.F.type_list_append mt_append (pv 3) (pa_cons (pe_op op_cat (pe_op op_cat (pe_slice sl_list (pv 6) po_none (po_some (pv 4))) (pe_lst (pa_cons (pe_tup (pa_cons pe_str (pa_cons (pe_dget (hu_of hr) (pv 2) (pe_ix ix_list (pv 1) (pv 4) (fun _ _ => rfl)) (fun _ _ => rfl)) pa_nil))) pa_nil))) (pe_slice sl_list (pv 6) (po_some (pe_op op_add (pv 4) pe_int)) po_none)) pa_nil)))
      (pss_cons (ps_expr (pe_bm PySem.F.plainAttrs_list PySem.F.slot_list_append PySem.F.type_list_append mt_append (pv 3) (pa_cons (pe_op op_cat (pv 6) (pe_lst (pa_cons (pe_tup (pa_cons pe_str (pa_cons pe_int pa_nil))) pa_nil))) pa_nil)))
      (pss_cons (ps_if (pt_cmpR op_gt (pe_callB call_len_seq (by rfl) T.n_len (by decide +kernel) (pa_cons (pv 6) pa_nil)) pe_int (nomark _))
        (pss_cons (ps_expr (pe_bm PySem.F.plainAttrs_list PySem.F.slot_list_append PySem.F.type_list_append mt_append (pv 3) (pa_cons (pe_op op_cat (pe_slice sl_list (pv 6) po_none (po_some (pv 4))) (pe_slice sl_list (pv 6) (po_some (pe_op op_add (pv 4) pe_int)) po_none)) pa_nil)))
        (pss_one (ps_expr (pe_bm PySem.F.plainAttrs_list PySem.F.slot_list_append PySem.F.type_list_append mt_append (pv 3) (pa_cons (pe_lc (own := [("_law_k", 8)]) (g := gName 8) (tt := tYes) rfl sc_others.nd (pi_range1 (by rfl) T.n_range (pa_cons (pe_callB call_len_seq (by rfl) T.n_len (by decide +kernel) (pa_cons (pv 1) pa_nil)) pa_nil)) (blkOk_by (N := nOth) (sc := defScope s_others) (by decide +kernel)) (fun _ _ _ _ _ => pg_name (i := 8) sc_others.nd rfl (.inl rfl)) (te := tTup (tCons (tOp (rIxL K) (tVar 1) (tVar 8)) (tCons (tDGet (tVar 2) (tOp (rIxL K) (tVar 1) (tOp (rI0 fun i j => .int (i - j)) (tVar 8) (tC (.int 1))))) tNil))) (fun _ _ _ _ _ => pts_nil) (fun _ _ _ _ _ => pe_tup (pa_cons (pe_ix ix_list (pv 1) (pv 8) (fun _ _ => rfl)) (pa_cons (pe_dget (hu_of hr) (pv 2) (pe_ix ix_list (pv 1) (pe_op op_sub (pv 8) pe_int) (fun _ _ => rfl)) (fun _ _ => rfl)) pa_nil)))) pa_nil)))))
        pss_nil)
      (pss_one (ps_ret (pv 3)))))))))), ?_⟩
    have p0 : 0 < ps.length := List.length_pos_iff.mpr ok.ne
    have ml : ((ps.map (·.1)).map V.str).length = ps.length := by rw [List.length_map, List.length_map]
    have z24 : sizeLine = 16777216 := rfl
    refine ⟨by show 0 ≤ sizeLine; decide, fun fl hfl => ?_⟩
    have e0 := Ext.new (o := .lst []) hfl
    have f0 : upd H fl (.lst []) fl = some (.lst []) := upd_same
    generalize upd H fl (.lst []) = H0 at *
    refine ⟨_, rfl, _, rfl, an, _, rfl, .inl (SqL.of (e0 _ _ han)), p, _, rfl, hB.up e0, by rw [ml]; omega, by rw [ml]; omega, fun r r0 r1 => ⟨_, _, rfl, ?_⟩⟩
    rw [ml] at r1
    obtain ⟨j, rfl⟩ : ∃ j : Nat, r = (j : Int) := ⟨r.toNat, by omega⟩
    have hj : j < ps.length := by omega
    have aj : atI ((ps.map (·.1)).map V.str) (j : Int) = some (.str ps[j].1) := atI_nat (by rw [List.getElem?_map, List.getElem?_map, List.getElem?_eq_getElem hj]; rfl)
    have mj : ps[j].1 ∈ ps.map (·.1) := List.mem_map.mpr ⟨_, List.getElem_mem hj, rfl⟩
    have gj : ∀ {Hk : Hp}, Ext H Hk → DGet Hk db (.str ps[j].1) (some (.int ps[j].2)) := fun e => by
      have g := dget_kv (e _ _ hdb) mj
      rw [bd_at ok.nd hj] at g
      exact g
    have bj := ok.bd _ (List.getElem_mem hj)
    dsimp only
    refine cutN (fun σ' H' => ∃ m : Int, 1 ≤ ps[j].2 + m ∧ ps[j].2 + m ≤ 3 ∧ σ' = [some (.ref p), some (.ref an), some (.ref db), some (.ref fl), some (.int (j : Int)), some (.int m), none, none, none] ∧ H' = H0) (fun W hW => ?_) ?_
    · refine ⟨_, rfl, _, rfl, _, rfl, an, _, _, _, rfl, rfl, SqL.of (e0 _ _ han), aj, db, _, rfl, gj e0, _, _, rfl, rfl, _, rfl, ?_⟩
      refine ite2 (fun g => ?_) (fun g => ?_)
      · have := of_decide_eq_true g
        exact hW _ _ ⟨1, by omega, by omega, rfl, rfl⟩
      · have : ¬ ps[j].2 < 3 := by simpa using g
        exact ⟨_, rfl, hW _ _ ⟨-1, by omega, by omega, rfl, rfl⟩⟩
    rintro σ' H' ⟨m, m1, m3, rfl, rfl⟩
    refine ⟨_, rfl, an, rfl, ⟨_, SqL.of (e0 _ _ han)⟩, fun D hD => ?_⟩
    refine lc1_acc (walk_list (xs := (ps.map (·.1)).map V.str)) (fun i ys Hd => DqAll (del Hd fl) ys ((ps.take i).map pD)) (fun _ _ _ _ e h => DqAll.up (ext_del e) h) .nil hD
      (fun i ys _ h => by rw [h.len, List.length_map, List.length_take]; exact Nat.lt_of_le_of_lt (show _ ≤ 3 by omega) (by decide)) (fun H' e => SqL.of ((e0.trans e) _ _ han)) ?_ ?_
    · rintro i x Hi H' ys hi e hy ⟨rfl, hx⟩ hp QY QN kY kN
      rw [ml] at hi
      rw [List.getElem?_map, List.getElem?_map, List.getElem?_eq_getElem hi] at hx
      cases hx
      have mi : ps[i].1 ∈ ps.map (·.1) := List.mem_map.mpr ⟨_, List.getElem_mem hi, rfl⟩
      have gi := dget_kv ((e0.trans e) _ _ hdb) mi
      rw [bd_at ok.nd hi] at gi
      refine ⟨rfl, ?_⟩
      refine tyes ?_
      refine ⟨_, rfl, _, rfl, _, rfl, db, _, rfl, gi, by show 2 ≤ sizeLine; decide, fun t ht => ?_⟩
      have et := Ext.new (o := .tup [.str ps[i].1, .int ps[i].2]) ht
      refine kY _ _ et ?_
      rw [List.take_add_one, List.getElem?_eq_getElem hi, Option.toList_some, List.map_append]
      have nf : t ≠ fl := fun z => by rw [z, e _ _ f0] at ht; cases ht
      have nD : t ≠ D := fun z => by rw [z, hy] at ht; cases ht
      exact dq_app (DqAll.up (ext_del (ext_del et)) hp) (.cons (.tup (by rw [del_ne nf, del_ne nD]; exact upd_same) (.cons (.str _) (.cons (.int _) .nil))) .nil)
    intro H1 xs e1 hD1 hp
    rw [ml, List.take_length] at hp
    have nDf : D ≠ fl := fun z => by rw [z, f0] at hD; cases hD
    have S1 : Sg H fl D xs ps H1 [] [] := ⟨ext_to (e0.trans e1) hfl, by rw [del_ne nDf]; exact hD1, hp, e1 _ _ f0, .nil⟩
    clear hD1 hp e1 f0 e0
    have cut1 : cutV xs none (some (j : Int)) = xs.take j := cut_take _ _
    have cut2 : cutV xs (some ((j : Int) + 1)) none = xs.drop (j + 1) := cut_drop xs (j + 1)
    have xl := S1.xl
    -- the rows with another pair at the place
    have putr : ∀ {Hk H' : Hp} {fx : List V} {rows : List (List (Str × Int))} {t q5 : Addr} {x : Str} {b : Int}, Sg H fl D xs ps Hk fx rows → Ext Hk H' → H' q5 = some (.lst (xs.take j ++ [.ref t] ++ xs.drop (j + 1))) → q5 ≠ fl → Dq (del H' fl) (.ref t) (pD (x, b)) →
        Dq (del H' fl) (.ref q5) (prD (ps.take j ++ [(x, b)] ++ ps.drop (j + 1))) := by
      intro Hk H' fx rows t q5 x b S e h5 n5 dt
      refine .lst (by rw [del_ne n5]; exact h5) ?_
      rw [List.map_append, List.map_append, List.map_take, List.map_drop]
      have hx' := DqAll.up (ext_del (D := fl) e) S.hx
      exact dq_app (dq_app (dq_take j hx') (.cons dt .nil)) (dq_drop (j + 1) hx')
    have tl : (xs.take j).length ≤ 3 := by rw [List.length_take]; omega
    have dl : (xs.drop (j + 1)).length ≤ 3 := by rw [List.length_drop]; omega
    -- row 1
    refine ⟨_, rfl, .inl ⟨rfl, _, SqL.of S1.hf⟩, _, rfl, _, rfl, _, rfl, D, _, rfl, SqL.of S1.d, fun p1 h1 => ?_⟩
    rw [cut1]
    have x1 := Ext.new (o := .lst (xs.take j)) h1
    have a1 := upd_same (H := H1) (a := p1) (o := HO.lst (xs.take j))
    generalize upd H1 p1 (.lst (xs.take j)) = Ha at x1 a1 ⊢
    have ea := S1.e.trans x1
    refine ⟨_, rfl, _, rfl, an, _, _, _, rfl, rfl, SqL.of (ea _ _ han), aj, _, rfl, _, rfl, _, rfl, an, _, _, _, rfl, rfl, SqL.of (ea _ _ han), aj, db, _, rfl, gj ea, _, rfl, _, _, rfl, rfl, by show 2 ≤ sizeLine; decide, fun t ht => ⟨by show 1 ≤ sizeLine; decide, fun l2 hl2 => ?_⟩⟩
    have nt : t ≠ fl := fun z => by rw [z, x1 _ _ S1.hf] at ht; cases ht
    have x2 := Ext.new (o := .tup [.str ps[j].1, .int (ps[j].2 + m)]) ht
    have a2 := upd_same (H := Ha) (a := t) (o := HO.tup [.str ps[j].1, .int (ps[j].2 + m)])
    generalize upd Ha t (.tup [.str ps[j].1, .int (ps[j].2 + m)]) = Hb at x2 a2 hl2 ⊢
    have x3 := Ext.new (o := .lst [.ref t]) hl2
    have a3 := upd_same (H := Hb) (a := l2) (o := HO.lst [V.ref t])
    generalize upd Hb l2 (.lst [.ref t]) = Hc at x3 a3 ⊢
    refine ⟨p1, l2, _, _, rfl, rfl, (x2.trans x3) _ _ a1, a3, by rw [List.length_singleton]; omega, fun p3 h3 => ?_⟩
    have x4 := Ext.new (o := .lst (xs.take j ++ [.ref t])) h3
    have a4 := upd_same (H := Hc) (a := p3) (o := HO.lst (xs.take j ++ [V.ref t]))
    generalize upd Hc p3 (.lst (xs.take j ++ [.ref t])) = Hd at x4 a4 ⊢
    have x14 := ((x1.trans x2).trans x3).trans x4
    refine ⟨_, rfl, _, rfl, _, _, rfl, rfl, _, rfl, D, _, rfl, SqL.of (x14 _ _ S1.d), fun p4 h4 => ?_⟩
    rw [cut2]
    have x5 := Ext.new (o := .lst (xs.drop (j + 1))) h4
    have a5 := upd_same (H := Hd) (a := p4) (o := HO.lst (xs.drop (j + 1)))
    generalize upd Hd p4 (.lst (xs.drop (j + 1))) = He at x5 a5 ⊢
    refine ⟨p3, p4, _, _, rfl, rfl, x5 _ _ a4, a5, by rw [List.length_append, List.length_singleton]; omega, fun p5 h5 => ?_⟩
    have x6 := Ext.new (o := .lst (xs.take j ++ [.ref t] ++ xs.drop (j + 1))) h5
    have a6 := upd_same (H := He) (a := p5) (o := HO.lst (xs.take j ++ [V.ref t] ++ xs.drop (j + 1)))
    have n5 : p5 ≠ fl := fun z => by rw [z, (x14.trans x5) _ _ S1.hf] at h5; cases h5
    generalize upd He p5 (.lst (xs.take j ++ [.ref t] ++ xs.drop (j + 1))) = Hf at x6 a6 ⊢
    have x16 := (x14.trans x5).trans x6
    have dt : Dq (del Hf fl) (.ref t) (pD (ps[j].1, ps[j].2 + m)) := .tup (by rw [del_ne nt]; exact (x3.trans (x4.trans (x5.trans x6))) _ _ a2) (.cons (.str _) (.cons (.int _) .nil))
    have S2 := S1.add x16 (putr S1 x16 a6 n5 dt)
    refine ⟨fl, _, _, rfl, rfl, x16 _ _ S1.hf, by rw [S1.len]; exact Nat.lt_of_le_of_lt (show _ ≤ 5 by simp) (by decide), ?_⟩
    generalize upd Hf fl _ = H2 at S2 ⊢
    clear x1 a1 ea ht hl2 x2 a2 x3 a3 x4 a4 x14 x5 a5 x6 a6 x16 dt h1 h3 h4 h5
    -- row 2
    refine ⟨_, rfl, .inl ⟨rfl, _, SqL.of S2.hf⟩, _, rfl, _, rfl, _, rfl, D, _, rfl, SqL.of S2.d, fun p1 h1 => ?_⟩
    rw [cut1]
    have x1 := Ext.new (o := .lst (xs.take j)) h1
    have a1 := upd_same (H := H2) (a := p1) (o := HO.lst (xs.take j))
    generalize upd H2 p1 (.lst (xs.take j)) = Ha at x1 a1 ⊢
    have ea := S2.e.trans x1
    refine ⟨_, rfl, _, rfl, _, rfl, an, _, _, _, rfl, rfl, SqL.of (ea _ _ han), aj, db, _, rfl, gj ea, by show 2 ≤ sizeLine; decide, fun t ht => ⟨by show 1 ≤ sizeLine; decide, fun l2 hl2 => ?_⟩⟩
    have nt : t ≠ fl := fun z => by rw [z, x1 _ _ S2.hf] at ht; cases ht
    have x2 := Ext.new (o := .tup [.str "zzzzzzzz", .int ps[j].2]) ht
    have a2 := upd_same (H := Ha) (a := t) (o := HO.tup [.str "zzzzzzzz", .int ps[j].2])
    generalize upd Ha t (.tup [.str "zzzzzzzz", .int ps[j].2]) = Hb at x2 a2 hl2 ⊢
    have x3 := Ext.new (o := .lst [.ref t]) hl2
    have a3 := upd_same (H := Hb) (a := l2) (o := HO.lst [V.ref t])
    generalize upd Hb l2 (.lst [.ref t]) = Hc at x3 a3 ⊢
    refine ⟨p1, l2, _, _, rfl, rfl, (x2.trans x3) _ _ a1, a3, by rw [List.length_singleton]; omega, fun p3 h3 => ?_⟩
    have x4 := Ext.new (o := .lst (xs.take j ++ [.ref t])) h3
    have a4 := upd_same (H := Hc) (a := p3) (o := HO.lst (xs.take j ++ [V.ref t]))
    generalize upd Hc p3 (.lst (xs.take j ++ [.ref t])) = Hd at x4 a4 ⊢
    have x14 := ((x1.trans x2).trans x3).trans x4
    refine ⟨_, rfl, _, rfl, _, _, rfl, rfl, _, rfl, D, _, rfl, SqL.of (x14 _ _ S2.d), fun p4 h4 => ?_⟩
    rw [cut2]
    have x5 := Ext.new (o := .lst (xs.drop (j + 1))) h4
    have a5 := upd_same (H := Hd) (a := p4) (o := HO.lst (xs.drop (j + 1)))
    generalize upd Hd p4 (.lst (xs.drop (j + 1))) = He at x5 a5 ⊢
    refine ⟨p3, p4, _, _, rfl, rfl, x5 _ _ a4, a5, by rw [List.length_append, List.length_singleton]; omega, fun p5 h5 => ?_⟩
    have x6 := Ext.new (o := .lst (xs.take j ++ [.ref t] ++ xs.drop (j + 1))) h5
    have a6 := upd_same (H := He) (a := p5) (o := HO.lst (xs.take j ++ [V.ref t] ++ xs.drop (j + 1)))
    have n5 : p5 ≠ fl := fun z => by rw [z, (x14.trans x5) _ _ S2.hf] at h5; cases h5
    generalize upd He p5 (.lst (xs.take j ++ [.ref t] ++ xs.drop (j + 1))) = Hf at x6 a6 ⊢
    have x16 := (x14.trans x5).trans x6
    have dt : Dq (del Hf fl) (.ref t) (pD (("zzzzzzzz" : Str), ps[j].2)) := .tup (by rw [del_ne nt]; exact (x3.trans (x4.trans (x5.trans x6))) _ _ a2) (.cons (.str _) (.cons (.int _) .nil))
    have S3 := S2.add x16 (putr S2 x16 a6 n5 dt)
    refine ⟨fl, _, _, rfl, rfl, x16 _ _ S2.hf, by rw [S2.len]; exact Nat.lt_of_le_of_lt (show _ ≤ 5 by simp) (by decide), ?_⟩
    generalize upd Hf fl _ = H3 at S3 ⊢
    clear x1 a1 ea ht hl2 x2 a2 x3 a3 x4 a4 x14 x5 a5 x6 a6 x16 dt h1 h3 h4 h5
    -- row 3
    refine ⟨_, rfl, .inl ⟨rfl, _, SqL.of S3.hf⟩, _, rfl, by show 2 ≤ sizeLine; decide, fun t ht => ⟨by show 1 ≤ sizeLine; decide, fun l2 hl2 => ?_⟩⟩
    have nt : t ≠ fl := fun z => by rw [z, S3.hf] at ht; cases ht
    have x2 := Ext.new (o := .tup [.str "zzzzzzzz", .int 1]) ht
    have a2 := upd_same (H := H3) (a := t) (o := HO.tup [.str "zzzzzzzz", .int 1])
    generalize upd H3 t (.tup [.str "zzzzzzzz", .int 1]) = Hb at x2 a2 hl2 ⊢
    have x3 := Ext.new (o := .lst [.ref t]) hl2
    have a3 := upd_same (H := Hb) (a := l2) (o := HO.lst [V.ref t])
    generalize upd Hb l2 (.lst [.ref t]) = Hc at x3 a3 ⊢
    refine ⟨D, l2, _, _, rfl, rfl, (x2.trans x3) _ _ S3.d, a3, by rw [List.length_singleton]; omega, fun p3 h3 => ?_⟩
    have n3 : p3 ≠ fl := fun z => by rw [z, (x2.trans x3) _ _ S3.hf] at h3; cases h3
    have x4 := Ext.new (o := .lst (xs ++ [.ref t])) h3
    have a4 := upd_same (H := Hc) (a := p3) (o := HO.lst (xs ++ [V.ref t]))
    generalize upd Hc p3 (.lst (xs ++ [.ref t])) = Hd at x4 a4 ⊢
    have x24 := (x2.trans x3).trans x4
    have dr : Dq (del Hd fl) (.ref p3) (prD (ps ++ [(("zzzzzzzz" : Str), (1 : Int))])) := by
      refine .lst (by rw [del_ne n3]; exact a4) ?_
      rw [List.map_append]
      exact dq_app (DqAll.up (ext_del x24) S3.hx) (.cons (.tup (by rw [del_ne nt]; exact (x3.trans x4) _ _ a2) (.cons (.str _) (.cons (.int _) .nil))) .nil)
    have S4 := S3.add x24 dr
    refine ⟨fl, _, _, rfl, rfl, x24 _ _ S3.hf, by rw [S3.len]; exact Nat.lt_of_le_of_lt (show _ ≤ 5 by simp) (by decide), ?_⟩
    generalize upd Hd fl _ = H4 at S4 ⊢
    clear x2 a2 x3 a3 x4 a4 x24 dr ht hl2 h3
    have fin : ∀ {Hk : Hp} {fx : List V} {rows : List (List (Str × Int))}, Sg H fl D xs ps Hk fx rows → rows.length ≤ 5 → (∀ row ∈ rows, OkRow row) → Q (.ref fl) Hk := fun S l h => q fl _ _ hfl S.e (.lst S.hf (DqAll.up del_ext S.f2)) l h
    have o1 := ok.bound hj (b := ps[j].2 + m) m1 m3
    have o2 := ok.name hj bj.1 bj.2 hz
    have o3 := ok.more l3 hz
    refine ⟨_, rfl, D, _, rfl, .inl (SqL.of S4.d), _, _, rfl, rfl, _, rfl, ?_⟩
    refine ite2 (fun g => ?_) (fun g => ?_)
    · have g1 : 1 < ps.length := by
        have := of_decide_eq_true g
        omega
      have o4 := ok.sub j g1
      -- row 4
      refine ⟨_, rfl, .inl ⟨rfl, _, SqL.of S4.hf⟩, _, rfl, _, rfl, _, rfl, D, _, rfl, SqL.of S4.d, fun p1 h1 => ?_⟩
      rw [cut1]
      have x1 := Ext.new (o := .lst (xs.take j)) h1
      have a1 := upd_same (H := H4) (a := p1) (o := HO.lst (xs.take j))
      generalize upd H4 p1 (.lst (xs.take j)) = Ha at x1 a1 ⊢
      refine ⟨_, rfl, _, rfl, _, _, rfl, rfl, _, rfl, D, _, rfl, SqL.of (x1 _ _ S4.d), fun p4 h4 => ?_⟩
      rw [cut2]
      have x5 := Ext.new (o := .lst (xs.drop (j + 1))) h4
      have a5 := upd_same (H := Ha) (a := p4) (o := HO.lst (xs.drop (j + 1)))
      generalize upd Ha p4 (.lst (xs.drop (j + 1))) = He at x5 a5 ⊢
      refine ⟨p1, p4, _, _, rfl, rfl, x5 _ _ a1, a5, by omega, fun p5 h5 => ?_⟩
      have n5 : p5 ≠ fl := fun z => by rw [z, (x1.trans x5) _ _ S4.hf] at h5; cases h5
      have x6 := Ext.new (o := .lst (xs.take j ++ xs.drop (j + 1))) h5
      have a6 := upd_same (H := He) (a := p5) (o := HO.lst (xs.take j ++ xs.drop (j + 1)))
      generalize upd He p5 (.lst (xs.take j ++ xs.drop (j + 1))) = Hf at x6 a6 ⊢
      have x16 := (x1.trans x5).trans x6
      have dr : Dq (del Hf fl) (.ref p5) (prD (ps.take j ++ ps.drop (j + 1))) := by
        refine .lst (by rw [del_ne n5]; exact a6) ?_
        rw [List.map_append, List.map_take, List.map_drop]
        have hx' := DqAll.up (ext_del (D := fl) x16) S4.hx
        exact dq_app (dq_take j hx') (dq_drop (j + 1) hx')
      have S5 := S4.add x16 dr
      refine ⟨fl, _, _, rfl, rfl, x16 _ _ S4.hf, by rw [S4.len]; exact Nat.lt_of_le_of_lt (show _ ≤ 5 by simp) (by decide), ?_⟩
      generalize upd Hf fl _ = H5 at S5 ⊢
      clear x1 a1 x5 a5 x6 a6 x16 dr h1 h4 h5
      -- row 5
      refine ⟨_, rfl, .inl ⟨rfl, _, SqL.of S5.hf⟩, _, rfl, an, _, rfl, .inl (SqL.of (S5.e _ _ han)), _, rfl, by rw [ml]; omega, by rw [ml]; omega, fun D2 hD2 => ?_⟩
      rw [ml]
      refine lc1_acc walk_range (fun i ys Hd => ∃ row : List (Str × Int), DqAll (del Hd fl) ys (row.map pD) ∧ row.map (·.1) = (ps.map (·.1)).take i ∧ (∀ q ∈ row, 1 ≤ q.2 ∧ q.2 ≤ 3) ∧ i ≤ ps.length ∧ row.length = i)
        (fun _ _ _ _ e ⟨row, h, r⟩ => ⟨row, DqAll.up (ext_del e) h, r⟩) ⟨[], .nil, rfl, (fun q hq => by cases hq), by omega, rfl⟩ hD2
        (fun i ys _ ⟨row, h, _, _, h2, h3⟩ => by rw [h.len, List.length_map, h3]; exact Nat.lt_of_le_of_lt (show _ ≤ 3 by omega) (by decide)) (fun _ _ => trivial) ?_ ?_
      · rintro i x Hi H' ys hi e hy ⟨rfl, rfl⟩ ⟨row, hp, hn, hb, _, hl⟩ QY QN kY kN
        have hi2 : i < ps.length := by omega
        obtain ⟨y, hy2, ay⟩ := at_prev (ys := ps.map (·.1)) (k := i) (by rw [List.length_map]; exact hi2)
        obtain ⟨pq, hpq, _, eb⟩ := bd_mem hy2
        have bq := ok.bd _ hpq
        have ei := S5.e.trans e
        refine ⟨rfl, ?_⟩
        refine tyes ?_
        have ai : atI ((ps.map (·.1)).map V.str) (0 + (i : Int)) = some (.str ps[i].1) := by
          rw [Int.zero_add]
          exact atI_nat (by rw [List.getElem?_map, List.getElem?_map, List.getElem?_eq_getElem hi2]; rfl)
        have ay2 : atI ((ps.map (·.1)).map V.str) (0 + (i : Int) - 1) = some (.str y) := by
          rw [Int.zero_add]
          exact ay
        refine ⟨_, rfl, _, rfl, an, _, _, _, rfl, rfl, SqL.of (ei _ _ han), ai, _, rfl, _, rfl, _, rfl, _, _, rfl, rfl, an, _, _, _, rfl, rfl, SqL.of (ei _ _ han), ay2, db, _, rfl, dget_kv (ei _ _ hdb) hy2, by show 2 ≤ sizeLine; decide, fun t ht => ?_⟩
        have et := Ext.new (o := .tup [.str ps[i].1, .int (bdOf ps y)]) ht
        have nf : t ≠ fl := fun z => by rw [z, e _ _ S5.hf] at ht; cases ht
        have nD : t ≠ D2 := fun z => by rw [z, hy] at ht; cases ht
        refine kY _ _ et ⟨row ++ [(ps[i].1, bdOf ps y)], ?_, ?_, fun q hq => ?_, by omega, by rw [List.length_append, List.length_singleton, hl]⟩
        · rw [List.map_append]
          exact dq_app (DqAll.up (ext_del (ext_del et)) hp) (.cons (.tup (by rw [del_ne nf, del_ne nD]; exact upd_same) (.cons (.str _) (.cons (.int _) .nil))) .nil)
        · rw [List.map_append, hn, List.take_add_one, List.getElem?_map, List.getElem?_eq_getElem hi2]
          rfl
        · rcases List.mem_append.mp hq with h | h
          · exact hb q h
          · rw [List.mem_singleton.mp h]
            rw [← eb]
            exact bq
      intro H6 ys e6 hD6 ⟨row, hp, hn, hb, _, hl⟩
      have hl' : row.length = ps.length := by omega
      have hn' : row.map (·.1) = ps.map (·.1) := by
        rw [hn]
        exact List.take_of_length_le (by rw [List.length_map]; omega)
      have nD2 : D2 ≠ fl := fun z => by rw [z, S5.hf] at hD2; cases hD2
      have S6 := S5.add e6 (row := row) (.lst (by rw [del_ne nD2]; exact hD6) hp)
      have o5 : OkRow row := by
        refine ⟨fun z => ?_, by rw [hl']; exact ok.l4, by rw [hn']; exact ok.nd, fun q hq => ?_, hb⟩
        · rw [z] at hl'
          exact absurd hl' (by show ¬ 0 = _; omega)
        · have : q.1 ∈ ps.map (·.1) := hn' ▸ List.mem_map.mpr ⟨q, hq, rfl⟩
          obtain ⟨q2, h2, e2⟩ := List.mem_map.mp this
          rw [← e2]
          exact ok.nm q2 h2
      refine ⟨fl, _, _, rfl, rfl, e6 _ _ S5.hf, by rw [S5.len]; exact Nat.lt_of_le_of_lt (show _ ≤ 5 by simp) (by decide), ?_⟩
      refine ⟨_, rfl, fin S6 (by simp) fun r hr => ?_⟩
      simp only [List.mem_append, List.mem_cons, List.not_mem_nil, or_false, false_or, List.nil_append] at hr
      rcases hr with (((rfl | rfl) | rfl) | rfl) | rfl <;> assumption
    · refine ⟨_, rfl, fin S4 (by simp) fun r hr => ?_⟩
      simp only [List.mem_append, List.mem_cons, List.not_mem_nil, or_false, false_or, List.nil_append] at hr
      rcases hr with (rfl | rfl) | rfl <;> assumption
end
end K12

set_option Elab.async false
set_option linter.all false
set_option maxRecDepth 100000
set_option maxHeartbeats 4000000
namespace K12
open PySem PySem.Spec PyProof.Rows L2 Ol RZ
open TL (tl)
section
variable {P : Program} {w : World} {K : PySem.W.Frag} {mg : Str → Option Value} {base : Heap} {C N Wr : Addr}
theorem no_l (x : V) : (no1 x).lookup ("lane" : Str) = some x := by
  unfold no1
  rw [List.lookup_cons_self]
/-- the classes of the errors -/
structure ET (K : PySem.W.Frag) (mg : Str → Option Value) (N Wr : Addr) : Prop where
  bs : ∃ B : Addr, mg "LaneError" = some (.ref B) ∧ PySem.W.exmOne K (.ref N) (.ref B) = some true
  eN : ExcC K N
  gW : mg "Wrong" = some (.ref Wr)
  kNN : PySem.W.kitOne K (.ref N) (.ref N) = some true
  kNW : PySem.W.kitOne K (.ref N) (.ref Wr) = some false
/-! ### _law_unknown -/
def spUnknown (C : Addr) : Sp := fun vs H Q _ => ∃ (p : Addr) (ns : List Str) (bs : List Int) (x : Str), vs = [.ref p, .str x] ∧ LanesAt C H p ns bs ∧ Tx x ∧ x ∉ ns ∧ ∀ H', Ext H H' → Q (.bl true) H'
abbrev s_unknown : Stmt := (topS 25)
theorem sc_unknown : FnScope ["_law_lanes", "_law_name", "_law_again", "e"] ["_law_lanes", "_law_name"] (defScope s_unknown) := ⟨rfl, rfl, rfl, by decide +kernel, rfl, by decide +kernel, by decide +kernel⟩
abbrev unBody (K : PySem.W.Frag) (C N : Addr) : WX → TS := fun W => tSeq (tDrop (tMethX C "bound" (spBoundX C N) (WE W) (tVar 0) (tCons (tVar 1) tNil))) (tRet (tC (.bl false)))
abbrev unSuite (K : PySem.W.Frag) (N Wr : Addr) : Addr → Value → Option Addr → TS := fun a cls d => tIfS (tOr (tNot (tB (tCB (rIsX K a cls d) (tCons (tVar 3) (tCons (tC (.ref N)) tNil))))) (tOr (tB (tCB (rIsX K a cls d) (tCons (tVar 3) (tCons (tC (.ref Wr)) tNil)))) (tTest (tOp rNe (tXf a cls d N "lane" (tVar 3)) (tVar 1))))) (tRet (tC (.bl false))) tNext
theorem ok_unknown {f : Addr} {fd : FuncData} (F : Fun K "_law_unknown" "_law_unknown" s_unknown f fd) (T : BT mg) (L : LT K mg C) (TN : NT K mg N) (TE : ET K mg N Wr)
    (MB : CmX P w K mg base C 4 "bound" ["self", "lane"] (spBoundX C N)) :
    FnOk P w K mg base CX0 5 f fd ["_law_lanes", "_law_name"] (spUnknown C) := by
  obtain ⟨B, gB, tNB⟩ := TE.bs
  refine F.ok sc_unknown (fun vs H Q E h => ?_) (fun cdv A outer s H vs Q E hr h => ?_)
  · obtain ⟨p, ns, bs, x, rfl, _⟩ := h
    rfl
  · obtain ⟨p, ns, bs, x, rfl, hL, hx, hn, q⟩ := h
    refine ⟨_, (pss_cons (ps_for PassesOwn.never rfl (pi_range1 (by rfl) T.n_range (pa_cons pe_int pa_nil)) (pg_name (i := 2) sc_unknown.nd rfl (.inl rfl))
        (pss_one (ps_try_as (i := 3) (tb := unBody K C N) (ts := unSuite K N Wr) (Wout := fun _ _ _ _ => False) rfl rfl sc_unknown.nd rfl rfl ⟨rfl, by decide, Or.inl gB⟩ takes0
          (fun W pn xe tk _ => pss_cons (ps_expr (by exact (pe_cmX MB L.cl (hr.mono (by decide)) (fun σ => passAt tk σ) (pv 0) (pa_cons (pv 1) pa_nil)))) (pss_one (ps_ret pe_bl)))
          (fun a oe cls d pn hz hf => pss_one (ps_if (PW.pt (pw_or (pt_not (pt_val (pe_callB (call_isX hz hf) (by rfl) T.n_isinstance (by decide +kernel) (pa_cons (pv 3) (pa_cons (pe_glob (v := .ref N) rfl TN.gN rfl) pa_nil))))) (pw_or (pt_val (pe_callB (call_isX hz hf) (by rfl) T.n_isinstance (by decide +kernel) (pa_cons (pv 3) (pa_cons (pe_glob (v := .ref Wr) rfl TE.gW rfl) pa_nil)))) (pw_or1 (pt_cmpR op_ne (by exact (pe_xf TN.xf TN.nL hz hf (pv 3))) (pv 1) (nomark _))))))
            (pss_one (ps_ret pe_bl)) pss_nil)))))
      (pss_one (ps_ret pe_bl))), ?_⟩
    refine ⟨_, rfl, by decide, by decide, for_range (n := 2) (tb := fun D σ H => unBody K C N (wAs K (.ref B) 3 (unSuite K N Wr) (fun _ _ _ _ => False) D) D σ H) (fun i σ H' => ∃ s2 s3, σ = [some (.ref p), some (.str x), s2, s3] ∧ Ext H H')
      ⟨none, none, rfl, .refl _⟩ ?_ ?_⟩
    · rintro i σ H' hi ⟨s2, s3, rfl, e⟩
      have hL' := hL.up e
      obtain ⟨dx, n, b, sp, h1, h2, h3, h4, hl0, hnd, hl2, hns, hbs⟩ := id hL'
      refine ⟨_, rfl, p, dx, _, rfl, h1, lf_no _ _ _ (by decide +kernel) (by decide +kernel) (by decide +kernel), _, rfl, p, ns, bs, x, rfl, hL', hx, hn, fun d H1 e1 hd => ⟨true, tNB, fun _ a ha => ?_, fun z => Bool.noConfusion z⟩⟩
      refine ⟨_, rfl, N, N, d, _, true, rfl, rfl, TE.eN, rfl, hd, TE.kNN, _, rfl, ?_⟩
      refine iteF ?_
      refine ⟨_, rfl, N, Wr, d, _, false, rfl, rfl, TE.eN, rfl, hd, TE.kNW, _, rfl, ?_⟩
      refine iteF ?_
      refine ⟨_, rfl, rfl, rfl, d, _, _, rfl, hd, no_l _, _, rfl, rfl, _, rfl, ?_⟩
      rw [decide_eq_true rfl]
      refine iteF ?_
      exact ⟨_, _, rfl, e.trans e1⟩
    · rintro σ H' ⟨s2, s3, rfl, e⟩
      exact q _ e
end
end K12

set_option Elab.async false
set_option linter.all false
set_option maxRecDepth 100000
set_option maxHeartbeats 4000000
namespace K12
open PySem PySem.Spec PyProof.Rows L2 Ol RZ
open TL (tl)
theorem fn_or {P : Program} {w : World} {K : PySem.W.Frag} {mg : Str → Option Value} {base : Heap} {CX : CXT} {k : Nat} {f : Addr} {fd : FuncData} {ps : List Str} {sp sp' : Sp} (F : FnOk P w K mg base CX k f fd ps sp) (G : FnOk P w K mg base CX k f fd ps sp') :
    FnOk P w K mg base CX k f fd ps (fun vs H Q E => sp vs H Q E ∨ sp' vs H Q E) :=
  ⟨fun vs H Q E h => h.elim (F.len vs H Q E) (G.len vs H Q E), fun A outer s H args us vs Q E hr e0 b r h => h.elim (F.run A outer s H args us vs Q E hr e0 b r) (G.run A outer s H args us vs Q E hr e0 b r)⟩
def spHasA (C : Addr) : Sp := fun vs H Q E => spHas C vs H Q E ∨ spHasO C vs H Q E
theorem op_inM {X : Cx} {k : Nat} {C : Addr} {ps : List Str} {sp : Sp} (M : Cm X.prog X.w X.K X.mg X.base C k "__contains__" ps sp) (hr : Room k X.A) : OpR X (compareOp .In) (rInO C sp) := by
  obtain ⟨f, fd, F, hm, b⟩ := M.has
  exact op_inO F hr hm.at_ hm.fn b
theorem bl_ok (b : Bool) : SeqAt.shaped (.bool b) = true ∧ Fits (.bool b) := by
  have f := (gd_bl b).fits (by decide)
  refine ⟨lay_shaped (by simp [PyData.canLay0]) (Nat.le_trans f.dep (by decide)), f⟩
theorem int_ok {n : Int} (h : Gd 0 (.int n)) : SeqAt.shaped (.int n) = true ∧ Fits (.int n) := by
  have f := h.fits (by decide)
  refine ⟨lay_shaped (by simp [PyData.canLay0]) (Nat.le_trans f.dep (by decide)), f⟩
theorem gd_small {n : Int} (h : 0 ≤ n) (h3 : n ≤ 4) : Gd 0 (.int n) := by
  have : n = 0 ∨ n = 1 ∨ n = 2 ∨ n = 3 ∨ n = 4 := by omega
  rcases this with rfl | rfl | rfl | rfl | rfl <;> exact gd_int _ (by decide +kernel) (by decide +kernel)
/-- a property of the class -/
structure Pr (P : Program) (w : World) (K : PySem.W.Frag) (mg : Str → Option Value) (base : Heap) (C : Addr) (n : Str) (sp : Sp) : Prop where
  has : ∃ (p g : Addr) (fd : FuncData), FnOk P w K mg base CX0 1 g fd ["self"] sp ∧ PropOf K C n p g ∧ Binds K fd ["self"] []
/-- what the law compares with -/
structure Rt (C : Addr) (H : Hp) (lx an db : Addr) (ps : List (Str × Int)) (ns : List Str) : Prop where
  sy : Sys H
  hL : LanesAt C H lx ns (ns.map (bdOf ps))
  han : H an = some (.lst ((ps.map (·.1)).map V.str))
  hdb : H db = some (.dK (kvI ps))
  perm : ns.Perm (ps.map (·.1))
  so : sortedS ns = true
  ok : OkRow ps
  l3 : ps.length ≤ 3
  hz : ("zzzzzzzz" : Str) ∉ ps.map (·.1)
theorem Rt.up {C : Addr} {H H' : Hp} {lx an db : Addr} {ps : List (Str × Int)} {ns : List Str} (e : Ext H H') (h : Rt C H lx an db ps ns) : Rt C H' lx an db ps ns :=
  ⟨sysUp h.sy e, h.hL.up e, e _ _ h.han, e _ _ h.hdb, h.perm, h.so, h.ok, h.l3, h.hz⟩
theorem key_mem {ps : List (Str × Int)} (x : Str) : (valV (kvI ps) (.inr x)).isSome = decide (x ∈ ps.map (·.1)) := by
  by_cases h : x ∈ ps.map (·.1)
  · rw [kvI_val h, decide_eq_true h]
    rfl
  · rw [kvI_none h, decide_eq_false h]
    rfl
theorem tail_tx {x c : Str} (h : isNameS x = true) (hc : (tl c).length = 1) (hl : ∀ k ∈ tl c, k < 128) : Tx (x ++ c) := by
  obtain ⟨_, h2, h3⟩ := name_tl h
  have l : (x ++ c).length = (tl x).length + 1 := by
    rw [tlen, tl_app, List.length_append, hc]
  refine ⟨by omega, fun k hk => ?_⟩
  have hk' : k ∈ tl (x ++ c) := hk
  rw [tl_app] at hk'
  rcases List.mem_append.mp hk' with z | z
  · exact abc_low k (h3 k z)
  · exact hl k z
theorem space_no {ns : List Str} (h : ∀ x ∈ ns, isNameS x = true) (x : Str) : (x ++ (" " : Str)) ∉ ns := fun z => by
  obtain ⟨_, _, h3⟩ := name_tl (h _ z)
  have : (32 : Nat) ∈ tl (x ++ (" " : Str)) := by
    rw [tl_app]
    exact List.mem_append_right _ (by decide +kernel)
  exact absurd (h3 _ this) (by decide +kernel)
theorem odd_no {ns : List Str} (h : ∀ x ∈ ns, isNameS x = true) {x : Str} (hx : isNameS x = false) : x ∉ ns := fun z => by rw [h _ z] at hx; cases hx
theorem low_tx {x : Str} (h : x.length ≤ 19) (hl : ∀ k ∈ tl x, k < 128) : Tx x := ⟨by omega, hl⟩
section
variable {P : Program} {w : World} {K : PySem.W.Frag} {mg : Str → Option Value} {base : Heap} {C N : Addr}
def spRight (C : Addr) : Sp := fun vs H Q _ => ∃ (lx an db : Addr) (ps : List (Str × Int)) (ns : List Str), vs = [.ref lx, .ref an, .ref db] ∧ Rt C H lx an db ps ns ∧ ∀ H', Ext H H' → Q (.bl true) H'
abbrev nRight : List Str := ["_law_lanes", "_law_names_here", "_law_bounds", "_law_name", "_law_thing"]
abbrev s_right : Stmt := (topS 26)
theorem sc_right : FnScope nRight ["_law_lanes", "_law_names_here", "_law_bounds"] (defScope s_right) := ⟨rfl, rfl, rfl, by decide +kernel, rfl, by decide +kernel, by decide +kernel⟩
theorem ok_right {f : Addr} {fd : FuncData} (F : Fun K "_law_right" "_law_right" s_right f fd) (T : BT mg) (L : LT K mg C) (IC : IsC K C)
    (CA : Cg P w K mg base 1 "_law_alike" ["_law_found", "_law_due"] spAlike) (CU : Ca P w K mg base 5 "_law_unknown" ["_law_lanes", "_law_name"] (spUnknown C))
    (PN : Pr P w K mg base C "names" (spNamesL C)) (PF : Pr P w K mg base C "first" (spFirst C)) (ML : Cm P w K mg base C 1 "__len__" ["self"] (spLenL C)) (MH : Cm P w K mg base C 2 "__contains__" ["self", "thing"] (spHasA C)) (MB : Cm P w K mg base C 4 "bound" ["self", "lane"] (spBound C)) :
    FnG P w K mg base 6 f fd ["_law_lanes", "_law_names_here", "_law_bounds"] (spRight C) := by
  obtain ⟨pN, gN, fdN, FN, prN, bN⟩ := PN.has
  obtain ⟨pF, gF, fdF, FF, prF, bF⟩ := PF.has
  refine okG F sc_right (fun vs H Q E h => ?_) (fun cdv A outer s H vs Q E hG hr h => ?_)
  · obtain ⟨lx, an, db, ps, ns, rfl, _⟩ := h
    rfl
  · obtain ⟨lx, an, db, ps, ns, rfl, R, q⟩ := h
    refine ⟨_, (pss_cons (ps_if (PW.pt (pw_or (pt_not (pt_val (pe_cg CA hG (hr.mono (by decide)) (by rfl) (pa_cons (pe_prop (pv 0) L.cl prN FN (hr.mono (by decide)) bN .nil pass0 rfl) (pa_cons (pe_callTy call_tuple_of (by rfl) T.n_tuple (by decide +kernel) (pa_cons (pe_callB cr_sortedS (by rfl) T.n_sorted (by decide +kernel) (pa_cons (pv 1) pa_nil)) pa_nil)) pa_nil)))))
          (pw_or1 (pt_not (pt_val (pe_cg CA hG (hr.mono (by decide)) (by rfl) (pa_cons (pe_callB (call_lenO ML (hr.mono (by decide))) (by rfl) T.n_len (by decide +kernel) (pa_cons (pv 0) pa_nil)) (pa_cons (pe_callB call_len_seq (by rfl) T.n_len (by decide +kernel) (pa_cons (pv 1) pa_nil)) pa_nil)))))))) (pss_one (ps_ret pe_bl)) pss_nil)
      (pss_cons (ps_if (pt_not (pt_val (pe_cg CA hG (hr.mono (by decide)) (by rfl) (pa_cons (pe_prop (pv 0) L.cl prF FF (hr.mono (by decide)) bF .nil pass0 rfl) (pa_cons (pe_callTy call_tuple_of (by rfl) T.n_tuple (by decide +kernel) (pa_cons (pe_lc (own := [("_law_name", 3)]) (g := gName 3) (tt := tYes) rfl sc_right.nd (pi_list (pv 1)) (blkOk_by (N := nRight) (sc := defScope s_right) (by decide +kernel)) (fun _ _ _ _ _ => pg_name (i := 3) sc_right.nd rfl (.inl rfl)) (fun _ _ _ _ _ => pts_nil) (fun _ _ _ _ _ => pe_tup (pa_cons pe_int (pa_cons pe_bl pa_nil)))) pa_nil)) pa_nil))))) (pss_one (ps_ret pe_bl)) pss_nil)
      (pss_cons (ps_for PassesOwn.never rfl (pi_list (pe_op op_cat (pv 1) (pe_lst (pa_cons pe_str pa_nil)))) (pg_name (i := 3) sc_right.nd rfl (.inl rfl))
        (pss_one (ps_if (pt_not (pt_val (pe_cg CA hG (hr.mono (by decide)) (by rfl) (pa_cons (pe_cmpR (op_inM MH (hr.mono (by decide))) (pv 3) (pv 0) (by rfl)) (pa_cons (pe_cmp (pc_din (hu_of hr) (pv 3) (pv 2)) rfl) pa_nil))))) (pss_one (ps_ret pe_bl)) pss_nil)))
      (pss_cons (ps_for PassesOwn.never rfl (pi_tup (pe_tup (pa_cons pe_non (pa_cons pe_int (pa_cons pe_bl (pa_cons (pe_lst (pa_cons (pe_ix ix_list (pv 1) pe_int (fun _ _ => rfl)) pa_nil)) (pa_cons (pe_tup (pa_cons (pe_ix ix_list (pv 1) pe_int (fun _ _ => rfl)) pa_nil)) (pa_cons (pe_op op_add_str (pe_ix ix_list (pv 1) pe_int (fun _ _ => rfl)) pe_str) (pa_cons pe_str (pa_cons (pe_disp (pps_cons (pe_ix ix_list (pv 1) pe_int (fun _ _ => rfl)) pe_int pps_nil) (by rfl) (by rfl) (fun z => by cases z) (by decide)) (pa_cons (pv 0) pa_nil))))))))))) (pg_name (i := 4) sc_right.nd rfl (.inl rfl))
        (pss_one (ps_if (pt_not (pt_val (pe_cg CA hG (hr.mono (by decide)) (by rfl) (pa_cons (pe_cmpR (op_inM MH (hr.mono (by decide))) (pv 4) (pv 0) (by rfl)) (pa_cons (pe_and (pe_callB call_isi (by rfl) T.n_isinstance (by decide +kernel) (pa_cons (pv 4) (pa_cons (pe_bltn (v := .ty "str") (by rfl) T.n_str (by decide +kernel) rfl) pa_nil))) (pe_one (pe_cmp (pc_din (hu_of hr) (pv 4) (pv 2)) rfl))) pa_nil))))) (pss_one (ps_ret pe_bl)) pss_nil)))
      (pss_cons (ps_for PassesOwn.never rfl (pi_tup (pe_tup (pa_cons pe_str (pa_cons pe_str (pa_cons pe_str (pa_cons pe_str (pa_cons pe_str (pa_cons (pe_op op_add_str (pe_ix ix_list (pv 1) pe_int (fun _ _ => rfl)) pe_str) pa_nil)))))))) (pg_name (i := 3) sc_right.nd rfl (.inl rfl))
        (pss_one (ps_if (pt_not (pt_val (pe_ca CU (hr.mono (by decide)) (by rfl) (pa_cons (pv 0) (pa_cons (pv 3) pa_nil))))) (pss_one (ps_ret pe_bl)) pss_nil)))
      (pss_one (ps_ret (pe_cmpR (op_eqQ hr) (pe_lc (own := [("_law_name", 3)]) (g := gName 3) rfl sc_right.nd (pi_list (pv 1)) (blkOk_by (N := nRight) (sc := defScope s_right) (by decide +kernel)) (fun _ _ _ _ _ => pg_name (i := 3) sc_right.nd rfl (.inl rfl)) (fun _ _ _ _ _ => pts_one (pt_not (pt_val (pe_cg CA hG (hr.mono (by decide)) (by rfl) (pa_cons (pe_cm MB L.cl (hr.mono (by decide)) (pv 0) (pa_cons (pv 3) pa_nil)) (pa_cons (pe_dget (hu_of hr) (pv 2) (pv 3) (fun _ _ => rfl)) pa_nil)))))) (fun _ _ _ _ _ => pv 3)) (pe_lst pa_nil) (nomark _))))))))), ?_⟩
    have ml : ((ps.map (·.1)).map V.str).length = ps.length := by rw [List.length_map, List.length_map]
    have z24 : sizeLine = 16777216 := rfl
    have l3 := R.l3
    have nl : ns.length = ps.length := by rw [R.perm.length_eq, List.length_map]
    have p0 : 0 < ps.length := List.length_pos_iff.mpr R.ok.ne
    have hns : ∀ x ∈ ns, isNameS x = true := fun x hx => by
      obtain ⟨q, hq, rfl⟩ := List.mem_map.mp (R.perm.mem_iff.mp hx)
      exact R.ok.nm q hq
    have nN : ns ≠ [] := fun z => by
      rw [z] at nl
      exact absurd nl (by show ¬ 0 = _; omega)
    have mem : ∀ x, decide (x ∈ ns) = decide (x ∈ ps.map (·.1)) := fun x => decide_eq_decide.mpr R.perm.mem_iff
    have zn : ("zzzzzzzz" : Str) ∉ ns := fun z => R.hz (R.perm.mem_iff.mp z)
    obtain ⟨dx, n, b, sp, h1, _⟩ := id R.hL
    -- names
    have g1 : Gd 1 (.tuple (ns.map PyData.str)) := gd_tuple (fun d hd => by
      obtain ⟨x, hx, rfl⟩ := List.mem_map.mp hd
      exact name_gd (hns x hx)) (by rw [List.length_map]; omega)
    refine ⟨_, rfl, lx, dx, _, rfl, h1, lx, ns, _, rfl, R.hL, fun r1 hr1 => ⟨_, rfl, an, _, rfl, SqL.of R.han, by rw [List.length_map]; omega, fun ys p1 hperm hso hp1 => ?_⟩⟩
    obtain rfl : ys = ns := sorted_one hso R.so (hperm.trans R.perm.symm)
    have e1 := Ext.new (o := .lst (ys.map V.str)) hp1
    refine ⟨p1, _, rfl, .inl ⟨SqL.of upd_same, fun p2 hp2 => ?_⟩⟩
    have e2 := Ext.new (o := .tup (ys.map V.str)) hp2
    have k2 := upd_same (H := upd H p1 (.lst (ys.map V.str))) (a := p2) (o := HO.tup (ys.map V.str))
    have e12 := e1.trans e2
    generalize upd (upd H p1 (.lst (ys.map V.str))) p2 (.tup (ys.map V.str)) = H2 at *
    refine ⟨r1, .ref p2, .tuple (ys.map PyData.str), rfl, sysUp R.sy e12, hr1.up e12, .tup k2 (dq_strs ys), sh_strs hns, g1.fits (by decide), fun H3 e3 => ⟨_, rfl, ?_⟩⟩
    refine iteF ?_
    have R3 := R.up (e12.trans e3)
    have io := int_ok (gd_small (n := (ys.length : Int)) (by omega) (by omega))
    refine ⟨_, rfl, lx, dx, _, rfl, (e12.trans e3) _ _ h1, lx, ys, _, rfl, R3.hL, _, rfl, by omega, by omega, _, rfl, an, _, rfl, .inl (SqL.of R3.han), ?_⟩
    rw [ml, ← nl]
    refine ⟨_, _, .int (ys.length : Int), rfl, R3.sy, .int _, .int _, io.1, io.2, fun H4 e4 => ⟨_, rfl, ?_⟩⟩
    refine iteF ?_
    have e04 := (e12.trans e3).trans e4
    have R4 := R.up e04
    clear e1 e2 k2 e12 e3 R3 e4 hr1 hp1
    -- the first content
    refine ⟨_, rfl, lx, dx, _, rfl, e04 _ _ h1, lx, ys, _, rfl, R4.hL, nN, fun r5 H5 e5 hr5 => ⟨_, rfl, an, rfl, ⟨_, SqL.of ((e04.trans e5) _ _ R.han)⟩, fun D hD => ?_⟩⟩
    refine lc1_acc (walk_list (xs := (ps.map (·.1)).map V.str)) (fun i zs Hd => DqAll Hd zs (List.replicate i (stD 0 false)) ∧ i ≤ 60) (fun _ _ _ _ e h => ⟨DqAll.up e h.1, h.2⟩) ⟨.nil, by omega⟩ hD
      (fun i zs _ h => by rw [h.1.len, List.length_replicate]; exact Nat.lt_of_le_of_lt h.2 (by decide)) (fun H' e => SqL.of (((e04.trans e5).trans e) _ _ R.han)) ?_ ?_
    · rintro i x Hi H' zs hi e hy ⟨rfl, hx⟩ ⟨hp, _⟩ QY QN kY kN
      rw [ml] at hi
      refine ⟨rfl, ?_⟩
      refine tyes ?_
      refine ⟨by show 2 ≤ sizeLine; decide, fun t ht => ?_⟩
      have et := Ext.new (o := .tup [.int 0, .bl false]) ht
      refine kY _ _ et ⟨?_, by omega⟩
      have nD : t ≠ D := fun z => by rw [z, hy] at ht; cases ht
      rw [List.replicate_succ']
      exact dq_app (DqAll.up (ext_del et) hp) (.cons (.tup (by rw [del_ne nD]; exact upd_same) (.cons (.int _) (.cons (.bl _) .nil))) .nil)
    rintro H6 zs e6 hD6 ⟨hp, _⟩
    rw [ml, ← nl] at hp
    refine ⟨D, _, rfl, .inl ⟨SqL.of hD6, fun p7 hp7 => ?_⟩⟩
    have e7 := Ext.new (o := .tup zs) hp7
    have k7 := upd_same (H := H6) (a := p7) (o := HO.tup zs)
    generalize upd H6 p7 (.tup zs) = H7 at *
    have e57 := (e5.trans e6).trans e7
    have R7 := R4.up e57
    have ef : ctL (firstL ys) = List.replicate ys.length (stD 0 false) := by
      unfold ctL firstL
      rw [List.map_map]
      exact List.map_const' ..
    have gf := gd_ct (firstL ys) (by unfold firstL; rw [List.length_map]; omega) (fun s hs => by
      obtain ⟨_, _, rfl⟩ := List.mem_map.mp hs
      exact Nat.zero_le _)
    refine ⟨r5, .ref p7, ctD (firstL ys), rfl, R7.sy, hr5.up (e6.trans e7), .tup k7 (by rw [ef]; exact DqAll.up e7 hp), lay_shaped (lay_ct _) (Nat.le_trans gf.dep (by decide)), gf.fits (by decide), fun H8 e8 => ⟨_, rfl, ?_⟩⟩
    refine iteF ?_
    have e08 := (e04.trans e57).trans e8
    have R8 := R.up e08
    clear e5 e6 e7 k7 e57 R7 e8 hr5 hD6 hp hD R4 e04 hp7
    -- names in lanes
    refine ⟨_, rfl, by show 1 ≤ sizeLine; decide, fun l2 hl2 => ?_⟩
    have e9 := Ext.new (o := .lst [.str "zzzzzzzz"]) hl2
    refine ⟨an, l2, _, _, rfl, rfl, e9 _ _ R8.han, upd_same, by rw [ml, List.length_singleton]; omega, fun p3 hp3 => ⟨p3, rfl, ⟨_, SqL.of upd_same⟩, ?_⟩⟩
    have e10 := Ext.new (o := .lst ((ps.map (·.1)).map V.str ++ [.str "zzzzzzzz"])) hp3
    have k10 := upd_same (H := upd H8 l2 (.lst [.str "zzzzzzzz"])) (a := p3) (o := HO.lst ((ps.map (·.1)).map V.str ++ [.str "zzzzzzzz"]))
    generalize upd (upd H8 l2 (.lst [.str "zzzzzzzz"])) p3 (.lst ((ps.map (·.1)).map V.str ++ [.str "zzzzzzzz"])) = Hk at *
    have e0k := e08.trans (e9.trans e10)
    have Rk := R.up e0k
    refine for_list (xs := (ps.map (·.1)).map V.str ++ [.str "zzzzzzzz"]) (fun i σ H' => ∃ v3, σ = [some (.ref lx), some (.ref an), some (.ref db), v3, none] ∧ Ext Hk H')
      ⟨none, rfl, .refl _⟩ (fun i σ H' _ ⟨_, _, e⟩ => SqL.of (e _ _ k10)) ?_ ?_
    · rintro i x σ H' hx ⟨v3, rfl, e⟩
      obtain ⟨s, hs, rfl⟩ : ∃ s, isNameS s = true ∧ x = .str s := by
        rcases List.mem_append.mp (List.mem_of_getElem? hx) with h | h
        · obtain ⟨s, hs, rfl⟩ := List.mem_map.mp h
          exact ⟨s, hns s (R.perm.mem_iff.mpr hs), rfl⟩
        · exact ⟨_, z_name, List.mem_singleton.mp h⟩
      have R' := Rk.up e
      refine ⟨_, rfl, _, rfl, lx, dx, _, rfl, (e0k.trans e) _ _ h1, .inl ⟨lx, ys, _, _, .str s, rfl, R'.hL, .str s, (fun y hy => by cases hy; exact name_tx hs), fun H2 e2 => ⟨_, rfl, ?_⟩⟩⟩
      have R2 := R'.up e2
      refine ⟨_, rfl, _, rfl, db, _, rfl, DGet.k (k := Sum.inr s) R2.hdb, ?_⟩
      rw [key_mem, ← mem]
      have bo := bl_ok (decide (s ∈ ys))
      refine ⟨_, _, .bool (decide (s ∈ ys)), rfl, R2.sy, .bl _, .bl _, bo.1, bo.2, fun H3 e3 => ⟨_, rfl, ?_⟩⟩
      refine iteF ?_
      exact ⟨_, rfl, (e.trans e2).trans e3⟩
    rintro σ H9 ⟨v3, rfl, e11⟩
    have e0a := e0k.trans e11
    have Ra := R.up e0a
    clear e9 e10 k10 e0k Rk e11 e08 R8 hp3 hl2
    -- any value in lanes
    obtain ⟨x0, hx0, hn0⟩ : ∃ x0, ((ps.map (·.1)).map V.str)[0]? = some (.str x0) ∧ isNameS x0 = true := ⟨ps[0].1, by rw [List.getElem?_map, List.getElem?_map, List.getElem?_eq_getElem p0]; rfl, R.ok.nm _ (List.getElem_mem p0)⟩
    have at0 : atI ((ps.map (·.1)).map V.str) 0 = some (.str x0) := atI_nat (j := 0) hx0
    have tz := tail_tx hn0 (c := "z") (by decide +kernel) (by decide +kernel)
    have ts := tail_tx hn0 (c := " ") (by decide +kernel) (by decide +kernel)
    have xl : x0.length ≤ 8 := by
      obtain ⟨_, h2, _⟩ := name_tl hn0
      rw [tlen]
      exact h2
    refine ⟨_, rfl, an, _, _, _, rfl, rfl, SqL.of Ra.han, at0, by show 1 ≤ sizeLine; decide, fun l1 hl1 => ?_⟩
    have e12 := Ext.new (o := .lst [.str x0]) hl1
    have k12 := upd_same (H := H9) (a := l1) (o := HO.lst [V.str x0])
    generalize upd H9 l1 (.lst [.str x0]) = Hb at *
    refine ⟨_, rfl, an, _, _, _, rfl, rfl, SqL.of ((e0a.trans e12) _ _ R.han), at0, by show 1 ≤ sizeLine; decide, fun t1 ht1 => ?_⟩
    have e13 := Ext.new (o := .tup [.str x0]) ht1
    have k13 := upd_same (H := Hb) (a := t1) (o := HO.tup [V.str x0])
    generalize upd Hb t1 (.tup [.str x0]) = Hc at *
    have e0c := (e0a.trans e12).trans e13
    refine ⟨_, rfl, an, _, _, _, rfl, rfl, SqL.of (e0c _ _ R.han), at0, _, _, rfl, rfl, by show _ + 1 ≤ 2 ^ 24; omega, ?_⟩
    intro pd hpd
    have e14 := Ext.new (o := .dK []) hpd
    refine ⟨_, rfl, an, _, _, _, rfl, rfl, SqL.of ((e0c.trans e14) _ _ R.han), at0, upd_same, [(.inr x0, .int 1)], rfl, (by show 1 ≤ 15; decide), ?_⟩
    have e15 : Ext Hc (upd (upd Hc pd (.dK [])) pd (.dK (mergeK [] [(.inr x0, .int 1)]))) := Ext.mut e14 hpd
    have k15 : (upd (upd Hc pd (.dK [])) pd (.dK (mergeK [] [(.inr x0, .int 1)]))) pd = some (.dK [(.inr x0, .int 1)]) := upd_same
    generalize upd (upd Hc pd (.dK [])) pd (.dK (mergeK [] [(.inr x0, .int 1)])) = Hd at *
    refine ⟨_, rfl, by show 9 ≤ sizeLine; decide, fun t9 ht9 => ⟨t9, rfl, ⟨_, SqT.of upd_same⟩, ?_⟩⟩
    have e16 := Ext.new (o := .tup [.non, .int 0, .bl true, .ref l1, .ref t1, .str (x0 ++ "z"), .str "", .ref pd, .ref lx]) ht9
    have k16 := upd_same (H := Hd) (a := t9) (o := HO.tup [V.non, .int 0, .bl true, .ref l1, .ref t1, .str (x0 ++ "z"), .str "", .ref pd, .ref lx])
    generalize upd Hd t9 (.tup [.non, .int 0, .bl true, .ref l1, .ref t1, .str (x0 ++ "z"), .str "", .ref pd, .ref lx]) = He at *
    have e0e := (e0c.trans e15).trans e16
    have Re := R.up e0e
    have th : ∀ v ∈ ([.non, .int 0, .bl true, .ref l1, .ref t1, .str (x0 ++ "z"), .str "", .ref pd, .ref lx] : List V), (∃ d, Dq He v d ∧ Ok1 d) ∨ v = .ref lx := by
      intro v hv
      simp only [List.mem_cons, List.not_mem_nil, or_false] at hv
      rcases hv with rfl | rfl | rfl | rfl | rfl | rfl | rfl | rfl | rfl
      · exact .inl ⟨_, .non, nope1 rfl⟩
      · exact .inl ⟨_, .int _, nope1 rfl⟩
      · exact .inl ⟨_, .bl _, nope1 rfl⟩
      · exact .inl ⟨_, .lst ((e13.trans (e15.trans e16)) _ _ k12) (.cons (.str _) .nil), nope1 rfl⟩
      · exact .inl ⟨_, .tup ((e15.trans e16) _ _ k13) (.cons (.str _) .nil), nope1 rfl⟩
      · exact .inl ⟨_, .str _, fun y hy => by cases hy; exact tz⟩
      · exact .inl ⟨_, .str _, fun y hy => by cases hy; exact low_tx (by decide +kernel) (by decide +kernel)⟩
      · exact .inl ⟨_, .dct (ds := [.int 1]) (e16 _ _ k15) (.cons (.int _) .nil), nope1 rfl⟩
      · exact .inr rfl
    clear e12 k12 e13 k13 e0c e14 e15 k15 e16 e0a Ra hl1 ht1 hpd ht9
    refine for_tup (fun i σ H' => ∃ v3 v4, σ = [some (.ref lx), some (.ref an), some (.ref db), v3, v4] ∧ Ext He H')
      ⟨_, none, rfl, .refl _⟩ (fun i σ H' _ ⟨_, _, _, e⟩ => SqT.of (e _ _ k16)) ?_ ?_
    · rintro i v σ H' hx ⟨v3, v4, rfl, e⟩
      have R' := Re.up e
      have h1' := (e0e.trans e) _ _ h1
      rcases th v (List.mem_of_getElem? hx) with ⟨d, hd, hok⟩ | rfl
      · have hd' := hd.up e
        refine ⟨_, rfl, _, rfl, lx, dx, _, rfl, h1', .inl ⟨lx, ys, _, v, d, rfl, R'.hL, hd', hok, fun H2 e2 => ⟨_, rfl, ?_⟩⟩⟩
        have R2 := R'.up e2
        have bo := bl_ok (inD ys d)
        refine ⟨_, rfl, _, _, _, _, _, rfl, .ty "str", ty_of (hd'.up e2), ki_str d, _, rfl, ?_⟩
        refine ite2 (fun g => ?_) (fun g => ?_)
        · obtain ⟨s, rfl, rfl⟩ := dq_str hd g
          refine ⟨_, rfl, _, rfl, db, _, rfl, DGet.k (k := Sum.inr s) R2.hdb, ?_⟩
          rw [key_mem, ← mem]
          refine ⟨_, _, .bool (inD ys (.str s)), rfl, R2.sy, .bl _, .bl _, bo.1, bo.2, fun H3 e3 => ⟨_, rfl, ?_⟩⟩
          refine iteF ?_
          exact ⟨_, _, rfl, (e.trans e2).trans e3⟩
        · have z : inD ys d = false := by
            cases d with
            | str x => exact absurd rfl g
            | _ => rfl
          have gk : kS d = false := by
            cases hk : kS d with
            | true => exact absurd hk g
            | false => rfl
          first
            | rw [gk]
            | skip
          rw [z] at bo ⊢
          refine ⟨_, _, .bool false, rfl, R2.sy, .bl _, .bl _, bo.1, bo.2, fun H3 e3 => ⟨_, rfl, ?_⟩⟩
          refine iteF ?_
          exact ⟨_, _, rfl, (e.trans e2).trans e3⟩
      · have bo := bl_ok false
        refine ⟨_, rfl, _, rfl, lx, dx, _, rfl, h1', .inr ⟨lx, ys, _, lx, dx, _, rfl, R'.hL, h1', _, rfl, ?_⟩⟩
        refine ⟨_, rfl, _, _, _, _, _, rfl, .ty "str", IC.ty L.cl h1', IC.kS, _, rfl, ?_⟩
        refine iteF ?_
        refine ⟨_, _, .bool false, rfl, R'.sy, .bl _, .bl _, bo.1, bo.2, fun H3 e3 => ⟨_, rfl, ?_⟩⟩
        refine iteF ?_
        exact ⟨_, _, rfl, e.trans e3⟩
    rintro σ Hf ⟨v3, v4, rfl, e17⟩
    have e0f := e0e.trans e17
    have Rf := R.up e0f
    clear th k16 e0e Re e17
    -- names that there are not
    refine ⟨_, rfl, an, _, _, _, rfl, rfl, SqL.of Rf.han, at0, _, _, rfl, rfl, by show _ + 1 ≤ 2 ^ 24; omega, by show 6 ≤ sizeLine; decide, fun t6 ht6 => ⟨t6, rfl, ⟨_, SqT.of upd_same⟩, ?_⟩⟩
    have e18 := Ext.new (o := .tup [.str "zzzzzzzz", .str "", .str "A", .str "abcdefghi", .str "a b", .str (x0 ++ " ")]) ht6
    have k18 := upd_same (H := Hf) (a := t6) (o := HO.tup [V.str "zzzzzzzz", .str "", .str "A", .str "abcdefghi", .str "a b", .str (x0 ++ " ")])
    generalize upd Hf t6 (.tup [.str "zzzzzzzz", .str "", .str "A", .str "abcdefghi", .str "a b", .str (x0 ++ " ")]) = Hg at *
    have e0g := e0f.trans e18
    have Rg := R.up e0g
    have th : ∀ v ∈ ([.str "zzzzzzzz", .str "", .str "A", .str "abcdefghi", .str "a b", .str (x0 ++ " ")] : List V), ∃ s, v = .str s ∧ Tx s ∧ s ∉ ys := by
      intro v hv
      simp only [List.mem_cons, List.not_mem_nil, or_false] at hv
      rcases hv with rfl | rfl | rfl | rfl | rfl | rfl
      · exact ⟨_, rfl, name_tx z_name, zn⟩
      · exact ⟨_, rfl, low_tx (by decide +kernel) (by decide +kernel), odd_no hns (by decide +kernel)⟩
      · exact ⟨_, rfl, low_tx (by decide +kernel) (by decide +kernel), odd_no hns (by decide +kernel)⟩
      · exact ⟨_, rfl, low_tx (by decide +kernel) (by decide +kernel), odd_no hns (by decide +kernel)⟩
      · exact ⟨_, rfl, low_tx (by decide +kernel) (by decide +kernel), odd_no hns (by decide +kernel)⟩
      · exact ⟨_, rfl, ts, space_no hns x0⟩
    refine for_tup (fun i σ H' => ∃ v3, σ = [some (.ref lx), some (.ref an), some (.ref db), v3, v4] ∧ Ext Hg H')
      ⟨_, rfl, .refl _⟩ (fun i σ H' _ ⟨_, _, e⟩ => SqT.of (e _ _ k18)) ?_ ?_
    · rintro i v σ H' hx ⟨v3, rfl, e⟩
      obtain ⟨s, rfl, hs1, hs2⟩ := th v (List.mem_of_getElem? hx)
      have R' := Rg.up e
      refine ⟨_, rfl, _, rfl, lx, ys, _, s, rfl, R'.hL, hs1, hs2, fun H2 e2 => ⟨_, rfl, ?_⟩⟩
      refine iteF ?_
      exact ⟨_, rfl, e.trans e2⟩
    rintro σ Hh ⟨v3, rfl, e19⟩
    have e0h := e0g.trans e19
    have Rh := R.up e0h
    clear th k18 e18 e0g Rg e19 e0f Rf ht6
    -- the bounds
    refine ⟨_, rfl, an, rfl, ⟨_, SqL.of Rh.han⟩, fun D hD => ?_⟩
    refine lc1_acc (walk_list (xs := (ps.map (·.1)).map V.str)) (fun i zs Hd => zs = []) (fun _ _ _ _ e h => h) rfl hD
      (fun i zs _ h => by rw [h]; decide) (fun H' e => SqL.of ((e0h.trans e) _ _ R.han)) ?_ ?_
    · rintro i x Hi H' zs hi e hy ⟨rfl, hx⟩ hp QY QN kY kN
      rw [ml] at hi
      rw [List.getElem?_map, List.getElem?_map, List.getElem?_eq_getElem hi] at hx
      cases hx
      have mi : ps[i].1 ∈ ps.map (·.1) := List.mem_map.mpr ⟨_, List.getElem_mem hi, rfl⟩
      obtain ⟨j, hj, ej⟩ := List.getElem_of_mem (R.perm.mem_iff.mpr mi)
      have R' := Rh.up e
      have h1' := (e0h.trans e) _ _ h1
      have bb := R.ok.bd _ (List.getElem_mem hi)
      have io := int_ok (gd_small (n := ps[i].2) (by omega) (by omega))
      refine ⟨rfl, _, rfl, lx, dx, _, rfl, h1', lf_no _ _ _ (by decide +kernel) (by decide +kernel) (by decide +kernel), _, rfl, lx, ys, _, j, hj, ps[i].2, (by rw [ej]; rfl), R'.hL, ?_, fun H2 e2 => ?_⟩
      · rw [List.getElem?_map, List.getElem?_eq_getElem hj, ej]
        show some (bdOf ps ps[i].1) = _
        rw [bd_at R.ok.nd hi]
      have R2 := R'.up e2
      have g := dget_kv R2.hdb mi
      rw [bd_at R.ok.nd hi] at g
      refine ⟨_, rfl, _, rfl, db, _, rfl, g, ?_⟩
      refine ⟨_, _, .int ps[i].2, rfl, R2.sy, .int _, .int _, io.1, io.2, fun H3 e3 => ⟨_, rfl, ?_⟩⟩
      refine iteF ?_
      exact kN _ (e2.trans e3) hp
    rintro Hj zs e20 hDj rfl
    have Rj := Rh.up e20
    have sh : SeqAt.shaped (.list []) = true := by decide +kernel
    refine ⟨by show 0 ≤ sizeLine; decide, fun l hl => ?_⟩
    have e21 := Ext.new (o := .lst []) hl
    refine ⟨.list [], .list [], (sysUp Rj.sy e21), .lst (e21 _ _ hDj) .nil, .lst upd_same .nil, sh, sh, ?_⟩
    rw [SeqAt.eqv_refl _ (SeqAt.canLay_of_shaped sh)]
    exact q _ ((e0h.trans e20).trans e21)
end
end K12

set_option Elab.async false
set_option linter.all false
set_option maxRecDepth 100000
set_option maxHeartbeats 4000000
namespace K12
open PySem PySem.Spec PyProof.Rows L2 Ol RZ
open TL (tl)
theorem lst_inv {H : Hp} {v : V} {ds : List PyData} (h : Dq H v (.list ds)) : ∃ a xs, v = .ref a ∧ H a = some (.lst xs) ∧ DqAll H xs ds := by
  cases h with
  | lst h t => exact ⟨_, _, rfl, h, t⟩
/-- Lanes stand without the dict that they were made of -/
theorem lanes_del {C : Addr} {H : Hp} {p dh : Addr} {ns : List Str} {bs : List Int} {qs : List (Str × Int)} (h : LanesAt C H p ns bs) (hd : H dh = some (.dK (kvI qs))) (hb : ∀ q ∈ qs, 1 ≤ q.2) (hne : ns ≠ []) : LanesAt C (del H dh) p ns bs := by
  obtain ⟨dx, n, b, s, h1, h2, h3, h4, hl, hnd, r⟩ := h
  have n1 : p ≠ dh := fun z => by rw [z, hd] at h1; cases h1
  have n2 : n ≠ dh := fun z => by rw [z, hd] at h2; cases h2
  have n3 : b ≠ dh := fun z => by rw [z, hd] at h3; cases h3
  have n4 : s ≠ dh := fun z => by
    rw [z, hd] at h4
    have e : kvI qs = spots ns := by injection h4 with h4; injection h4
    have h0 : 0 < ns.length := List.length_pos_iff.mpr hne
    have g := spots_val hnd h0
    rw [← e] at g
    by_cases c : ns[0] ∈ qs.map (·.1)
    · rw [kvI_val c] at g
      obtain ⟨q, hq, _, e2⟩ := bd_mem c
      have := hb q hq
      injection g with g
      injection g with g
      omega
    · rw [kvI_none c] at g
      cases g
  exact ⟨dx, n, b, s, by rw [del_ne n1]; exact h1, by rw [del_ne n2]; exact h2, by rw [del_ne n3]; exact h3, by rw [del_ne n4]; exact h4, hl, hnd, r⟩
theorem lanes_delL {C : Addr} {H : Hp} {p dh : Addr} {ns : List Str} {bs : List Int} {xs : List V} (h : LanesAt C H p ns bs) (hd : H dh = some (.lst xs)) : LanesAt C (del H dh) p ns bs := by
  obtain ⟨dx, n, b, s, h1, h2, h3, h4, r⟩ := h
  have n1 : p ≠ dh := fun z => by rw [z, hd] at h1; cases h1
  have n2 : n ≠ dh := fun z => by rw [z, hd] at h2; cases h2
  have n3 : b ≠ dh := fun z => by rw [z, hd] at h3; cases h3
  have n4 : s ≠ dh := fun z => by rw [z, hd] at h4; cases h4
  exact ⟨dx, n, b, s, by rw [del_ne n1]; exact h1, by rw [del_ne n2]; exact h2, by rw [del_ne n3]; exact h3, by rw [del_ne n4]; exact h4, r⟩
theorem del_put {H : Hp} {d : Addr} {o : HO} : Ext (del H d) (upd H d o) := fun b u z => by
  have nb : b ≠ d := fun y => by rw [y] at z; exact absurd z (by rw [del_same]; exact fun w => nomatch w)
  rw [del_ne nb] at z
  rw [upd_ne nb]
  exact z
theorem bd_at' {ps : List (Str × Int)} (hd : (ps.map (·.1)).Nodup) {q : Str × Int} (h : q ∈ ps) : bdOf ps q.1 = q.2 := by
  obtain ⟨i, hi, rfl⟩ := List.getElem_of_mem h
  exact bd_at hd hi
theorem bd_perm {ps qs : List (Str × Int)} (hd : (ps.map (·.1)).Nodup) (h : qs.Perm ps) {x : Str} (hx : x ∈ ps.map (·.1)) : bdOf qs x = bdOf ps x := by
  obtain ⟨q, hq, e1, e2⟩ := bd_mem (ps := qs) (x := x) ((h.map _).mem_iff.mpr hx)
  rw [← e2, ← e1]
  exact (bd_at' hd (h.mem_iff.mp hq)).symm
theorem recon {ps : List (Str × Int)} {ns : List Str} (hd : (ps.map (·.1)).Nodup) (h : ns.Perm (ps.map (·.1))) : (ns.map fun x => (x, bdOf ps x)).Perm ps := by
  refine (h.map _).trans ?_
  rw [List.map_map]
  have e : ps.map ((fun x => (x, bdOf ps x)) ∘ (·.1)) = ps.map id := List.map_congr_left fun q hq => by
    show (q.1, bdOf ps q.1) = q
    rw [bd_at' hd hq]
  rw [e, List.map_id]
theorem pairs_one {a b : List (Str × Int)} (h1 : a.Pairwise (fun x y => lexT y x = false)) (h2 : b.Pairwise (fun x y => lexT y x = false)) (hp : a.Perm b) : a = b :=
  List.Perm.eq_of_pairwise (fun x y _ _ q1 q2 => lexT_anti q2 q1) h1 h2 hp
theorem map_snd {ns : List Str} {f g : Str → Int} (h : ns.map f = ns.map g) : (ns.map fun x => (x, f x)) = ns.map fun x => (x, g x) := by
  have e : ∀ x ∈ ns, f x = g x := List.map_inj_left.mp h
  exact List.map_congr_left fun x hx => by rw [e x hx]
theorem same_iff {ps row qs so sp : List (Str × Int)} {ns ns3 : List Str} (hd : (ps.map (·.1)).Nodup) (hd3 : (row.map (·.1)).Nodup) (h : ns.Perm (ps.map (·.1))) (h3 : ns3.Perm (qs.map (·.1))) (hq : qs.Perm row)
    (s : sortedS ns = true) (s3 : sortedS ns3 = true) (p1 : so.Perm row) (p2 : sp.Perm ps) (w1 : so.Pairwise (fun x y => lexT y x = false)) (w2 : sp.Pairwise (fun x y => lexT y x = false)) :
    (decide (ns = ns3) && decide (ns.map (bdOf ps) = ns3.map (bdOf qs))) = decide (so = sp) := by
  have hdq : (qs.map (·.1)).Nodup := (hq.map _).nodup_iff.mpr hd3
  by_cases e : so = sp
  · have pr : qs.Perm ps := hq.trans (p1.symm.trans (e ▸ p2))
    have en : ns = ns3 := sorted_one s s3 (h.trans ((pr.map _).symm.trans h3.symm))
    subst en
    have eb : ns.map (bdOf ps) = ns.map (bdOf qs) := List.map_congr_left fun x hx => (bd_perm hd pr (h.mem_iff.mp hx)).symm
    rw [decide_eq_true e, decide_eq_true rfl, decide_eq_true eb]
    rfl
  · rw [decide_eq_false e]
    by_cases en : ns = ns3
    · subst en
      by_cases eb : ns.map (bdOf ps) = ns.map (bdOf qs)
      · refine absurd (pairs_one w1 w2 ?_) e
        have r1 := recon hd h
        have r2 := recon hdq h3
        rw [map_snd eb] at r1
        exact p1.trans (hq.symm.trans (r2.symm.trans (r1.trans p2.symm)))
      · rw [decide_eq_false eb, Bool.and_false]
    · rw [decide_eq_false en, Bool.false_and]
/-- the pair that stands there -/
def kOf (H : Hp) : V → Str × Int
  | .ref t => match H t with
    | some (.tup [.str x, .int i]) => (x, i)
    | _ => (Str.empty, 0)
  | _ => (Str.empty, 0)
theorem kOf_of {H : Hp} {v : V} {p : Str × Int} (h : Dq H v (pD p)) : kOf H v = p ∧ ∃ t, v = .ref t ∧ H t = some (.tup [.str p.1, .int p.2]) := by
  obtain ⟨t, rfl, ht⟩ := pd_inv h
  refine ⟨?_, t, rfl, ht⟩
  unfold kOf
  dsimp only
  rw [ht]
theorem kOf_all {H : Hp} : ∀ {xs : List V} {ps : List (Str × Int)}, DqAll H xs (ps.map pD) → xs.map (kOf H) = ps ∧ ∀ x ∈ xs, ∃ t, x = .ref t ∧ H t = some (.tup [.str (kOf H x).1, .int (kOf H x).2])
  | [], [], _ => ⟨rfl, fun x hx => by cases hx⟩
  | [], _ :: _, h => by cases h
  | _ :: _, [], h => by cases h
  | x :: xs, p :: ps, h => by
    cases h with
    | cons a t =>
      obtain ⟨e1, r1⟩ := kOf_all t
      obtain ⟨e2, r2⟩ := kOf_of a
      refine ⟨by rw [List.map_cons, e1, e2], fun y hy => ?_⟩
      rcases List.mem_cons.mp hy with rfl | hy
      · rw [e2]
        exact r2
      · exact r1 y hy
theorem kOf_dq {H : Hp} : ∀ {ys : List V}, (∀ x ∈ ys, ∃ t, x = V.ref t ∧ H t = some (.tup [.str (kOf H x).1, .int (kOf H x).2])) → DqAll H ys ((ys.map (kOf H)).map pD)
  | [], _ => .nil
  | y :: ys, h => by
    obtain ⟨t, e, ht⟩ := h y List.mem_cons_self
    refine .cons ?_ (kOf_dq fun x hx => h x (List.mem_cons_of_mem _ hx))
    generalize kOf H y = k at ht
    rw [e]
    exact .tup ht (.cons (.str _) (.cons (.int _) .nil))
theorem eqv_prs : ∀ a b : List (Str × Int), PyData.eqvAll (a.map pD) (b.map pD) = decide (a = b)
  | [], [] => rfl
  | [], _ :: _ => rfl
  | _ :: _, [] => rfl
  | x :: a, y :: b => by
    have e : PyData.eqv (pD x) (pD y) = decide (x = y) := by
      unfold pD
      rw [PyData.eqv, PyData.eqvAll, PyData.eqvAll, PyData.eqvAll, PyData.eqv, PyData.eqv, Bool.and_true]
      obtain ⟨x1, x2⟩ := x
      obtain ⟨y1, y2⟩ := y
      by_cases h : x1 = y1 <;> by_cases h2 : x2 = y2 <;> simp [h, h2]
    rw [List.map_cons, List.map_cons, PyData.eqvAll, eqv_prs a b, e]
    by_cases h : x = y <;> by_cases h2 : a = b <;> simp [h, h2]
theorem sh_prs {ps : List (Str × Int)} (h : ∀ q ∈ ps, isNameS q.1 = true) : SeqAt.shaped (.list (ps.map pD)) = true := by
  have d : ∀ ps : List (Str × Int), PyData.depthAll (ps.map pD) ≤ 2 := fun ps => by
    induction ps with
    | nil => simp [PyData.depthAll]
    | cons p ps ih => simp only [List.map_cons, PyData.depthAll, pD, PyData.depth]; omega
  have l : ∀ ps : List (Str × Int), (∀ q ∈ ps, isNameS q.1 = true) → PyData.canLayAll0 (ps.map pD) = true := fun ps h => by
    induction ps with
    | nil => simp [PyData.canLayAll0]
    | cons p ps ih =>
      have n := name_ok (h p List.mem_cons_self)
      simp [PyData.canLayAll0, pD, PyData.canLay0, n, ih fun q hq => h q (List.mem_cons_of_mem _ hq)]
  refine lay_shaped (by rw [PyData.canLay0]; exact l ps h) ?_
  have := d ps
  rw [PyData.depth]
  omega
theorem twob_ok (r : Bool) : SeqAt.shaped (.list [.bool r, .bool (!r)]) = true ∧ Fits (.list [.bool r, .bool (!r)]) := by
  have f := fits_list (n := 0) (ds := [.bool r, .bool (!r)]) (fun d hd => by
    simp only [List.mem_cons, List.not_mem_nil, or_false] at hd
    rcases hd with rfl | rfl <;> exact gd_bl _) (by decide) (by simp)
  refine ⟨lay_shaped (by simp [PyData.canLay0, PyData.canLayAll0]) (Nat.le_trans f.dep (by decide)), f⟩
end K12

set_option Elab.async false
set_option linter.all false
set_option maxRecDepth 100000
set_option maxHeartbeats 4000000
namespace K12
open PySem PySem.Spec PyProof.Rows L2 Ol RZ
open TL (tl)
section
variable {P : Program} {w : World} {K : PySem.W.Frag} {mg : Str → Option Value} {base : Heap} {C N : Addr}
abbrev nLaw : List Str := ["_law_script", "_law_bag_here", "_law_turn", "_law_drawn", "_law_names_here", "_law_bounds", "_law_name", "_law_pairs", "_law_handed", "_law_lanes", "_law_twin", "_law_again", "_law_other", "_law_unlike", "_law_same", "_law_told", "_law_even", "_law_level", "_law_all_even", "_law_row"]
abbrev s_law : Stmt := (topS 27)
theorem sc_law : FnScope nLaw ["_law_script"] (defScope s_law) := ⟨rfl, rfl, rfl, by decide +kernel, rfl, by decide +kernel, by decide +kernel⟩
def spLaw (K : PySem.W.Frag) : Sp := fun vs H Q _ => ∃ (a : Addr) (ns : List Int), vs = [.ref a] ∧ Sys H ∧ SqL K H a (ns.map V.int) ∧ ns.length ≤ 63 ∧ ∀ H', Q (.bl true) H'
/-- Lanes.level, read off the class -/
structure LvM (P : Program) (w : World) (K : PySem.W.Frag) (mg : Str → Option Value) (base : Heap) (C : Addr) : Prop where
  has : ∃ (f p : Addr) (mc : Value) (fd : FuncData), FnOk P w K mg base CX0 6 f fd ["cls", "names", "bound"] (spLevel C) ∧ ClX.CRead K C mc ∧ ClX.CMet K C mc "level" p f ∧ Binds K fd ["cls", "names", "bound"] []
theorem ok_law {f : Addr} {fd : FuncData} (F : Fun K "law" "law" s_law f fd) (T : BT mg) (L : LT K mg C) (IC : IsC K C) (NC : NeC K C)
    (CB : Ca P w K mg base 1 "_law_bag" ["_law_script"] (spBag K)) (CT : Ca P w K mg base 1 "_law_take" ["_law_bag_here", "_law_many"] spTake) (CN : Ca P w K mg base 2 "_law_names" ["_law_bag_here", "_law_many"] spNames)
    (CDi : Ca P w K mg base 3 "_law_dict" ["_law_bag_here", "_law_pairs"] spDict) (COt : Ca P w K mg base 2 "_law_others" ["_law_bag_here", "_law_names_here", "_law_bounds"] spOthers) (CSm : Ca P w K mg base 1 "_law_small" ["_law_pairs"] spSmall)
    (CR : Cg P w K mg base 6 "_law_right" ["_law_lanes", "_law_names_here", "_law_bounds"] (spRight C)) (CA : Cg P w K mg base 1 "_law_alike" ["_law_found", "_law_due"] spAlike)
    (ML : MkL P w K mg base C) (LV : LvM P w K mg base C) (ME : Cm P w K mg base C 1 "__eq__" ["self", "other"] (spEqL K C)) :
    FnG P w K mg base 8 f fd ["_law_script"] (spLaw K) := by
  obtain ⟨fI, fdI, FI, mk, bI⟩ := ML.has
  obtain ⟨fV, pV, mcV, fdV, FV, rV, cV, bV⟩ := LV.has
  refine okG F sc_law (fun vs H Q E h => ?_) (fun cdv A outer s H vs Q E hG hr h => ?_)
  · obtain ⟨a, ns, rfl, _⟩ := h
    rfl
  · obtain ⟨a, zs, rfl, hS, hs, hl, q⟩ := h
    refine ⟨_, (pss_cons (ps_set (i := 1) sc_law.nd rfl (.inl rfl) (pe_ca CB (hr.mono (by decide)) (by rfl) (pa_cons (pv 0) pa_nil)))
      (pss_cons (ps_for PassesOwn.never rfl (pi_range1 (by rfl) T.n_range (pa_cons pe_int pa_nil)) (pg_name (i := 2) sc_law.nd rfl (.inl rfl))
        (pss_cons (ps_set (i := 3) sc_law.nd rfl (.inl rfl) (pe_ca CN (hr.mono (by decide)) (by rfl) (pa_cons (pv 1) (pa_cons (pe_op op_add pe_int (pe_ca CT (hr.mono (by decide)) (by rfl) (pa_cons (pv 1) (pa_cons pe_int pa_nil)))) pa_nil))))
        (pss_cons (ps_set (i := 4) sc_law.nd rfl (.inl rfl) (pe_orT (pe_lc (own := [("_law_name", 6)]) (g := gName 6) rfl sc_law.nd (pi_list (pv 3)) (blkOk_by (N := nLaw) (sc := defScope s_law) (by decide +kernel)) (fun _ _ _ _ _ => pg_name (i := 6) sc_law.nd rfl (.inl rfl)) (fun _ _ _ _ _ => pts_one (pt_cmpR op_ne (pv 6) pe_str (nomark _))) (fun _ _ _ _ _ => pv 6)) (pe_one (pe_lst (pa_cons pe_str pa_nil)))))
        (pss_cons (ps_set (i := 5) sc_law.nd rfl (.inr rfl) pe_dnewK)
        (pss_cons (ps_for PassesOwn.never rfl (pi_list (pv 4)) (pg_name (i := 6) sc_law.nd rfl (.inl rfl))
          (pss_one (ps_dput (hu_of hr) (pv 5) (pv 6) (pe_ifExp (pt_cmpR op_gt (pe_callB call_len_seq (by rfl) T.n_len (by decide +kernel) (pa_cons (pv 4) pa_nil)) pe_int (nomark _)) pe_int (pe_op op_add pe_int (pe_ca CT (hr.mono (by decide)) (by rfl) (pa_cons (pv 1) (pa_cons pe_int pa_nil))))) rfl)))
        (pss_cons (ps_setLc (i := 7) (own := [("_law_name", 6)]) (g := gName 6) (tt := tYes) rfl sc_law.nd rfl rfl (sw_true rfl rfl rfl (by decide +kernel)) (pi_list (pv 4)) (blkOk_by (N := nLaw) (sc := defScope s_law) (by decide +kernel)) (fun _ _ _ _ _ => pg_name (i := 6) sc_law.nd rfl (.inl rfl)) (fun _ _ _ _ _ => pts_nil) (fun _ _ _ _ _ => pe_tup (pa_cons (pv 6) (pa_cons (pe_dget (hu_of hr) (pv 5) (pv 6) (fun _ _ => rfl)) pa_nil))))
        (pss_cons (ps_set (i := 8) sc_law.nd rfl (.inl rfl) (pe_ca CDi (hr.mono (by decide)) (by rfl) (pa_cons (pv 1) (pa_cons (pv 7) pa_nil))))
        (pss_cons (ps_par (i := 9) (j := 10) rfl sc_law.nd rfl rfl (by decide) rfl rfl (pa_cons (pe_make mk FI (hr.mono (by decide)) (by rfl) L.gC bI .nil pass0 (pa_cons (pv 8) pa_nil)) (pa_cons (pe_make mk FI (hr.mono (by decide)) (by rfl) L.gC bI .nil pass0 (pa_cons (pe_ca CDi (hr.mono (by decide)) (by rfl) (pa_cons (pv 1) (pa_cons (pv 7) pa_nil))) pa_nil)) pa_nil)) (by rfl))
        (pss_cons (ps_dput (hu_of hr) (pv 8) pe_str pe_int rfl)
        (pss_cons (ps_dput (hu_of hr) (pv 8) (pe_ix ix_list (pv 4) pe_int (fun _ _ => rfl)) pe_int rfl)
        (pss_cons (ps_for PassesOwn.never rfl (pi_range1 (by rfl) T.n_range (pa_cons pe_int pa_nil)) (pg_name (i := 11) sc_law.nd rfl (.inl rfl))
          (pss_one (ps_if (PW.pt (pw_or (pt_not (pt_val (pe_cg CR hG (hr.mono (by decide)) (by rfl) (pa_cons (pv 9) (pa_cons (pv 4) (pa_cons (pv 5) pa_nil)))))) (pw_or1 (pt_not (pt_val (pe_cg CR hG (hr.mono (by decide)) (by rfl) (pa_cons (pv 10) (pa_cons (pv 4) (pa_cons (pv 5) pa_nil))))))))) (pss_one (ps_ret pe_bl)) pss_nil)))
        (pss_cons (ps_if (PW.pt (pw_or (pt_not (pt_cmpR (op_eqO ME (hr.mono (by decide))) (pv 9) (pv 10) (nomark _))) (pw_or (pt_cmpR (op_neO ME NC (hr.mono (by decide))) (pv 9) (pv 10) (nomark _)) (pw_or (pt_cmpR (op_eqO ME (hr.mono (by decide))) (pv 9) (pv 5) (nomark _)) (pw_or1 (pt_not (pt_cmpR (op_neO ME NC (hr.mono (by decide))) (pv 9) pe_non (nomark _)))))))) (pss_one (ps_ret pe_bl)) pss_nil)
        (pss_cons (ps_for PassesOwn.never rfl (pi_list (pe_lc (own := [("_law_row", 19)]) (g := gName 19) rfl sc_law.nd (pi_list (pe_ca COt (hr.mono (by decide)) (by rfl) (pa_cons (pv 1) (pa_cons (pv 4) (pa_cons (pv 5) pa_nil))))) (blkOk_by (N := nLaw) (sc := defScope s_law) (by decide +kernel)) (fun _ _ _ _ _ => pg_name (i := 19) sc_law.nd rfl (.inl rfl)) (fun _ _ _ _ _ => pts_one (pt_val (pe_ca CSm (hr.mono (by decide)) (by rfl) (pa_cons (pv 19) pa_nil)))) (fun _ _ _ _ _ => pv 19))) (pg_name (i := 12) sc_law.nd rfl (.inl rfl))
          (pss_cons (ps_set (i := 13) sc_law.nd rfl (.inl rfl) (pe_make mk FI (hr.mono (by decide)) (by rfl) L.gC bI .nil pass0 (pa_cons (pe_ca CDi (hr.mono (by decide)) (by rfl) (pa_cons (pv 1) (pa_cons (pv 12) pa_nil))) pa_nil)))
          (pss_cons (ps_set (i := 14) sc_law.nd rfl (.inl rfl) (pe_cmpR (op_eqQ hr) (pe_callB call_sortT (by rfl) T.n_sorted (by decide +kernel) (pa_cons (pv 12) pa_nil)) (pe_callB call_sortT (by rfl) T.n_sorted (by decide +kernel) (pa_cons (pv 7) pa_nil)) (nomark _)))
          (pss_one (ps_if (pt_not (pt_val (pe_cg CA hG (hr.mono (by decide)) (by rfl) (pa_cons (pe_lst (pa_cons (pe_cmpR (op_eqO ME (hr.mono (by decide))) (pv 9) (pv 13) (nomark _)) (pa_cons (pe_cmpR (op_neO ME NC (hr.mono (by decide))) (pv 9) (pv 13) (nomark _)) pa_nil))) (pa_cons (pe_lst (pa_cons (pv 14) (pa_cons (pe_not (pv 14)) pa_nil))) pa_nil))))) (pss_one (ps_ret pe_bl)) pss_nil)))))
        (pss_cons (ps_par (i := 15) (j := 16) rfl sc_law.nd rfl rfl (by decide) rfl rfl (pa_cons (pe_callTy call_list_of (by rfl) T.n_list (by decide +kernel) (pa_cons (pv 4) pa_nil)) (pa_cons (pe_ifExp (pt_cmpR op_gt (pe_callB call_len_seq (by rfl) T.n_len (by decide +kernel) (pa_cons (pv 4) pa_nil)) pe_int (nomark _)) pe_int (pe_op op_add pe_int (pe_ca CT (hr.mono (by decide)) (by rfl) (pa_cons (pv 1) (pa_cons pe_int pa_nil))))) pa_nil)) (by rfl))
        (pss_cons (ps_set (i := 17) sc_law.nd rfl (.inl rfl) (ClX.pe_cmeth (pe_glob (v := .ref C) rfl L.gC rfl) rV cV (FV.raw bV .nil) (hr.mono (by decide)) pass0 (pa_cons (pv 15) (pa_cons (pv 16) pa_nil))))
        (pss_cons (ps_expr (pe_bm PySem.F.plainAttrs_list PySem.F.slot_list_append PySem.F.type_list_append mt_append (pv 15) (pa_cons pe_str pa_nil)))
        (pss_cons (ps_set (i := 18) sc_law.nd rfl (.inl rfl) pe_dnewK)
        (pss_cons (ps_for PassesOwn.never rfl (pi_list (pv 4)) (pg_name (i := 6) sc_law.nd rfl (.inl rfl))
          (pss_one (ps_dput (hu_of hr) (pv 18) (pv 6) (pv 16) rfl)))
        (pss_cons (ps_if (pt_not (pt_val (pe_cg CR hG (hr.mono (by decide)) (by rfl) (pa_cons (pv 17) (pa_cons (pv 4) (pa_cons (pv 18) pa_nil)))))) (pss_one (ps_ret pe_bl)) pss_nil)
        (pss_one (ps_if (pt_not (pt_val (pe_cg CR hG (hr.mono (by decide)) (by rfl) (pa_cons (ClX.pe_cmeth (pe_glob (v := .ref C) rfl L.gC rfl) rV cV (FV.raw bV .nil) (hr.mono (by decide)) pass0 (pa_cons (pe_callTy call_tuple_of (by rfl) T.n_tuple (by decide +kernel) (pa_cons (pv 4) pa_nil)) (pa_cons (pv 16) pa_nil))) (pa_cons (pv 4) (pa_cons (pv 18) pa_nil)))))) (pss_one (ps_ret pe_bl)) pss_nil)))))))))))))))))))))
      (pss_one (ps_ret pe_bl)))), ?_⟩
    have z24 : sizeLine = 16777216 := rfl
    refine ⟨_, rfl, a, zs, rfl, hs, by omega, fun p H1 e1 hb => ?_⟩
    have S1 := sysUp hS e1
    refine ⟨_, rfl, by decide, by decide, for_range (n := 4) (fun i σ H' => ∃ s2 s3 s4 s5 s6 s7 s8 s9 s10 s11 s12 s13 s14 s15 s16 s17 s18 s19, σ = [some (.ref a), some (.ref p), s2, s3, s4, s5, s6, s7, s8, s9, s10, s11, s12, s13, s14, s15, s16, s17, s18, s19] ∧ Ext H1 H')
      ⟨none, none, none, none, none, none, none, none, none, none, none, none, none, none, none, none, none, none, rfl, Ext.refl _⟩ ?_ ?_⟩
    · rintro i σ H' hi ⟨s2, s3, s4, s5, s6, s7, s8, s9, s10, s11, s12, s13, s14, s15, s16, s17, s18, s19, rfl, e⟩
      have hbE := hb.up e
      refine ⟨_, rfl, _, rfl, p, 3, rfl, hbE, by decide, by decide, fun r r0 r1 => ⟨_, _, rfl, rfl, p, 1 + r, rfl, hbE, by omega, by omega, fun an0 ys0 H2 e2 nan0 han0 nys => ?_⟩⟩
      have ly0 : ys0.length ≤ 3 := by rw [nys.len]; omega
      dsimp only [gName]
      refine cutN (fun σ' H' => ∃ (an : Addr) (ys : List Str), σ' = [some (.ref a), some (.ref p), some (.int (0 + (i : Int))), some (.ref an0), some (.ref an), s5, s6, s7, s8, s9, s10, s11, s12, s13, s14, s15, s16, s17, s18, s19] ∧ Ext H2 H' ∧ H' an = some (.lst (ys.map V.str)) ∧ ys.Nodup ∧ ys ≠ [] ∧ ys.length ≤ 3 ∧ (∀ x ∈ ys, isNameS x = true) ∧ ("zzzzzzzz" : Str) ∉ ys) (fun W hW => ?_) ?_
      · have ml0 : (ys0.map V.str).length = ys0.length := List.length_map ..
        refine ⟨_, rfl, an0, rfl, ⟨_, SqL.of han0⟩, fun D hD => ?_⟩
        refine lc1_acc (walk_list (xs := ys0.map V.str)) (fun i zs Hd => zs = ((ys0.take i).filter (fun x => decide (x ≠ ("zzzzzzzz" : Str)))).map V.str) (fun _ _ _ _ e h => h) rfl hD
          (fun i zs _ h => by rw [h, List.length_map]; exact Nat.lt_of_le_of_lt (Nat.le_trans (List.length_filter_le ..) (by rw [List.length_take]; omega : _ ≤ 3)) (by decide)) (fun H' e => SqL.of (e _ _ han0)) ?_ ?_
        · rintro k x Hi H'' zs hk e hy ⟨rfl, hx⟩ hp QY QN kY kN
          rw [ml0] at hk
          rw [List.getElem?_map, List.getElem?_eq_getElem hk] at hx
          cases hx
          refine ⟨rfl, _, rfl, rfl, _, rfl, ?_⟩
          refine ite2 (fun g => ?_) (fun g => ?_)
          · have nz : ys0[k] ≠ ("zzzzzzzz" : Str) := fun z => by
              rw [z, decide_eq_true rfl] at g
              cases g
            refine ⟨_, rfl, kY _ _ (Ext.refl _) ?_⟩
            rw [hp, List.take_add_one, List.getElem?_eq_getElem hk, Option.toList_some, List.filter_append, List.map_append, List.filter_cons_of_pos (by exact decide_eq_true nz)]
            rfl
          · have ez : ys0[k] = ("zzzzzzzz" : Str) := by
              by_cases c : ys0[k] = ("zzzzzzzz" : Str)
              · exact c
              · have : decide (V.str ys0[k] = V.str "zzzzzzzz") = false := decide_eq_false fun z => c (V.str.inj z)
                rw [this] at g
                exact absurd rfl g
            refine kN _ (Ext.refl _) ?_
            rw [hp, List.take_add_one, List.getElem?_eq_getElem hk, Option.toList_some, List.filter_append, List.map_append, List.filter_cons_of_neg (by rw [ez]; decide)]
            simp
        intro H3 zs e3 hD3 hp
        rw [ml0, List.take_length] at hp
        refine ⟨!zs.isEmpty, .inl ⟨zs, SqL.of hD3, rfl⟩, ?_⟩
        cases hq : zs.isEmpty with
        | false =>
          refine hW _ _ ⟨D, ys0.filter (fun x => decide (x ≠ ("zzzzzzzz" : Str))), rfl, e3, by rw [← hp]; exact hD3, List.filter_sublist.nodup nys.nd, fun z => ?_, Nat.le_trans (List.length_filter_le ..) ly0, fun x hx => nys.ok x (List.mem_filter.mp hx).1, fun hx => ?_⟩
          · rw [z] at hp
            rw [hp] at hq
            cases hq
          · exact absurd rfl (of_decide_eq_true (List.mem_filter.mp hx).2)
        | true =>
          refine ⟨by show 1 ≤ sizeLine; decide, fun l hl => ?_⟩
          refine hW _ _ ⟨l, ["a"], rfl, e3.trans (Ext.new hl), upd_same, by decide +kernel, by decide, by decide, fun x hx => ?_, by decide +kernel⟩
          rw [List.mem_singleton.mp hx]
          decide +kernel
      rintro σ' H3 ⟨an, ys, rfl, e3, han, ynd, yne, y3, yok, yz⟩
      have ml : (ys.map V.str).length = ys.length := List.length_map ..
      have y1 : 0 < ys.length := List.length_pos_iff.mpr yne
      have e13 := (e.trans e2).trans e3
      have hb3 := hb.up e13
      clear e2 e3 han0 nys ly0 nan0 hbE e
      -- the bounds
      intro db ndb
      have e0 := Ext.new (o := .dK []) ndb
      dsimp only [gName]
      refine cutN (fun σ' H' => ∃ v6 ps, σ' = [some (.ref a), some (.ref p), some (.int (0 + (i : Int))), some (.ref an0), some (.ref an), some (.ref db), v6, s7, s8, s9, s10, s11, s12, s13, s14, s15, s16, s17, s18, s19] ∧ Ext H3 H' ∧ H' db = some (.dK (kvI ps)) ∧ ps.map (·.1) = ys ∧ (∀ q ∈ ps, 1 ≤ q.2 ∧ q.2 ≤ 3)) (fun W hW => ?_) ?_
      · refine ⟨_, rfl, an, rfl, ⟨_, SqL.of (e0 _ _ han)⟩, ?_⟩
        refine for_list (xs := ys.map V.str) (fun k σ H' => ∃ v6 ps, σ = [some (.ref a), some (.ref p), some (.int (0 + (i : Int))), some (.ref an0), some (.ref an), some (.ref db), v6, s7, s8, s9, s10, s11, s12, s13, s14, s15, s16, s17, s18, s19] ∧ Ext H3 H' ∧ H' db = some (.dK (kvI ps)) ∧ ps.map (·.1) = ys.take k ∧ (∀ q ∈ ps, 1 ≤ q.2 ∧ q.2 ≤ 3))
          ⟨_, [], rfl, e0, upd_same, rfl, fun q hq => by cases hq⟩ (fun k σ H' _ ⟨_, _, _, e, _⟩ => SqL.of (e _ _ han)) ?_ ?_
        · rintro k x σ H4 hx ⟨v6, ps, rfl, e, hd1, hps, hbd⟩
          have hk : k < ys.length := by have := (List.getElem?_eq_some_iff.mp hx).1; rw [ml] at this; exact this
          rw [List.getElem?_map, List.getElem?_eq_getElem hk] at hx
          cases hx
          have hni : ys[k] ∉ ps.map (·.1) := fun z => by
            rw [hps] at z
            obtain ⟨j, hj, ej⟩ := List.getElem_of_mem z
            rw [List.length_take] at hj
            rw [List.getElem_take] at ej
            exact List.pairwise_iff_getElem.mp ynd j k (by omega) hk (by omega) ej
          have htk : ys.take (k + 1) = ys.take k ++ [ys[k]] := by rw [List.take_add_one, List.getElem?_eq_getElem hk]; rfl
          have hpl : ps.length ≤ 3 := by have := congrArg List.length hps; rw [List.length_map, List.length_take] at this; omega
          have put : ∀ (z : Int) (H5 : Hp), 1 ≤ z → z ≤ 3 →
              ∃ ps', (upd H5 db (.dK (putK (kvI ps) (.inr ys[k]) (.int z)))) db = some (.dK (kvI ps')) ∧ ps'.map (·.1) = ys.take (k + 1) ∧ (∀ q ∈ ps', 1 ≤ q.2 ∧ q.2 ≤ 3) := by
            intro z H5 z1 z3
            refine ⟨ps ++ [(ys[k], z)], ?_, ?_, ?_⟩
            · rw [upd_same, putK_new (kvI_none hni)]
              unfold kvI
              rw [List.map_append]
              rfl
            · rw [List.map_append, hps, htk]
              rfl
            · intro q hq
              rcases List.mem_append.mp hq with h | h
              · exact hbd q h
              · rw [List.mem_singleton.mp h]; exact ⟨z1, z3⟩
          refine ⟨_, rfl, an, _, rfl, .inl (SqL.of (e _ _ han)), _, _, rfl, rfl, _, rfl, ?_⟩
          refine ite2 (fun _ => ?_) (fun _ => ?_)
          · obtain ⟨ps', g1, g2, g3⟩ := put 1 H4 (by decide) (by decide)
            exact ⟨_, rfl, _, rfl, db, _, rfl, DPut.k (k := Sum.inr ys[k]) hd1 (by unfold kvI; rw [List.length_map]; exact Nat.lt_of_le_of_lt hpl (by decide)), _, ps', rfl, Ext.mut e ndb, g1, g2, g3⟩
          · refine ⟨_, rfl, p, 3, rfl, hb3.up e, by decide, by decide, fun r r0 r1 => ?_⟩
            obtain ⟨ps', g1, g2, g3⟩ := put (1 + r) H4 (by omega) (by omega)
            exact ⟨_, _, rfl, rfl, _, rfl, _, rfl, db, _, rfl, DPut.k (k := Sum.inr ys[k]) hd1 (by unfold kvI; rw [List.length_map]; exact Nat.lt_of_le_of_lt hpl (by decide)), _, ps', rfl, Ext.mut e ndb, g1, g2, g3⟩
        · rintro σ H' ⟨v6, ps, rfl, e, hd1, hps, hbd⟩
          rw [ml, List.take_length] at hps
          exact hW _ _ ⟨_, ps, rfl, e, hd1, hps, hbd⟩
      rintro σ' H4 ⟨v6, ps, rfl, e4, hdb, hps, hbd⟩
      subst hps
      have pl3 : ps.length ≤ 3 := by rw [List.length_map] at y3; exact y3
      have ok : OkRow ps := ⟨fun z => yne (by rw [z]; rfl), by omega, ynd, fun q hq => yok _ (List.mem_map.mpr ⟨q, hq, rfl⟩), hbd⟩
      have e14 := e13.trans e4
      have han4 := e4 _ _ han
      have hb4 := hb3.up e4
      have mlp : ((ps.map (·.1)).map V.str).length = ps.length := by rw [List.length_map, List.length_map]
      have p0 : 0 < ps.length := List.length_pos_iff.mpr ok.ne
      clear e0 e4 e13 han hb3 ndb
      -- the pairs
      refine ⟨_, rfl, an, rfl, ⟨_, SqL.of han4⟩, fun D hD => ?_⟩
      refine lc1_acc (walk_list (xs := (ps.map (·.1)).map V.str)) (fun i ys Hd => DqAll Hd ys ((ps.take i).map pD)) (fun _ _ _ _ e h => DqAll.up e h) .nil hD
        (fun i ys _ h => by rw [h.len, List.length_map, List.length_take]; exact Nat.lt_of_le_of_lt (show _ ≤ 3 by omega) (by decide)) (fun H' e => SqL.of (e _ _ han4)) ?_ ?_
      · rintro k x Hi H' zs hk e hy ⟨rfl, hx⟩ hp QY QN kY kN
        rw [mlp] at hk
        rw [List.getElem?_map, List.getElem?_map, List.getElem?_eq_getElem hk] at hx
        cases hx
        have mi : ps[k].1 ∈ ps.map (·.1) := List.mem_map.mpr ⟨_, List.getElem_mem hk, rfl⟩
        have gi := dget_kv (e _ _ hdb) mi
        rw [bd_at ok.nd hk] at gi
        refine ⟨rfl, ?_⟩
        refine tyes ?_
        refine ⟨_, rfl, _, rfl, _, rfl, db, _, rfl, gi, by show 2 ≤ sizeLine; decide, fun t ht => ?_⟩
        have et := Ext.new (o := .tup [.str ps[k].1, .int ps[k].2]) ht
        refine kY _ _ et ?_
        rw [List.take_add_one, List.getElem?_eq_getElem hk, Option.toList_some, List.map_append]
        have nD : t ≠ D := fun z => by rw [z, hy] at ht; cases ht
        exact dq_app (DqAll.up (ext_del et) hp) (.cons (.tup (by rw [del_ne nD]; exact upd_same) (.cons (.str _) (.cons (.int _) .nil))) .nil)
      intro H5 xs e5 hD5 hxs
      rw [mlp, List.take_length] at hxs
      have hb5 := hb4.up e5
      -- two Lanes
      refine ⟨_, rfl, _, rfl, p, D, xs, ps, rfl, hb5, hD5, hxs, by omega, ok.nd, fun dh qs H6 ndh e6 hdh hpm => ?_⟩
      have okq : ∀ q ∈ qs, isNameS q.1 = true ∧ 1 ≤ q.2 := fun q hq => ⟨ok.nm q (hpm.mem_iff.mp hq), (ok.bd q (hpm.mem_iff.mp hq)).1⟩
      have neq : qs ≠ [] := fun z => by
        rw [z] at hpm
        exact ok.ne hpm.nil_eq.symm
      have lq : qs.length ≤ 3 := by rw [hpm.length_eq]; exact pl3
      refine ⟨_, rfl, fun lx dx nlx ndx nex => ?_⟩
      have eo := (Ext.new (o := .own lx) ndx)
      refine ⟨H6, lx, dx, dh, qs, rfl, nlx, Ext.mut eo nlx, upd_same, hdh, neq, by omega, okq, (hpm.map _).nodup_iff.mpr ok.nd, fun H7 ns e7 hperm hso hL => ⟨rfl, ?_⟩⟩
      have e67 := e6.trans e7
      refine ⟨_, rfl, _, rfl, p, D, xs, ps, rfl, hb5.up e67, e67 _ _ hD5, DqAll.up e67 hxs, by omega, ok.nd, fun d2 qs2 H8 nd2 e8 hd2 hpm2 => ?_⟩
      have okq2 : ∀ q ∈ qs2, isNameS q.1 = true ∧ 1 ≤ q.2 := fun q hq => ⟨ok.nm q (hpm2.mem_iff.mp hq), (ok.bd q (hpm2.mem_iff.mp hq)).1⟩
      have neq2 : qs2 ≠ [] := fun z => by
        rw [z] at hpm2
        exact ok.ne hpm2.nil_eq.symm
      have lq2 : qs2.length ≤ 3 := by rw [hpm2.length_eq]; exact pl3
      refine fun ly dy nly ndy ney => ?_
      have eo2 := (Ext.new (o := .own ly) ndy)
      refine ⟨H8, ly, dy, d2, qs2, rfl, nly, Ext.mut eo2 nly, upd_same, hd2, neq2, by omega, okq2, (hpm2.map _).nodup_iff.mpr ok.nd, fun H9 ns2 e9 hperm2 hso2 hL2 => ⟨rfl, ?_⟩⟩
      have pn : ns.Perm (ps.map (·.1)) := hperm.trans (hpm.map _)
      have pn2 : ns2.Perm (ps.map (·.1)) := hperm2.trans (hpm2.map _)
      obtain rfl : ns2 = ns := sorted_one hso2 hso (pn2.trans pn.symm)
      have eb1 : ns2.map (bdOf qs) = ns2.map (bdOf ps) := List.map_congr_left fun x hx => bd_perm ok.nd hpm (pn.mem_iff.mp hx)
      have eb2 : ns2.map (bdOf qs2) = ns2.map (bdOf ps) := List.map_congr_left fun x hx => bd_perm ok.nd hpm2 (pn.mem_iff.mp hx)
      rw [eb1] at hL
      rw [eb2] at hL2
      have nne : ns2 ≠ [] := fun z => by
        rw [z] at pn
        exact yne pn.nil_eq.symm
      have e79 := e8.trans e9
      have e59 := e67.trans e79
      have hdh9 := (e7.trans e79) _ _ hdh
      have q1 : ∀ q ∈ qs, 1 ≤ q.2 := fun q hq => (okq q hq).2
      have D1 := lanes_del (hL.up e79) hdh9 q1 nne
      have D2 := lanes_del hL2 hdh9 q1 nne
      have ndh4 : H5 dh = none := ndh
      -- what was handed in is changed
      obtain ⟨x0, hx0⟩ : ∃ x0, ((ps.map (·.1)).map V.str)[0]? = some (.str x0) := ⟨ps[0].1, by rw [List.getElem?_map, List.getElem?_map, List.getElem?_eq_getElem p0]; rfl⟩
      have at0 : atI ((ps.map (·.1)).map V.str) 0 = some (.str x0) := atI_nat (j := 0) hx0
      have kl : (kvI qs).length ≤ 3 := by unfold kvI; rw [List.length_map]; exact lq
      refine ⟨_, _, rfl, ?_⟩
      refine ⟨_, rfl, dh, _, rfl, DPut.k (k := Sum.inr "zzzzzzzz") hdh9 (Nat.lt_of_le_of_lt kl (by decide)), ?_⟩
      have x1 : Ext (del H9 dh) (upd H9 dh (.dK (putK (kvI qs) (.inr "zzzzzzzz") (.int 1)))) := del_put
      have k1 := upd_same (H := H9) (a := dh) (o := HO.dK (putK (kvI qs) (.inr "zzzzzzzz") (.int 1)))
      have kl2 : (putK (kvI qs) (.inr "zzzzzzzz") (.int 1)).length ≤ 4 := by
        have zq : ("zzzzzzzz" : Str) ∉ qs.map (·.1) := fun z => yz ((hpm.map _).mem_iff.mp z)
        rw [putK_new (kvI_none zq), List.length_append, List.length_singleton]
        omega
      generalize upd H9 dh (.dK (putK (kvI qs) (.inr "zzzzzzzz") (.int 1))) = H10 at *
      have n9 : an ≠ dh := fun z => by rw [← z, e5 _ _ han4] at ndh; cases ndh
      have z9 : del H9 dh an = some (.lst ((ps.map (·.1)).map V.str)) := by
        rw [del_ne n9]
        exact (e5.trans e59) _ _ han4
      have han10 := x1 _ _ z9
      refine ⟨_, rfl, _, rfl, an, _, _, _, rfl, rfl, SqL.of han10, at0, dh, _, rfl, DPut.k (k := Sum.inr x0) k1 (Nat.lt_of_le_of_lt kl2 (by decide)), ?_⟩
      have x2 : Ext (del H9 dh) (upd H10 dh (.dK (putK (putK (kvI qs) (.inr "zzzzzzzz") (.int 1)) (.inr x0) (.int 9)))) := fun b o z => by
        have nb : b ≠ dh := fun y => by rw [y] at z; exact absurd z (by rw [del_same]; exact fun w => nomatch w)
        rw [upd_ne nb]
        exact x1 _ _ z
      generalize upd H10 dh (.dK (putK (putK (kvI qs) (.inr "zzzzzzzz") (.int 1)) (.inr x0) (.int 9))) = H11 at *
      have e511 : Ext H5 H11 := (ext_to e59 ndh).trans x2
      have L1 := D1.up x2
      have L2' := D2.up x2
      have hb11 := hb5.up e511
      have e111 := e14.trans (e5.trans e511)
      have S11 := sysUp S1 e111
      have han11 := (e5.trans e511) _ _ han4
      have hdb11 := (e5.trans e511) _ _ hdb
      have hD11 := e511 _ _ hD5
      have hx11 := DqAll.up e511 hxs
      have R1 : Rt C H11 lx an db ps ns2 := ⟨S11, L1, han11, hdb11, pn, hso, ok, pl3, yz⟩
      have R2 : Rt C H11 ly an db ps ns2 := ⟨S11, L2', han11, hdb11, pn, hso, ok, pl3, yz⟩
      clear x1 x2 k1 kl2 kl z9 han10 n9 D1 D2 hdh9 e79 e59 e67 e8 e9 e6 e7 hL hL2 hdh hd2 hb5 hxs hD5 e5 e14 hb4 hdb han4 hperm hperm2 hso2 pn2 eb1 eb2 ndh4 e511
      -- they tell what was handed in, three times
      dsimp only [gName]
      refine cutN (fun σ' H' => ∃ s11, σ' = [some (.ref a), some (.ref p), some (.int (0 + (i : Int))), some (.ref an0), some (.ref an), some (.ref db), v6, some (.ref D), some (.ref dh), some (.ref lx), some (.ref ly), s11, s12, s13, s14, s15, s16, s17, s18, s19] ∧ Ext H11 H') (fun W hW => ?_) ?_
      · refine ⟨_, rfl, by decide, by decide, for_range (n := 3) (fun m σ H' => ∃ s11, σ = [some (.ref a), some (.ref p), some (.int (0 + (i : Int))), some (.ref an0), some (.ref an), some (.ref db), v6, some (.ref D), some (.ref dh), some (.ref lx), some (.ref ly), s11, s12, s13, s14, s15, s16, s17, s18, s19] ∧ Ext H11 H')
          ⟨_, rfl, Ext.refl _⟩ ?_ ?_⟩
        · rintro m σ H' hm ⟨s11, rfl, e'⟩
          refine ⟨_, rfl, _, rfl, _, rfl, lx, an, db, ps, ns2, rfl, R1.up e', fun Ha ea => ⟨_, rfl, ?_⟩⟩
          refine iteF ?_
          refine ⟨_, rfl, _, rfl, _, rfl, ly, an, db, ps, ns2, rfl, R2.up (e'.trans ea), fun Hb eb => ⟨_, rfl, ?_⟩⟩
          refine iteF ?_
          exact ⟨_, rfl, (e'.trans ea).trans eb⟩
        · rintro σ H' ⟨s11, rfl, e'⟩
          exact hW _ _ ⟨_, rfl, e'⟩
      rintro σ' H12 ⟨s11, rfl, e12⟩
      have R1 := R1.up e12
      have R2 := R2.up e12
      have S12 := sysUp S11 e12
      obtain ⟨dx', nn, bb, sp, h1, _⟩ := id R1.hL
      obtain ⟨dy', nn2, bb2, sp2, h2, _⟩ := id R2.hL
      -- equal to each other, unlike anything else
      refine ⟨_, rfl, _, rfl, lx, dx', _, .ref C, rfl, h1, IC.ty L.cl h2, IsC.nC, lx, ns2, _, .ref ly, rfl, S12, R1.hL, .inl ⟨ly, ns2, _, rfl, R2.hL, _, rfl, _, rfl, ?_⟩⟩
      rw [decide_eq_true (rfl : ns2 = ns2), decide_eq_true (rfl : ns2.map (bdOf ps) = ns2.map (bdOf ps))]
      refine iteF ?_
      refine ⟨_, rfl, _, rfl, lx, dx', _, .ref C, rfl, h1, IC.ty L.cl h2, IsC.nC, lx, ns2, _, .ref ly, rfl, S12, R1.hL, .inl ⟨ly, ns2, _, rfl, R2.hL, _, rfl, _, rfl, ?_⟩⟩
      rw [decide_eq_true (rfl : ns2 = ns2), decide_eq_true (rfl : ns2.map (bdOf ps) = ns2.map (bdOf ps))]
      refine iteF ?_
      refine ⟨_, rfl, _, rfl, lx, dx', _, .type "dict", rfl, h1, .base (.dK R1.hdb), IC.nD, lx, ns2, _, .ref db, rfl, S12, R1.hL, .inr ⟨_, .base (.dK R1.hdb), IC.kD, _, rfl, _, rfl, ?_⟩⟩
      refine iteF ?_
      refine ⟨_, rfl, lx, dx', _, .type "NoneType", rfl, h1, .base .non, IC.nN, lx, ns2, _, .non, rfl, S12, R1.hL, .inr ⟨_, .base .non, IC.kN, _, rfl, _, rfl, ?_⟩⟩
      refine iteF ?_
      have han12 := R1.han
      have hdb12 := R1.hdb
      have hD12 := e12 _ _ hD11
      have hx12 := DqAll.up e12 hx11
      have hb12 := hb11.up e12
      have e112 := e111.trans e12
      clear R2 hD11 hx11 hb11 han11 hdb11 e12 S11
      -- others
      dsimp only [tNext, gName]
      refine cutN (fun σ' H' => ∃ s12 s13 s14, σ' = [some (.ref a), some (.ref p), some (.int (0 + (i : Int))), some (.ref an0), some (.ref an), some (.ref db), v6, some (.ref D), some (.ref dh), some (.ref lx), some (.ref ly), s11, s12, s13, s14, s15, s16, s17, s18, s19] ∧ Ext H12 H') (fun W hW => ?_) ?_
      · refine ⟨_, rfl, _, rfl, _, rfl, p, an, db, ps, rfl, hb12, han12, hdb12, ok, pl3, yz, fun fl rows H13 nfl e13 hfl lrows hrows => ?_⟩
        obtain ⟨f0, fx, ed, hf0, hfx⟩ := lst_inv hfl
        cases ed
        have lfx : fx.length = rows.length := by rw [hfx.len, List.length_map]
        refine ⟨fl, rfl, ⟨_, SqL.of hf0⟩, fun G hG => ?_⟩
        refine lc1_acc (walk_list (xs := fx)) (fun k zs Hd => ∃ rs : List (List (Str × Int)), DqAll Hd zs (rs.map prD) ∧ (∀ r ∈ rs, OkRow r) ∧ rs.length ≤ k ∧ k ≤ 5) (fun _ _ _ _ e ⟨rs, h, r⟩ => ⟨rs, DqAll.up e h, r⟩) ⟨[], .nil, (fun r hr => by cases hr), by decide, by decide⟩ hG
          (fun k zs _ ⟨rs, h, _, h2, h3⟩ => by rw [h.len, List.length_map]; exact Nat.lt_of_le_of_lt (show _ ≤ 5 by omega) (by decide)) (fun H' e => SqL.of (e _ _ hf0)) ?_ ?_
        · rintro k x Hi H' zs hk e hy ⟨rfl, hx⟩ ⟨rs, hp, hr2, hl2, _⟩ QY QN kY kN
          have hk2 : k < rows.length := by omega
          obtain ⟨x', hx', dx2⟩ := DqAll_get hfx k (prD rows[k]) (by rw [List.getElem?_map, List.getElem?_eq_getElem hk2]; rfl)
          rw [hx] at hx'
          cases hx'
          obtain ⟨rl, rxs, rfl, hrl, hrx⟩ := lst_inv dx2
          have ok2 := hrows _ (List.getElem_mem hk2)
          refine ⟨rfl, _, rfl, rl, rxs, rows[k], rfl, e _ _ hrl, DqAll.up e hrx, ok2.bd, fun b => ⟨_, rfl, ?_⟩⟩
          refine ite2 (fun _ => ?_) (fun _ => ?_)
          · refine ⟨_, rfl, kY _ _ (Ext.refl _) ⟨rs ++ [rows[k]], ?_, fun r hr => ?_, by rw [List.length_append, List.length_singleton]; omega, by omega⟩⟩
            · rw [List.map_append]
              exact dq_app hp (.cons (dx2.up (ext_to e hG)) .nil)
            · rcases List.mem_append.mp hr with h | h
              · exact hr2 r h
              · rw [List.mem_singleton.mp h]
                exact ok2
          · exact kN _ (Ext.refl _) ⟨rs, hp, hr2, by omega, by omega⟩
        rintro H14 zs e14 hG14 ⟨rs, hrs, hrok, hrl5, _⟩
        have lzs : zs.length = rs.length := by rw [hrs.len, List.length_map]
        have e124 := e13.trans e14
        refine ⟨G, rfl, ⟨_, SqL.of hG14⟩, ?_⟩
        refine for_list (xs := zs) (fun k σ H' => ∃ s12 s13 s14, σ = [some (.ref a), some (.ref p), some (.int (0 + (i : Int))), some (.ref an0), some (.ref an), some (.ref db), v6, some (.ref D), some (.ref dh), some (.ref lx), some (.ref ly), s11, s12, s13, s14, s15, s16, s17, s18, s19] ∧ Ext H14 H')
          ⟨_, _, _, rfl, Ext.refl _⟩ (fun k σ H' _ ⟨_, _, _, _, e⟩ => SqL.of (e _ _ hG14)) ?_ ?_
        · rintro k x σ H15 hx ⟨s12, s13, s14, rfl, e⟩
          have hk2 : k < rs.length := by have := (List.getElem?_eq_some_iff.mp hx).1; omega
          obtain ⟨x', hx', dx2⟩ := DqAll_get hrs k (prD rs[k]) (by rw [List.getElem?_map, List.getElem?_eq_getElem hk2]; rfl)
          rw [hx] at hx'
          cases hx'
          obtain ⟨rl, rxs, rfl, hrl, hrx⟩ := lst_inv (dx2.up e)
          have ok2 := hrok _ (List.getElem_mem hk2)
          generalize rs[k] = row at hrx ok2 dx2
          have l4 := ok2.l4
          have e15 := e124.trans e
          refine ⟨_, rfl, _, rfl, p, rl, rxs, row, rfl, hb12.up e15, hrl, hrx, by omega, ok2.nd, fun d3 qs3 H16 nd3 e16 hd3 hpm3 => ?_⟩
          have okq3 : ∀ q ∈ qs3, isNameS q.1 = true ∧ 1 ≤ q.2 := fun q hq => ⟨ok2.nm q (hpm3.mem_iff.mp hq), (ok2.bd q (hpm3.mem_iff.mp hq)).1⟩
          have neq3 : qs3 ≠ [] := fun z => by
            rw [z] at hpm3
            exact ok2.ne hpm3.nil_eq.symm
          have lq3 : qs3.length ≤ 4 := by rw [hpm3.length_eq]; exact l4
          refine fun lz dz nlz ndz nez => ?_
          have eo3 := (Ext.new (o := .own lz) ndz)
          refine ⟨H16, lz, dz, d3, qs3, rfl, nlz, Ext.mut eo3 nlz, upd_same, hd3, neq3, by omega, okq3, (hpm3.map _).nodup_iff.mpr ok2.nd, fun H17 ns3 e17 hperm3 hso3 hL3 => ⟨rfl, ?_⟩⟩
          have e157 := e16.trans e17
          -- the same pairs
          have a1 := kOf_all (DqAll.up e157 hrx)
          refine ⟨_, rfl, rl, rxs, kOf H17, rfl, SqL.of (e157 _ _ hrl), a1.2, fun so1 p1 hp1 hw1 hn1 => ?_⟩
          have x1 := Ext.new (o := .lst so1) hn1
          have k1 := upd_same (H := H17) (a := p1) (o := HO.lst so1)
          have dq1 : DqAll H17 so1 ((so1.map (kOf H17)).map pD) := kOf_dq fun y hy => a1.2 y (hp1.mem_iff.mp hy)
          have pm1 : (so1.map (kOf H17)).Perm row := (hp1.map _).trans (by rw [a1.1])
          have w1 : (so1.map (kOf H17)).Pairwise (fun x y => lexT y x = false) := List.pairwise_map.mpr hw1
          generalize upd H17 p1 (.lst so1) = H18 at x1 k1 ⊢
          have e128 := (e15.trans e157).trans x1
          have a2 := kOf_all (DqAll.up e128 hx12)
          refine ⟨_, rfl, D, xs, kOf H18, rfl, SqL.of (e128 _ _ hD12), a2.2, fun so2 p2 hp2 hw2 hn2 => ?_⟩
          have x2 := Ext.new (o := .lst so2) hn2
          have k2 := upd_same (H := H18) (a := p2) (o := HO.lst so2)
          have dq2 : DqAll H18 so2 ((so2.map (kOf H18)).map pD) := kOf_dq fun y hy => a2.2 y (hp2.mem_iff.mp hy)
          have pm2 : (so2.map (kOf H18)).Perm ps := (hp2.map _).trans (by rw [a2.1])
          have w2 : (so2.map (kOf H18)).Pairwise (fun x y => lexT y x = false) := List.pairwise_map.mpr hw2
          generalize upd H18 p2 (.lst so2) = H19 at x2 k2 ⊢
          have x12 := x1.trans x2
          have e129 := e128.trans x2
          have S19 := sysUp S12 e129
          have same := same_iff ok.nd ok2.nd pn hperm3 hpm3 hso hso3 pm1 pm2 w1 w2
          generalize so1.map (kOf H17) = t1 at dq1 pm1 w1 same
          generalize so2.map (kOf H18) = t2 at dq2 pm2 w2 same
          refine ⟨.list (t1.map pD), .list (t2.map pD), S19, .lst (x2 _ _ k1) (DqAll.up x12 dq1), .lst k2 (DqAll.up x2 dq2), sh_prs fun q hq => ok2.nm q (pm1.mem_iff.mp hq), sh_prs fun q hq => ok.nm q (pm2.mem_iff.mp hq), ?_⟩
          have el : PyData.eqv (.list (t1.map pD)) (.list (t2.map pD)) = decide (t1 = t2) := by rw [PyData.eqv, eqv_prs]
          rw [el, ← same]
          have R19 := R1.up e129
          have hL3' := hL3.up x12
          obtain ⟨dx9, _, _, _, g1, _⟩ := id R19.hL
          obtain ⟨dz9, _, _, _, g3, _⟩ := id hL3'
          generalize hr : (decide (ns2 = ns3) && decide (ns2.map (bdOf ps) = ns3.map (bdOf qs3))) = rr
          have tb := twob_ok rr
          refine ⟨_, rfl, _, rfl, lx, dx9, _, .ref C, rfl, g1, IC.ty L.cl g3, IsC.nC, lx, ns2, _, .ref lz, rfl, S19, R19.hL, .inl ⟨lz, ns3, _, rfl, hL3', _, rfl, ?_⟩⟩
          rw [hr]
          refine ⟨_, rfl, _, rfl, lx, dx9, _, .ref C, rfl, g1, IC.ty L.cl g3, IsC.nC, lx, ns2, _, .ref lz, rfl, S19, R19.hL, .inl ⟨lz, ns3, _, rfl, hL3', _, rfl, ?_⟩⟩
          rw [hr]
          refine ⟨by show 2 ≤ sizeLine; decide, fun l1 hl1 => ⟨_, rfl, _, rfl, _, rfl, by show 2 ≤ sizeLine; decide, fun l2 hl2 => ?_⟩⟩
          have x3 := Ext.new (o := .lst [.bl rr, .bl (!rr)]) hl1
          have x4 := Ext.new (o := .lst [.bl rr, .bl (!rr)]) hl2
          refine ⟨.ref l1, .ref l2, .list [.bool rr, .bool (!rr)], rfl, sysUp S19 (x3.trans x4), .lst (x4 _ _ upd_same) (.cons (.bl _) (.cons (.bl _) .nil)), .lst upd_same (.cons (.bl _) (.cons (.bl _) .nil)), tb.1, tb.2, fun H20 e20 => ⟨_, rfl, ?_⟩⟩
          refine iteF ?_
          exact ⟨_, _, _, rfl, ((((e.trans e157).trans x12).trans x3).trans x4).trans e20⟩
        · rintro σ H' ⟨s12, s13, s14, rfl, e⟩
          exact hW _ _ ⟨_, _, _, rfl, e124.trans e⟩
      rintro σ' H13 ⟨s12, s13, s14, rfl, e13⟩
      have R1 := R1.up e13
      have hb13 := hb12.up e13
      have e113 := e112.trans e13
      clear hb12 hx12 hD12 hdb12 han12 S12 e112 e13
      -- one bound for all
      refine cutN (fun σ' H' => ∃ (tl : Addr) (ev : Int), σ' = [some (.ref a), some (.ref p), some (.int (0 + (i : Int))), some (.ref an0), some (.ref an), some (.ref db), v6, some (.ref D), some (.ref dh), some (.ref lx), some (.ref ly), s11, s12, s13, s14, some (.ref tl), some (.int ev), s17, s18, s19] ∧ Ext H13 H' ∧ H13 tl = none ∧ H' tl = some (.lst ((ps.map (·.1)).map V.str)) ∧ 1 ≤ ev ∧ ev ≤ 3) (fun W hW => ?_) ?_
      · refine ⟨_, rfl, an, _, rfl, .inl (SqL.of R1.han), fun tl htl => ?_⟩
        have x1 := Ext.new (o := .lst ((ps.map (·.1)).map V.str)) htl
        have k1 := upd_same (H := H13) (a := tl) (o := HO.lst ((ps.map (·.1)).map V.str))
        generalize upd H13 tl (.lst ((ps.map (·.1)).map V.str)) = H14 at x1 k1 ⊢
        refine ⟨_, rfl, an, _, rfl, .inl (SqL.of (x1 _ _ R1.han)), _, _, rfl, rfl, _, rfl, ?_⟩
        refine ite2 (fun _ => ?_) (fun _ => ?_)
        · exact ⟨_, _, rfl, hW _ _ ⟨tl, 1, rfl, x1, htl, k1, by decide, by decide⟩⟩
        · refine ⟨_, rfl, p, 3, rfl, hb13.up x1, by decide, by decide, fun r r0 r1 => ⟨_, _, rfl, rfl, _, _, rfl, hW _ _ ⟨tl, 1 + r, rfl, x1, htl, k1, by omega, by omega⟩⟩⟩
      rintro σ' H14 ⟨tl, ev, rfl, e14, ntl, htl, v1, v3⟩
      have R14 := R1.up e14
      have ynm : ∀ x ∈ ps.map (·.1), isNameS x = true := yok
      refine ⟨rfl, _, rfl, _, rfl, tl, ps.map (·.1), ev, rfl, .inl htl, ynm, ynd, yne, by omega, v1, fun lv nv H15 e15 hpv hsv hLv => ?_⟩
      refine ⟨_, rfl, .inl ⟨rfl, _, SqL.of (e15 _ _ htl)⟩, tl, _, _, rfl, rfl, e15 _ _ htl, Nat.lt_of_le_of_lt (show _ ≤ 3 by rw [mlp]; exact pl3) (by decide), ?_⟩
      have D3 := lanes_delL hLv (e15 _ _ htl)
      have x3 : Ext (del H15 tl) (upd H15 tl (.lst ((ps.map (·.1)).map V.str ++ [.str "zzzzzzzz"]))) := del_put
      have L3 := D3.up x3
      have e136 : Ext H13 (upd H15 tl (.lst ((ps.map (·.1)).map V.str ++ [.str "zzzzzzzz"]))) := (ext_to (e14.trans e15) ntl).trans x3
      generalize upd H15 tl (.lst ((ps.map (·.1)).map V.str ++ [.str "zzzzzzzz"])) = H16 at L3 e136 ⊢
      clear x3 D3 hLv e15 htl ntl e14 R14
      have R16 := R1.up e136
      intro de nde
      have e17 := Ext.new (o := .dK []) nde
      dsimp only [gName]
      refine cutN (fun σ' H' => ∃ v6, σ' = [some (.ref a), some (.ref p), some (.int (0 + (i : Int))), some (.ref an0), some (.ref an), some (.ref db), v6, some (.ref D), some (.ref dh), some (.ref lx), some (.ref ly), s11, s12, s13, s14, some (.ref tl), some (.int ev), some (.ref lv), some (.ref de), s19] ∧ Ext H16 H' ∧ H' de = some (.dK (kvI ((ps.map (·.1)).map fun x => (x, ev))))) (fun W hW => ?_) ?_
      · refine ⟨_, rfl, an, rfl, ⟨_, SqL.of (e17 _ _ R16.han)⟩, ?_⟩
        refine for_list (xs := (ps.map (·.1)).map V.str) (fun k σ H' => ∃ v6, σ = [some (.ref a), some (.ref p), some (.int (0 + (i : Int))), some (.ref an0), some (.ref an), some (.ref db), v6, some (.ref D), some (.ref dh), some (.ref lx), some (.ref ly), s11, s12, s13, s14, some (.ref tl), some (.int ev), some (.ref lv), some (.ref de), s19] ∧ Ext H16 H' ∧ H' de = some (.dK (kvI (((ps.map (·.1)).take k).map fun x => (x, ev)))))
          ⟨_, rfl, e17, upd_same⟩ (fun k σ H' _ ⟨_, _, e, _⟩ => SqL.of (e _ _ R16.han)) ?_ ?_
        · rintro k x σ H' hx ⟨v6, rfl, e, hd1⟩
          have hk : k < (ps.map (·.1)).length := by have := (List.getElem?_eq_some_iff.mp hx).1; rw [List.length_map] at this; exact this
          rw [List.getElem?_map, List.getElem?_eq_getElem hk] at hx
          cases hx
          have hni : (ps.map (·.1))[k] ∉ (((ps.map (·.1)).take k).map fun x => (x, ev)).map (·.1) := fun z => by
            have e3 : (((ps.map (·.1)).take k).map fun x => (x, ev)).map (·.1) = (ps.map (·.1)).take k := by
              rw [List.map_map]
              exact (List.map_congr_left fun _ _ => rfl).trans (List.map_id _)
            rw [e3] at z
            obtain ⟨j, hj, ej⟩ := List.getElem_of_mem z
            rw [List.length_take] at hj
            rw [List.getElem_take] at ej
            exact List.pairwise_iff_getElem.mp ynd j k (by omega) hk (by omega) ej
          refine ⟨_, rfl, _, rfl, _, rfl, de, _, rfl, DPut.k (k := Sum.inr (ps.map (fun q : Str × Int => q.1))[k]) hd1 (by unfold kvI; rw [List.length_map, List.length_map, List.length_take]; exact Nat.lt_of_le_of_lt (show _ ≤ 3 by rw [List.length_map]; omega) (by decide)), _, rfl, Ext.mut e nde, ?_⟩
          rw [upd_same, putK_new (kvI_none hni), List.take_add_one, List.getElem?_eq_getElem hk, Option.toList_some, List.map_append]
          unfold kvI
          rw [List.map_append]
          rfl
        · rintro σ H' ⟨v6, rfl, e, hd1⟩
          rw [List.length_map, List.take_length] at hd1
          exact hW _ _ ⟨_, rfl, e, hd1⟩
      rintro σ' H17 ⟨v6', rfl, e18, hde⟩
      -- level's Lanes
      have pk : ((ps.map (·.1)).map fun x => (x, ev)).map (·.1) = ps.map (·.1) := by
        rw [List.map_map]
        exact (List.map_congr_left fun _ _ => rfl).trans (List.map_id _)
      have lpe : ((ps.map (·.1)).map fun x => (x, ev)).length = ps.length := by rw [List.length_map, List.length_map]
      have okv : OkRow ((ps.map (·.1)).map fun x => (x, ev)) := by
        refine ⟨fun z => ?_, by rw [lpe]; omega, by rw [pk]; exact ynd, fun q hq => ?_, fun q hq => ?_⟩
        · have := congrArg List.length z
          rw [lpe] at this
          exact absurd this (by show ¬ _ = 0; omega)
        · obtain ⟨x, hx, rfl⟩ := List.mem_map.mp hq
          exact ynm x hx
        · obtain ⟨x, hx, rfl⟩ := List.mem_map.mp hq
          exact ⟨v1, v3⟩
      have R17 := R16.up e18
      have hL17 := L3.up e18
      have mk2 : ∀ {H' : Hp} {l : Addr} {n : List Str}, Ext H17 H' → n.Perm (ps.map (·.1)) → sortedS n = true → LanesAt C H' l n (n.map fun _ => ev) → Rt C H' l an de ((ps.map (·.1)).map fun x => (x, ev)) n := by
        intro H' l n e hp hs hL
        refine ⟨sysUp R17.sy e, ?_, by rw [pk]; exact e _ _ R17.han, e _ _ hde, by rw [pk]; exact hp, hs, okv, by rw [lpe]; exact pl3, by rw [pk]; exact yz⟩
        have eb : n.map (bdOf ((ps.map (·.1)).map fun x => (x, ev))) = n.map fun _ => ev := List.map_congr_left fun x hx => kv_level x (hp.mem_iff.mp hx)
        rw [eb]
        exact hL
      refine ⟨_, rfl, _, rfl, _, rfl, lv, an, de, _, nv, rfl, mk2 (Ext.refl _) hpv hsv hL17, fun H18 e19 => ⟨_, rfl, ?_⟩⟩
      refine iteF ?_
      refine ⟨rfl, _, rfl, an, _, rfl, .inl ⟨SqL.of (e19 _ _ R17.han), fun tp htp => ?_⟩⟩
      have e20 := Ext.new (o := .tup ((ps.map (·.1)).map V.str)) htp
      have k20 := upd_same (H := H18) (a := tp) (o := HO.tup ((ps.map (·.1)).map V.str))
      generalize upd H18 tp (.tup ((ps.map (·.1)).map V.str)) = H19 at e20 k20 ⊢
      refine ⟨_, rfl, tp, ps.map (·.1), ev, rfl, .inr k20, ynm, ynd, yne, by omega, v1, fun lw nw2 H20 e21 hpw hsw hLw => ?_⟩
      have e1720 := (e19.trans e20).trans e21
      refine ⟨_, rfl, _, rfl, lw, an, de, _, nw2, rfl, mk2 e1720 hpw hsw hLw, fun H21 e22 => ⟨_, rfl, ?_⟩⟩
      refine iteF ?_
      exact ⟨_, _, _, _, _, _, _, _, _, _, _, _, _, _, _, _, _, _, rfl, (((e113.trans e136).trans e18).trans e1720).trans e22⟩
    · rintro σ H' ⟨s2, s3, s4, s5, s6, s7, s8, s9, s10, s11, s12, s13, s14, s15, s16, s17, s18, s19, rfl, e⟩
      exact q _
end
end K12

set_option Elab.async false
set_option linter.all false
set_option maxRecDepth 100000
set_option maxHeartbeats 4000000
namespace K12
open PySem PySem.Spec PyProof.Rows L2 Ol
theorem all_mk {l : PySem.W.OpenLaw} {w : World} {K : PySem.W.Frag} {h : Heap} {mg : Str → Option Value} {fa C N B Wr : Addr} (X : K.In h) (G : h.Ns mainGlobals mg) (hfa : mg "law" = some (.ref fa))
    {f0 : Addr} {od0 an0 : Option Addr} {sl0 : Array (Option Value)} {oc0 kV0 dc0 pm0 cd0 ct0 : Value}
    (a0 : PySem.W.nsIn K mainGlobals "is_integer" = some (some (.ref f0)))
    (l0 : K.lookup f0 = some ⟨oc0, od0, .func (PySem.W.fnOf "is_integer" "is_integer" (defArgs s_is_integer) (defBody s_is_integer) (defScope s_is_integer) .none kV0 dc0 pm0 an0 cd0 ct0), sl0⟩)
    (c0 : PySem.W.codeIn K cd0 "is_integer" = true) (k0 : PySem.W.keepIn K (.ref f0) = true)
    {f1 : Addr} {od1 an1 : Option Addr} {sl1 : Array (Option Value)} {oc1 kV1 dc1 pm1 cd1 ct1 : Value}
    (a1 : PySem.W.nsIn K mainGlobals "is_name" = some (some (.ref f1)))
    (l1 : K.lookup f1 = some ⟨oc1, od1, .func (PySem.W.fnOf "is_name" "is_name" (defArgs s_is_name) (defBody s_is_name) (defScope s_is_name) .none kV1 dc1 pm1 an1 cd1 ct1), sl1⟩)
    (c1 : PySem.W.codeIn K cd1 "is_name" = true) (k1 : PySem.W.keepIn K (.ref f1) = true)
    {f2 : Addr} {od2 an2 : Option Addr} {sl2 : Array (Option Value)} {oc2 kV2 dc2 pm2 cd2 ct2 : Value}
    (a2 : PySem.W.nsIn K mainGlobals "is_row_of" = some (some (.ref f2)))
    (l2 : K.lookup f2 = some ⟨oc2, od2, .func (PySem.W.fnOf "is_row_of" "is_row_of" (defArgs s_row) (defBody s_row) (defScope s_row) .none kV2 dc2 pm2 an2 cd2 ct2), sl2⟩)
    (c2 : PySem.W.codeIn K cd2 "is_row_of" = true) (k2 : PySem.W.keepIn K (.ref f2) = true)
    {f3 : Addr} {od3 an3 : Option Addr} {sl3 : Array (Option Value)} {oc3 kV3 dc3 pm3 cd3 ct3 : Value}
    (a3 : PySem.W.nsIn K mainGlobals "is_bound" = some (some (.ref f3)))
    (l3 : K.lookup f3 = some ⟨oc3, od3, .func (PySem.W.fnOf "is_bound" "is_bound" (defArgs s_is_bound) (defBody s_is_bound) (defScope s_is_bound) .none kV3 dc3 pm3 an3 cd3 ct3), sl3⟩)
    (c3 : PySem.W.codeIn K cd3 "is_bound" = true) (k3 : PySem.W.keepIn K (.ref f3) = true)
    {f4 : Addr} {od4 an4 : Option Addr} {sl4 : Array (Option Value)} {oc4 kV4 dc4 pm4 cd4 ct4 : Value}
    (a4 : PySem.W.nsIn K mainGlobals "is_bounds" = some (some (.ref f4)))
    (l4 : K.lookup f4 = some ⟨oc4, od4, .func (PySem.W.fnOf "is_bounds" "is_bounds" (defArgs s_is_bounds) (defBody s_is_bounds) (defScope s_is_bounds) .none kV4 dc4 pm4 an4 cd4 ct4), sl4⟩)
    (c4 : PySem.W.codeIn K cd4 "is_bounds" = true) (k4 : PySem.W.keepIn K (.ref f4) = true)
    {f5 : Addr} {od5 an5 : Option Addr} {sl5 : Array (Option Value)} {oc5 kV5 dc5 pm5 cd5 ct5 : Value}
    (a5 : PySem.W.nsIn K mainGlobals "are_different_names" = some (some (.ref f5)))
    (l5 : K.lookup f5 = some ⟨oc5, od5, .func (PySem.W.fnOf "are_different_names" "are_different_names" (defArgs s_diff) (defBody s_diff) (defScope s_diff) .none kV5 dc5 pm5 an5 cd5 ct5), sl5⟩)
    (c5 : PySem.W.codeIn K cd5 "are_different_names" = true) (k5 : PySem.W.keepIn K (.ref f5) = true)
    {f6 : Addr} {od6 an6 : Option Addr} {sl6 : Array (Option Value)} {oc6 kV6 dc6 pm6 cd6 ct6 : Value}
    (a6 : PySem.W.nsIn K mainGlobals "_law_bag" = some (some (.ref f6)))
    (l6 : K.lookup f6 = some ⟨oc6, od6, .func (PySem.W.fnOf "_law_bag" "_law_bag" (defArgs s__law_bag) (defBody s__law_bag) (defScope s__law_bag) .none kV6 dc6 pm6 an6 cd6 ct6), sl6⟩)
    (c6 : PySem.W.codeIn K cd6 "_law_bag" = true) (k6 : PySem.W.keepIn K (.ref f6) = true)
    {f7 : Addr} {od7 an7 : Option Addr} {sl7 : Array (Option Value)} {oc7 kV7 dc7 pm7 cd7 ct7 : Value}
    (a7 : PySem.W.nsIn K mainGlobals "_law_take" = some (some (.ref f7)))
    (l7 : K.lookup f7 = some ⟨oc7, od7, .func (PySem.W.fnOf "_law_take" "_law_take" (defArgs s__law_take) (defBody s__law_take) (defScope s__law_take) .none kV7 dc7 pm7 an7 cd7 ct7), sl7⟩)
    (c7 : PySem.W.codeIn K cd7 "_law_take" = true) (k7 : PySem.W.keepIn K (.ref f7) = true)
    {f8 : Addr} {od8 an8 : Option Addr} {sl8 : Array (Option Value)} {oc8 kV8 dc8 pm8 cd8 ct8 : Value}
    (a8 : PySem.W.nsIn K mainGlobals "_law_alike" = some (some (.ref f8)))
    (l8 : K.lookup f8 = some ⟨oc8, od8, .func (PySem.W.fnOf "_law_alike" "_law_alike" (defArgs s__law_alike) (defBody s__law_alike) (defScope s__law_alike) .none kV8 dc8 pm8 an8 cd8 ct8), sl8⟩)
    (c8 : PySem.W.codeIn K cd8 "_law_alike" = true) (k8 : PySem.W.keepIn K (.ref f8) = true)
    {f9 : Addr} {od9 an9 : Option Addr} {sl9 : Array (Option Value)} {oc9 kV9 dc9 pm9 cd9 ct9 : Value}
    (a9 : PySem.W.nsIn K mainGlobals "_law_mixed" = some (some (.ref f9)))
    (l9 : K.lookup f9 = some ⟨oc9, od9, .func (PySem.W.fnOf "_law_mixed" "_law_mixed" (defArgs s_mixed) (defBody s_mixed) (defScope s_mixed) .none kV9 dc9 pm9 an9 cd9 ct9), sl9⟩)
    (c9 : PySem.W.codeIn K cd9 "_law_mixed" = true) (k9 : PySem.W.keepIn K (.ref f9) = true)
    {f10 : Addr} {od10 an10 : Option Addr} {sl10 : Array (Option Value)} {oc10 kV10 dc10 pm10 cd10 ct10 : Value}
    (a10 : PySem.W.nsIn K mainGlobals "_law_names" = some (some (.ref f10)))
    (l10 : K.lookup f10 = some ⟨oc10, od10, .func (PySem.W.fnOf "_law_names" "_law_names" (defArgs s__law_names) (defBody s__law_names) (defScope s__law_names) .none kV10 dc10 pm10 an10 cd10 ct10), sl10⟩)
    (c10 : PySem.W.codeIn K cd10 "_law_names" = true) (k10 : PySem.W.keepIn K (.ref f10) = true)
    {f11 : Addr} {od11 an11 : Option Addr} {sl11 : Array (Option Value)} {oc11 kV11 dc11 pm11 cd11 ct11 : Value}
    (a11 : PySem.W.nsIn K mainGlobals "_law_dict" = some (some (.ref f11)))
    (l11 : K.lookup f11 = some ⟨oc11, od11, .func (PySem.W.fnOf "_law_dict" "_law_dict" (defArgs s_dict) (defBody s_dict) (defScope s_dict) .none kV11 dc11 pm11 an11 cd11 ct11), sl11⟩)
    (c11 : PySem.W.codeIn K cd11 "_law_dict" = true) (k11 : PySem.W.keepIn K (.ref f11) = true)
    {f12 : Addr} {od12 an12 : Option Addr} {sl12 : Array (Option Value)} {oc12 kV12 dc12 pm12 cd12 ct12 : Value}
    (a12 : PySem.W.nsIn K mainGlobals "_law_others" = some (some (.ref f12)))
    (l12 : K.lookup f12 = some ⟨oc12, od12, .func (PySem.W.fnOf "_law_others" "_law_others" (defArgs s_others) (defBody s_others) (defScope s_others) .none kV12 dc12 pm12 an12 cd12 ct12), sl12⟩)
    (c12 : PySem.W.codeIn K cd12 "_law_others" = true) (k12 : PySem.W.keepIn K (.ref f12) = true)
    {f13 : Addr} {od13 an13 : Option Addr} {sl13 : Array (Option Value)} {oc13 kV13 dc13 pm13 cd13 ct13 : Value}
    (a13 : PySem.W.nsIn K mainGlobals "_law_small" = some (some (.ref f13)))
    (l13 : K.lookup f13 = some ⟨oc13, od13, .func (PySem.W.fnOf "_law_small" "_law_small" (defArgs s_small) (defBody s_small) (defScope s_small) .none kV13 dc13 pm13 an13 cd13 ct13), sl13⟩)
    (c13 : PySem.W.codeIn K cd13 "_law_small" = true) (k13 : PySem.W.keepIn K (.ref f13) = true)
    {f14 : Addr} {od14 an14 : Option Addr} {sl14 : Array (Option Value)} {oc14 kV14 dc14 pm14 cd14 ct14 : Value}
    (a14 : PySem.W.nsIn K mainGlobals "_law_unknown" = some (some (.ref f14)))
    (l14 : K.lookup f14 = some ⟨oc14, od14, .func (PySem.W.fnOf "_law_unknown" "_law_unknown" (defArgs s_unknown) (defBody s_unknown) (defScope s_unknown) .none kV14 dc14 pm14 an14 cd14 ct14), sl14⟩)
    (c14 : PySem.W.codeIn K cd14 "_law_unknown" = true) (k14 : PySem.W.keepIn K (.ref f14) = true)
    {f15 : Addr} {od15 an15 : Option Addr} {sl15 : Array (Option Value)} {oc15 kV15 dc15 pm15 cd15 ct15 : Value}
    (a15 : PySem.W.nsIn K mainGlobals "_law_right" = some (some (.ref f15)))
    (l15 : K.lookup f15 = some ⟨oc15, od15, .func (PySem.W.fnOf "_law_right" "_law_right" (defArgs s_right) (defBody s_right) (defScope s_right) .none kV15 dc15 pm15 an15 cd15 ct15), sl15⟩)
    (c15 : PySem.W.codeIn K cd15 "_law_right" = true) (k15 : PySem.W.keepIn K (.ref f15) = true)
    {f16 : Addr} {od16 an16 : Option Addr} {sl16 : Array (Option Value)} {oc16 kV16 dc16 pm16 cd16 ct16 : Value}
    (a16 : PySem.W.nsIn K mainGlobals "law" = some (some (.ref f16)))
    (l16 : K.lookup f16 = some ⟨oc16, od16, .func (PySem.W.fnOf "law" "law" (defArgs s_law) (defBody s_law) (defScope s_law) .none kV16 dc16 pm16 an16 cd16 ct16), sl16⟩)
    (c16 : PySem.W.codeIn K cd16 "law" = true) (k16 : PySem.W.keepIn K (.ref f16) = true)
    (aC : PySem.W.nsIn K mainGlobals "Lanes" = some (some (.ref C))) (aN : PySem.W.nsIn K mainGlobals "NoLane" = some (some (.ref N))) (aB : PySem.W.nsIn K mainGlobals "LaneError" = some (some (.ref B))) (aWr : PySem.W.nsIn K mainGlobals "Wrong" = some (some (.ref Wr)))
    {fm0 : Addr} {odm0 anm0 : Option Addr} {slm0 : Array (Option Value)} {ocm0 kVm0 dcm0 pmm0 cdm0 ctm0 : Value}
    (am0 : PySem.W.findIn K (.ref C) "__init__" = some (some (.ref fm0)))
    (im0 : PySem.W.isFn K (.ref fm0) = true)
    (lm0 : K.lookup fm0 = some ⟨ocm0, odm0, .func (PySem.W.fnOf "__init__" "Lanes.__init__" (defArgs (cL 0)) (defBody (cL 0)) (defScope (cL 0)) .none kVm0 dcm0 pmm0 anm0 cdm0 ctm0), slm0⟩)
    (cm0 : PySem.W.codeIn K cdm0 "Lanes.__init__" = true) (km0 : PySem.W.keepIn K (.ref fm0) = true)
    {fm1 : Addr} {odm1 anm1 : Option Addr} {slm1 : Array (Option Value)} {ocm1 kVm1 dcm1 pmm1 cdm1 ctm1 : Value}
    (am1 : PySem.W.findIn K (.ref C) "__eq__" = some (some (.ref fm1)))
    (im1 : PySem.W.isFn K (.ref fm1) = true)
    (lm1 : K.lookup fm1 = some ⟨ocm1, odm1, .func (PySem.W.fnOf "__eq__" "Lanes.__eq__" (defArgs (cL 2)) (defBody (cL 2)) (defScope (cL 2)) .none kVm1 dcm1 pmm1 anm1 cdm1 ctm1), slm1⟩)
    (cm1 : PySem.W.codeIn K cdm1 "Lanes.__eq__" = true) (km1 : PySem.W.keepIn K (.ref fm1) = true)
    {fm2 : Addr} {odm2 anm2 : Option Addr} {slm2 : Array (Option Value)} {ocm2 kVm2 dcm2 pmm2 cdm2 ctm2 : Value}
    (am2 : PySem.W.findIn K (.ref C) "__len__" = some (some (.ref fm2)))
    (im2 : PySem.W.isFn K (.ref fm2) = true)
    (lm2 : K.lookup fm2 = some ⟨ocm2, odm2, .func (PySem.W.fnOf "__len__" "Lanes.__len__" (defArgs (cL 3)) (defBody (cL 3)) (defScope (cL 3)) .none kVm2 dcm2 pmm2 anm2 cdm2 ctm2), slm2⟩)
    (cm2 : PySem.W.codeIn K cdm2 "Lanes.__len__" = true) (km2 : PySem.W.keepIn K (.ref fm2) = true)
    {fm3 : Addr} {odm3 anm3 : Option Addr} {slm3 : Array (Option Value)} {ocm3 kVm3 dcm3 pmm3 cdm3 ctm3 : Value}
    (am3 : PySem.W.findIn K (.ref C) "__contains__" = some (some (.ref fm3)))
    (im3 : PySem.W.isFn K (.ref fm3) = true)
    (lm3 : K.lookup fm3 = some ⟨ocm3, odm3, .func (PySem.W.fnOf "__contains__" "Lanes.__contains__" (defArgs (cL 4)) (defBody (cL 4)) (defScope (cL 4)) .none kVm3 dcm3 pmm3 anm3 cdm3 ctm3), slm3⟩)
    (cm3 : PySem.W.codeIn K cdm3 "Lanes.__contains__" = true) (km3 : PySem.W.keepIn K (.ref fm3) = true)
    {fm4 : Addr} {odm4 anm4 : Option Addr} {slm4 : Array (Option Value)} {ocm4 kVm4 dcm4 pmm4 cdm4 ctm4 : Value}
    (am4 : PySem.W.findIn K (.ref C) "_spot" = some (some (.ref fm4)))
    (im4 : PySem.W.isFn K (.ref fm4) = true)
    (lm4 : K.lookup fm4 = some ⟨ocm4, odm4, .func (PySem.W.fnOf "_spot" "Lanes._spot" (defArgs (cL 7)) (defBody (cL 7)) (defScope (cL 7)) .none kVm4 dcm4 pmm4 anm4 cdm4 ctm4), slm4⟩)
    (cm4 : PySem.W.codeIn K cdm4 "Lanes._spot" = true) (km4 : PySem.W.keepIn K (.ref fm4) = true)
    {fm5 : Addr} {odm5 anm5 : Option Addr} {slm5 : Array (Option Value)} {ocm5 kVm5 dcm5 pmm5 cdm5 ctm5 : Value}
    (am5 : PySem.W.findIn K (.ref C) "bound" = some (some (.ref fm5)))
    (im5 : PySem.W.isFn K (.ref fm5) = true)
    (lm5 : K.lookup fm5 = some ⟨ocm5, odm5, .func (PySem.W.fnOf "bound" "Lanes.bound" (defArgs (cL 9)) (defBody (cL 9)) (defScope (cL 9)) .none kVm5 dcm5 pmm5 anm5 cdm5 ctm5), slm5⟩)
    (cm5 : PySem.W.codeIn K cdm5 "Lanes.bound" = true) (km5 : PySem.W.keepIn K (.ref fm5) = true)
    {fm6 : Addr} {odm6 anm6 : Option Addr} {slm6 : Array (Option Value)} {ocm6 kVm6 dcm6 pmm6 cdm6 ctm6 : Value}
    (am6 : PySem.W.findIn K (.ref N) "__init__" = some (some (.ref fm6)))
    (im6 : PySem.W.typeIn K (.ref fm6) = some (.type "function"))
    (lm6 : K.lookup fm6 = some ⟨ocm6, odm6, .func (PySem.W.fnOf "__init__" "NoLane.__init__" (defArgs s_noInit) (defBody s_noInit) (defScope s_noInit) .none kVm6 dcm6 pmm6 anm6 cdm6 ctm6), slm6⟩)
    (cm6 : PySem.W.codeIn K cdm6 "NoLane.__init__" = true) (km6 : PySem.W.keepIn K (.ref fm6) = true)
    {pU : Addr} {restU : List Value} {fpU : Addr} {odpU anpU : Option Addr} {slpU : Array (Option Value)} {ocpU kVpU dcpU pmpU cdpU ctpU : Value}
    (aFU : PySem.W.findIn K (.ref C) "names" = some (some (.ref pU))) (gFU : PySem.W.specialIn K (.ref pU) "__get__" = some (some (.builtin "property.__get__"))) (tFU : PySem.W.takesIn K (.ref pU) = some true) (rFU : PySem.W.recIn K pU "property" = some (.ref fpU :: restU))
    (lpU : K.lookup fpU = some ⟨ocpU, odpU, .func (PySem.W.fnOf "names" "Lanes.names" (defArgs (cL 5)) (defBody (cL 5)) (defScope (cL 5)) .none kVpU dcpU pmpU anpU cdpU ctpU), slpU⟩)
    (cpU : PySem.W.codeIn K cdpU "Lanes.names" = true) (kpU : PySem.W.keepIn K (.ref fpU) = true)
    {pF : Addr} {restF : List Value} {fpF : Addr} {odpF anpF : Option Addr} {slpF : Array (Option Value)} {ocpF kVpF dcpF pmpF cdpF ctpF : Value}
    (aFF : PySem.W.findIn K (.ref C) "first" = some (some (.ref pF))) (gFF : PySem.W.specialIn K (.ref pF) "__get__" = some (some (.builtin "property.__get__"))) (tFF : PySem.W.takesIn K (.ref pF) = some true) (rFF : PySem.W.recIn K pF "property" = some (.ref fpF :: restF))
    (lpF : K.lookup fpF = some ⟨ocpF, odpF, .func (PySem.W.fnOf "first" "Lanes.first" (defArgs (cL 6)) (defBody (cL 6)) (defScope (cL 6)) .none kVpF dcpF pmpF anpF cdpF ctpF), slpF⟩)
    (cpF : PySem.W.codeIn K cdpF "Lanes.first" = true) (kpF : PySem.W.keepIn K (.ref fpF) = true)
    (pg : PySem.W.plainGet K C Str.empty = true) (hd : PySem.W.hasDictIn K C = true) (po : PySem.W.plainOver K C = true) (sa : PySem.W.findIn K (.ref C) "__setattr__" = some (some (.builtin "object.__setattr__"))) (mk : PySem.W.makesIn K C = true) (kc : PySem.W.keepIn K (.ref C) = true)
    (nN : PySem.W.findIn K (.ref C) "_names" = some none) (nB : PySem.W.findIn K (.ref C) "_bounds" = some none) (nS : PySem.W.findIn K (.ref C) "_spots" = some none)
    (iCa : PySem.W.findIn K (.ref C) "__class__" = some (some (.builtin "object.__class__"))) (iCm : PySem.W.mroIn K C (.type "object") = some true) (iCs : PySem.W.kitOne K (.ref C) (.type "str") = some false) (iCc : PySem.W.kitOne K (.ref C) (.ref C) = some true) (iCd : PySem.W.kitOne K (.type "dict") (.ref C) = some false) (iCn : PySem.W.kitOne K (.type "NoneType") (.ref C) = some false)
    (iNd : PySem.W.notFirst K C (.type "dict") = true) (iNn : PySem.W.notFirst K C (.type "NoneType") = true) (iNe : PySem.W.findIn K (.ref C) "__ne__" = some (some (.builtin "object.__ne__"))) (iOb : PySem.W.subIn K (.ref C) (.type "object") = some true)
    {pV : Addr} {restV : List Value} {fV : Addr} {odV anV : Option Addr} {slV : Array (Option Value)} {ocV kVV dcV pmV cdV ctV : Value}
    (rdC : PySem.W.readsIn K C (.type "type") = true) (gaC : PySem.W.specialIn K (.ref C) "__getattribute__" = some (some (.builtin "type.__getattribute__"))) (aV : PySem.W.findCls K (.ref C) (.type "type") "level" = some (.get (.builtin "classmethod.__get__") (.ref pV) .none (.ref C))) (rcV : PySem.W.recIn K pV "classmethod" = some (.ref fV :: restV)) (fiV : PySem.W.fnIn K fV = true)
    (lV : K.lookup fV = some ⟨ocV, odV, .func (PySem.W.fnOf "level" "Lanes.level" (defArgs (cL 1)) (defBody (cL 1)) (defScope (cL 1)) .none kVV dcV pmV anV cdV ctV), slV⟩)
    (cV : PySem.W.codeIn K cdV "Lanes.level" = true) (kV : PySem.W.keepIn K (.ref fV) = true)
    {nmN qN : Str} {NN : Addr} {bsN bmN : List Value} {snN : List Str} {subN : List Value} {abN : Bool} {colN : Option Bool} {ddN : Option Addr} {m0N m1N m2N m3N m5N : Option Value}
    (xN : K.lookup N = some (excClassObj nmN qN N NN bsN bmN true snN subN abN colN ddN m0N m1N m2N m3N m5N "ValueError.__new__")) (vN : PySem.HandSPX.refsVE bmN = true)
    (saN : PySem.W.findIn K (.ref N) "__setattr__" = some (some (.builtin "object.__setattr__"))) (exN : PySem.W.subIn K (.ref N) (.type "BaseException") = some true) (tyN : PySem.W.typeIn K (.ref N) = some (.type "type")) (kN : PySem.W.keepIn K (.ref N) = true)
    (gaN : PySem.W.findIn K (.ref N) "__getattribute__" = some (some (.builtin "BaseException.__getattribute__"))) (ggN : PySem.W.findIn K (.ref N) "__getattr__" = some none) (hdN : PySem.W.hasDictIn K N = true)
    (clN : PySem.W.findIn K (.ref N) "__class__" = some (some (.builtin "object.__class__"))) (moN : PySem.W.mroIn K N (.type "object") = some true) (iN : PySem.W.isClsIn K N = true) (sN : PySem.W.subIn K (.ref N) (.ref N) = some true) (sBN : PySem.W.subIn K (.ref N) (.ref B) = some true)
    (nLN : PySem.W.findIn K (.ref N) "lane" = some none)
    (exB : PySem.W.subIn K (.ref B) (.type "BaseException") = some true) (hdB : PySem.W.hasDictIn K B = true) (tyB : PySem.W.typeIn K (.ref B) = some (.type "type"))
    (ocg : PySem.W.specialIn K (.builtin "object.__class__") "__get__" = some (some (.builtin "getset_descriptor.__get__"))) (oct : PySem.W.takesIn K (.builtin "object.__class__") = some true)
    (kNN : PySem.W.kitOne K (.ref N) (.ref N) = some true) (kNW : PySem.W.kitOne K (.ref N) (.ref Wr) = some false)
    {tl0 tn0 : Tok} (gLet : PySem.W.nsIn K mainGlobals "LETTERS" = some (some (.str abc tl0))) (gLong : PySem.W.nsIn K mainGlobals "LONGEST" = some (some (.int 8 tn0)))
    (z_len : PySem.W.nsIn K mainGlobals "len" = some none)
    (z_int : PySem.W.nsIn K mainGlobals "int" = some none)
    (z_abs : PySem.W.nsIn K mainGlobals "abs" = some none)
    (z_range : PySem.W.nsIn K mainGlobals "range" = some none)
    (z_repr : PySem.W.nsIn K mainGlobals "repr" = some none)
    (z_isinstance : PySem.W.nsIn K mainGlobals "isinstance" = some none)
    (z_all : PySem.W.nsIn K mainGlobals "all" = some none)
    (z_tuple : PySem.W.nsIn K mainGlobals "tuple" = some none)
    (z_list : PySem.W.nsIn K mainGlobals "list" = some none)
    (z_str : PySem.W.nsIn K mainGlobals "str" = some none)
    (z_bool : PySem.W.nsIn K mainGlobals "bool" = some none)
    (z_dict : PySem.W.nsIn K mainGlobals "dict" = some none)
    (z_sorted : PySem.W.nsIn K mainGlobals "sorted" = some none)
    (z_enumerate : PySem.W.nsIn K mainGlobals "enumerate" = some none)
    (z_zip : PySem.W.nsIn K mainGlobals "zip" = some none)
    (z_set : PySem.W.nsIn K mainGlobals "set" = some none)
    : ∃ fd : FuncData, (∀ (s : Shared) (v : Value), BindsTo s fd ⟨[v], []⟩ [("_law_script", v)]) ∧ ∀ base : Heap, K.In base → base.Ns mainGlobals mg → FnG l.prog w K mg base 8 fa fd ["_law_script"] (spLaw K) := by
  have e := hfa.symm.trans (PySem.W.mg_of X G a16)
  cases e
  have F0 := fun_mk (st := s_is_integer) l0 c0 k0
  have b0 := F0.binds (ps := ["thing"]) fun _ _ _ _ _ _ us hl => match us, hl with | [_], _ => rfl
  have g0 := PySem.W.mg_of X G a0
  have F1 := fun_mk (st := s_is_name) l1 c1 k1
  have b1 := F1.binds (ps := ["thing"]) fun _ _ _ _ _ _ us hl => match us, hl with | [_], _ => rfl
  have g1 := PySem.W.mg_of X G a1
  have F2 := fun_mk (st := s_row) l2 c2 k2
  have b2 := F2.binds (ps := ["thing", "is_part"]) fun _ _ _ _ _ _ us hl => match us, hl with | [_, _], _ => rfl
  have g2 := PySem.W.mg_of X G a2
  have F3 := fun_mk (st := s_is_bound) l3 c3 k3
  have b3 := F3.binds (ps := ["thing"]) fun _ _ _ _ _ _ us hl => match us, hl with | [_], _ => rfl
  have g3 := PySem.W.mg_of X G a3
  have F4 := fun_mk (st := s_is_bounds) l4 c4 k4
  have b4 := F4.binds (ps := ["thing"]) fun _ _ _ _ _ _ us hl => match us, hl with | [_], _ => rfl
  have g4 := PySem.W.mg_of X G a4
  have F5 := fun_mk (st := s_diff) l5 c5 k5
  have b5 := F5.binds (ps := ["thing"]) fun _ _ _ _ _ _ us hl => match us, hl with | [_], _ => rfl
  have g5 := PySem.W.mg_of X G a5
  have F6 := fun_mk (st := s__law_bag) l6 c6 k6
  have b6 := F6.binds (ps := ["_law_script"]) fun _ _ _ _ _ _ us hl => match us, hl with | [_], _ => rfl
  have g6 := PySem.W.mg_of X G a6
  have F7 := fun_mk (st := s__law_take) l7 c7 k7
  have b7 := F7.binds (ps := ["_law_bag_here", "_law_many"]) fun _ _ _ _ _ _ us hl => match us, hl with | [_, _], _ => rfl
  have g7 := PySem.W.mg_of X G a7
  have F8 := fun_mk (st := s__law_alike) l8 c8 k8
  have b8 := F8.binds (ps := ["_law_found", "_law_due"]) fun _ _ _ _ _ _ us hl => match us, hl with | [_, _], _ => rfl
  have g8 := PySem.W.mg_of X G a8
  have F9 := fun_mk (st := s_mixed) l9 c9 k9
  have b9 := F9.binds (ps := ["_law_bag_here", "_law_things"]) fun _ _ _ _ _ _ us hl => match us, hl with | [_, _], _ => rfl
  have g9 := PySem.W.mg_of X G a9
  have F10 := fun_mk (st := s__law_names) l10 c10 k10
  have b10 := F10.binds (ps := ["_law_bag_here", "_law_many"]) fun _ _ _ _ _ _ us hl => match us, hl with | [_, _], _ => rfl
  have g10 := PySem.W.mg_of X G a10
  have F11 := fun_mk (st := s_dict) l11 c11 k11
  have b11 := F11.binds (ps := ["_law_bag_here", "_law_pairs"]) fun _ _ _ _ _ _ us hl => match us, hl with | [_, _], _ => rfl
  have g11 := PySem.W.mg_of X G a11
  have F12 := fun_mk (st := s_others) l12 c12 k12
  have b12 := F12.binds (ps := ["_law_bag_here", "_law_names_here", "_law_bounds"]) fun _ _ _ _ _ _ us hl => match us, hl with | [_, _, _], _ => rfl
  have g12 := PySem.W.mg_of X G a12
  have F13 := fun_mk (st := s_small) l13 c13 k13
  have b13 := F13.binds (ps := ["_law_pairs"]) fun _ _ _ _ _ _ us hl => match us, hl with | [_], _ => rfl
  have g13 := PySem.W.mg_of X G a13
  have F14 := fun_mk (st := s_unknown) l14 c14 k14
  have b14 := F14.binds (ps := ["_law_lanes", "_law_name"]) fun _ _ _ _ _ _ us hl => match us, hl with | [_, _], _ => rfl
  have g14 := PySem.W.mg_of X G a14
  have F15 := fun_mk (st := s_right) l15 c15 k15
  have b15 := F15.binds (ps := ["_law_lanes", "_law_names_here", "_law_bounds"]) fun _ _ _ _ _ _ us hl => match us, hl with | [_, _, _], _ => rfl
  have g15 := PySem.W.mg_of X G a15
  have F16 := fun_mk (st := s_law) l16 c16 k16
  have Fm0 := fun_mk (st := (cL 0)) lm0 cm0 km0
  have bm0 := Fm0.binds (ps := ["self", "bounds"]) fun _ _ _ _ _ _ us hl => match us, hl with | [_, _], _ => rfl
  have Fm1 := fun_mk (st := (cL 2)) lm1 cm1 km1
  have bm1 := Fm1.binds (ps := ["self", "other"]) fun _ _ _ _ _ _ us hl => match us, hl with | [_, _], _ => rfl
  have Fm2 := fun_mk (st := (cL 3)) lm2 cm2 km2
  have bm2 := Fm2.binds (ps := ["self"]) fun _ _ _ _ _ _ us hl => match us, hl with | [_], _ => rfl
  have Fm3 := fun_mk (st := (cL 4)) lm3 cm3 km3
  have bm3 := Fm3.binds (ps := ["self", "thing"]) fun _ _ _ _ _ _ us hl => match us, hl with | [_, _], _ => rfl
  have Fm4 := fun_mk (st := (cL 7)) lm4 cm4 km4
  have bm4 := Fm4.binds (ps := ["self", "lane"]) fun _ _ _ _ _ _ us hl => match us, hl with | [_, _], _ => rfl
  have Fm5 := fun_mk (st := (cL 9)) lm5 cm5 km5
  have bm5 := Fm5.binds (ps := ["self", "lane"]) fun _ _ _ _ _ _ us hl => match us, hl with | [_, _], _ => rfl
  have Fm6 := fun_mk (st := s_noInit) lm6 cm6 km6
  have bm6 := Fm6.binds (ps := ["self", "lane"]) fun _ _ _ _ _ _ us hl => match us, hl with | [_, _], _ => rfl
  have FmV := fun_mk (st := (cL 1)) lV cV kV
  have bmV := FmV.binds (ps := ["cls", "names", "bound"]) fun _ _ _ _ _ _ us hl => match us, hl with | [_, _, _], _ => rfl
  have FpU := fun_mk (st := (cL 5)) lpU cpU kpU
  have bpU := FpU.binds (ps := ["self"]) fun _ _ _ _ _ _ us hl => match us, hl with | [_], _ => rfl
  have FpF := fun_mk (st := (cL 6)) lpF cpF kpF
  have bpF := FpF.binds (ps := ["self"]) fun _ _ _ _ _ _ us hl => match us, hl with | [_], _ => rfl
  have T : BT mg := ⟨PySem.W.mg_none_of X G z_len, PySem.W.mg_none_of X G z_int, PySem.W.mg_none_of X G z_abs, PySem.W.mg_none_of X G z_range, PySem.W.mg_none_of X G z_repr, PySem.W.mg_none_of X G z_isinstance, PySem.W.mg_none_of X G z_all, PySem.W.mg_none_of X G z_tuple, PySem.W.mg_none_of X G z_list, PySem.W.mg_none_of X G z_str, PySem.W.mg_none_of X G z_bool, PySem.W.mg_none_of X G z_dict, PySem.W.mg_none_of X G z_sorted⟩
  have L : LT K mg C := ⟨⟨pg, hd, po, sa⟩, nN, nB, nS, PySem.W.mg_of X G aC, PySem.W.mg_none_of X G z_enumerate, PySem.W.mg_none_of X G z_zip⟩
  have IC : IsC K C := ⟨iCa, ocg, oct, iCm, iCs, iCc, iCd, iCn, iNd, iNn⟩
  have NC : NeC K C := ⟨iNe, iOb⟩
  have TN : NT K mg N := ⟨PySem.W.mg_of X G aN, ⟨⟨_, _, _, _, _, _, _, _, _, _, _, _, _, _, _, xN, vN⟩, saN, exN, tyN, kN⟩, ⟨gaN, ggN, exN, hdN⟩, nLN, exm_same exN iN tyN sN⟩
  have TE : ET K mg N Wr := ⟨⟨B, PySem.W.mg_of X G aB, PySem.W.exm_ref exB hdB tyB sBN⟩, ⟨gaN, ggN, exN, hdN, clN, ocg, oct, moN⟩, PySem.W.mg_of X G aWr, kNN, kNW⟩
  refine ⟨PySem.W.fnOf "law" "law" (defArgs s_law) (defBody s_law) (defScope s_law) .none kV16 dc16 pm16 an16 cd16 ct16, fun s v => .of_eq rfl, fun base _ _ => ?_⟩
  have C1 : Ca l.prog w K mg base 1 "is_integer" ["thing"] (spPred Any isIntD) := ⟨_, _, ok_is_integer F0 T, g0, k0, b0⟩
  have okN := ok_is_name (P := l.prog) (w := w) (base := base) F1 T (PySem.W.mg_of X G gLet) (PySem.W.mg_of X G gLong)
  have C3 : Ca l.prog w K mg base 1 "is_name" ["thing"] (spPred Ok1 isNameD) := ⟨_, _, okN, g1, k1, b1⟩
  have C3O : Ca l.prog w K mg base 1 "is_name" ["thing"] (spNameO C) := ⟨_, _, ok_is_nameO F1 T (PySem.W.mg_of X G gLet) (PySem.W.mg_of X G gLong) IC L.cl, g1, k1, b1⟩
  have CRw : Ca l.prog w K mg base 2 "is_row_of" ["thing", "is_part"] (spRowN f1) := ⟨_, _, ok_row F2 T okN k1 b1, g2, k2, b2⟩
  have C4 : Ca l.prog w K mg base 2 "is_bound" ["thing"] (spPred Any isBoundD) := ⟨_, _, ok_is_bound F3 C1, g3, k3, b3⟩
  have C5 : Ca l.prog w K mg base 3 "is_bounds" ["thing"] spIsBounds := ⟨_, _, ok_is_bounds F4 T C3 C4, g4, k4, b4⟩
  have CDf : Ca l.prog w K mg base 3 "are_different_names" ["thing"] spDiff := ⟨_, _, ok_diff F5 T (PySem.W.mg_none_of X G z_set) g1 CRw, g5, k5, b5⟩
  have CB : Ca l.prog w K mg base 1 "_law_bag" ["_law_script"] (spBag K) := ⟨_, _, hideBag (ok_bag F6 T), g6, k6, b6⟩
  have CT : Ca l.prog w K mg base 1 "_law_take" ["_law_bag_here", "_law_many"] spTake := ⟨_, _, hide (ok_take F7 T), g7, k7, b7⟩
  have CA : Cg l.prog w K mg base 1 "_law_alike" ["_law_found", "_law_due"] spAlike := ⟨_, _, ok_alike F8 T, g8, k8, b8⟩
  have CM : Ca l.prog w K mg base 2 "_law_mixed" ["_law_bag_here", "_law_things"] spMixed := ⟨_, _, ok_mixed F9 T CT, g9, k9, b9⟩
  have CN : Ca l.prog w K mg base 2 "_law_names" ["_law_bag_here", "_law_many"] spNames := ⟨_, _, ok_names F10 T CT, g10, k10, b10⟩
  have CDi : Ca l.prog w K mg base 3 "_law_dict" ["_law_bag_here", "_law_pairs"] spDict := ⟨_, _, ok_dict F11 T CM, g11, k11, b11⟩
  have COt : Ca l.prog w K mg base 2 "_law_others" ["_law_bag_here", "_law_names_here", "_law_bounds"] spOthers := ⟨_, _, ok_others F12 T CT, g12, k12, b12⟩
  have CSm : Ca l.prog w K mg base 1 "_law_small" ["_law_pairs"] spSmall := ⟨_, _, ok_small F13, g13, k13, b13⟩
  have ML : MkL l.prog w K mg base C := ⟨_, _, ok_init Fm0 T L C5, ⟨mk, am0, im0, kc⟩, bm0⟩
  have ME : Cm l.prog w K mg base C 1 "__eq__" ["self", "other"] (spEqL K C) := ⟨_, _, ok_eq Fm1 T L IC, ⟨am1, im1, km1⟩, bm1⟩
  have MLn : Cm l.prog w K mg base C 1 "__len__" ["self"] (spLenL C) := ⟨_, _, ok_len Fm2 T L, ⟨am2, im2, km2⟩, bm2⟩
  have MH : Cm l.prog w K mg base C 2 "__contains__" ["self", "thing"] (spHas C) := ⟨_, _, ok_has Fm3 T L, ⟨am3, im3, km3⟩, bm3⟩
  have MHA : Cm l.prog w K mg base C 2 "__contains__" ["self", "thing"] (spHasA C) := ⟨_, _, fn_or (ok_has Fm3 T L) (ok_hasO Fm3 T L IC L.cl), ⟨am3, im3, km3⟩, bm3⟩
  have NIh : NI l.prog w K mg base N := ⟨_, _, ok_noI Fm6 TN, am6, im6, bm6⟩
  have MSp : Cm l.prog w K mg base C 3 "_spot" ["self", "lane"] (spSpot C) := ⟨_, _, ok_spot Fm4 L MH, ⟨am4, im4, km4⟩, bm4⟩
  have MSX : CmX l.prog w K mg base C 3 "_spot" ["self", "lane"] (spSpotX C N) := ⟨_, _, ok_spotX Fm4 L TN NIh MH, ⟨am4, im4, km4⟩, bm4⟩
  have MBd : Cm l.prog w K mg base C 4 "bound" ["self", "lane"] (spBound C) := ⟨_, _, ok_bound Fm5 L MSp, ⟨am5, im5, km5⟩, bm5⟩
  have MBX : CmX l.prog w K mg base C 4 "bound" ["self", "lane"] (spBoundX C N) := ⟨_, _, ok_boundX Fm5 L MSX, ⟨am5, im5, km5⟩, bm5⟩
  have PN : Pr l.prog w K mg base C "names" (spNamesL C) := ⟨pU, fpU, _, ok_namesL FpU L, ⟨aFU, gFU, tFU, ⟨_, rFU⟩⟩, bpU⟩
  have PF : Pr l.prog w K mg base C "first" (spFirst C) := ⟨pF, fpF, _, ok_first FpF T L, ⟨aFF, gFF, tFF, ⟨_, rFF⟩⟩, bpF⟩
  have LV : LvM l.prog w K mg base C := ⟨fV, pV, .type "type", _, ok_level FmV T CDf C4 ML, ⟨rdC, gaC⟩, ⟨aV, ⟨_, rcV⟩, fiV⟩, bmV⟩
  have CU : Ca l.prog w K mg base 5 "_law_unknown" ["_law_lanes", "_law_name"] (spUnknown C) := ⟨_, _, ok_unknown F14 T L TN TE MBX, g14, k14, b14⟩
  have CR : Cg l.prog w K mg base 6 "_law_right" ["_law_lanes", "_law_names_here", "_law_bounds"] (spRight C) := ⟨_, _, ok_right F15 T L IC CA CU PN PF MLn MHA MBd, g15, k15, b15⟩
  exact ok_law F16 T L IC NC CB CT CN CDi COt CSm CR CA ML LV ME
end K12
open PySem PySem.W PyProof.Rows
set_option maxRecDepth 100000 in
set_option maxHeartbeats 0 in
theorem PySem.Challenge.cw_openlanes_k12_lanes_told_holds : PySem.Challenge.rw_openlanes_k12_lanes_told.Holds := by
  w_on; o_law; k_head; (case hw => w_witness2)
  k_fill
  refine Ol.walkG (l := PySem.Challenge.rw_openlanes_k12_lanes_told) (n := 63) (k := 8) (x := "_law_script") (sp := fun w => K12.spLaw _) rfl (by rfl) (by decide) rfl ⟨rfl, by decide, by decide⟩ (fun w h Y => PySem.W.kIn_of Y) (fun w => by rfl) ?F (fun w H a ns hl hS hL => ⟨a, ns, rfl, hS, hL, hl, fun _ => rfl⟩)
  case F =>
    intro w mg fa h KX G hmg
    refine' K12.all_mk KX G hmg ?a0 ?l0 ?c0 ?k0 ?a1 ?l1 ?c1 ?k1 ?a2 ?l2 ?c2 ?k2 ?a3 ?l3 ?c3 ?k3 ?a4 ?l4 ?c4 ?k4 ?a5 ?l5 ?c5 ?k5 ?a6 ?l6 ?c6 ?k6 ?a7 ?l7 ?c7 ?k7 ?a8 ?l8 ?c8 ?k8 ?a9 ?l9 ?c9 ?k9 ?a10 ?l10 ?c10 ?k10 ?a11 ?l11 ?c11 ?k11 ?a12 ?l12 ?c12 ?k12 ?a13 ?l13 ?c13 ?k13 ?a14 ?l14 ?c14 ?k14 ?a15 ?l15 ?c15 ?k15 ?a16 ?l16 ?c16 ?k16 ?aC ?aN ?aB ?aWr ?am0 ?im0 ?lm0 ?cm0 ?km0 ?am1 ?im1 ?lm1 ?cm1 ?km1 ?am2 ?im2 ?lm2 ?cm2 ?km2 ?am3 ?im3 ?lm3 ?cm3 ?km3 ?am4 ?im4 ?lm4 ?cm4 ?km4 ?am5 ?im5 ?lm5 ?cm5 ?km5 ?am6 ?im6 ?lm6 ?cm6 ?km6 ?aFU ?gFU ?tFU ?rFU ?lpU ?cpU ?kpU ?aFF ?gFF ?tFF ?rFF ?lpF ?cpF ?kpF ?pg ?hd ?po ?sa ?mk ?kc ?nN ?nB ?nS ?iCa ?iCm ?iCs ?iCc ?iCd ?iCn ?iNd ?iNn ?iNe ?iOb ?rdC ?gaC ?aV ?rcV ?fiV ?lV ?cV ?kV ?xN ?vN ?saN ?exN ?tyN ?kN ?gaN ?ggN ?hdN ?clN ?moN ?iN ?sN ?sBN ?nLN ?exB ?hdB ?tyB ?ocg ?oct ?kNN ?kNW ?gLet ?gLong ?z_len ?z_int ?z_abs ?z_range ?z_repr ?z_isinstance ?z_all ?z_tuple ?z_list ?z_str ?z_bool ?z_dict ?z_sorted ?z_enumerate ?z_zip ?z_set
    (case a0 => k_is)
    (case l0 => k_is)
    (case c0 => k_is)
    (case k0 => k_is)
    (case a1 => k_is)
    (case l1 => k_is)
    (case c1 => k_is)
    (case k1 => k_is)
    (case a2 => k_is)
    (case l2 => k_is)
    (case c2 => k_is)
    (case k2 => k_is)
    (case a3 => k_is)
    (case l3 => k_is)
    (case c3 => k_is)
    (case k3 => k_is)
    (case a4 => k_is)
    (case l4 => k_is)
    (case c4 => k_is)
    (case k4 => k_is)
    (case a5 => k_is)
    (case l5 => k_is)
    (case c5 => k_is)
    (case k5 => k_is)
    (case a6 => k_is)
    (case l6 => k_is)
    (case c6 => k_is)
    (case k6 => k_is)
    (case a7 => k_is)
    (case l7 => k_is)
    (case c7 => k_is)
    (case k7 => k_is)
    (case a8 => k_is)
    (case l8 => k_is)
    (case c8 => k_is)
    (case k8 => k_is)
    (case a9 => k_is)
    (case l9 => k_is)
    (case c9 => k_is)
    (case k9 => k_is)
    (case a10 => k_is)
    (case l10 => k_is)
    (case c10 => k_is)
    (case k10 => k_is)
    (case a11 => k_is)
    (case l11 => k_is)
    (case c11 => k_is)
    (case k11 => k_is)
    (case a12 => k_is)
    (case l12 => k_is)
    (case c12 => k_is)
    (case k12 => k_is)
    (case a13 => k_is)
    (case l13 => k_is)
    (case c13 => k_is)
    (case k13 => k_is)
    (case a14 => k_is)
    (case l14 => k_is)
    (case c14 => k_is)
    (case k14 => k_is)
    (case a15 => k_is)
    (case l15 => k_is)
    (case c15 => k_is)
    (case k15 => k_is)
    (case a16 => k_is)
    (case l16 => k_is)
    (case c16 => k_is)
    (case k16 => k_is)
    (case aC => k_is)
    (case aN => k_is)
    (case aB => k_is)
    (case aWr => k_is)
    (case am0 => k_is)
    (case im0 => k_is)
    (case lm0 => k_is)
    (case cm0 => k_is)
    (case km0 => k_is)
    (case am1 => k_is)
    (case im1 => k_is)
    (case lm1 => k_is)
    (case cm1 => k_is)
    (case km1 => k_is)
    (case am2 => k_is)
    (case im2 => k_is)
    (case lm2 => k_is)
    (case cm2 => k_is)
    (case km2 => k_is)
    (case am3 => k_is)
    (case im3 => k_is)
    (case lm3 => k_is)
    (case cm3 => k_is)
    (case km3 => k_is)
    (case am4 => k_is)
    (case im4 => k_is)
    (case lm4 => k_is)
    (case cm4 => k_is)
    (case km4 => k_is)
    (case am5 => k_is)
    (case im5 => k_is)
    (case lm5 => k_is)
    (case cm5 => k_is)
    (case km5 => k_is)
    (case am6 => k_is)
    (case im6 => k_is)
    (case lm6 => k_is)
    (case cm6 => k_is)
    (case km6 => k_is)
    (case aFU => k_is)
    (case gFU => k_is)
    (case tFU => k_is)
    (case rFU => first | k_is | rfl | decide +kernel)
    (case lpU => k_is)
    (case cpU => k_is)
    (case kpU => k_is)
    (case aFF => k_is)
    (case gFF => k_is)
    (case tFF => k_is)
    (case rFF => first | k_is | rfl | decide +kernel)
    (case lpF => k_is)
    (case cpF => k_is)
    (case kpF => k_is)
    (case pg => k_is)
    (case hd => k_is)
    (case po => k_is)
    (case sa => k_is)
    (case mk => k_is)
    (case kc => k_is)
    (case nN => k_is)
    (case nB => k_is)
    (case nS => k_is)
    (case iCa => first | k_is | rfl | decide +kernel)
    (case iCm => first | k_is | rfl | decide +kernel)
    (case iCs => first | k_is | rfl | decide +kernel)
    (case iCc => first | k_is | rfl | decide +kernel)
    (case iCd => first | k_is | rfl | decide +kernel)
    (case iCn => first | k_is | rfl | decide +kernel)
    (case iNd => first | k_is | rfl | decide +kernel)
    (case iNn => first | k_is | rfl | decide +kernel)
    (case iNe => first | k_is | rfl | decide +kernel)
    (case iOb => first | k_is | rfl | decide +kernel)
    (case rdC => first | k_is | rfl | decide +kernel)
    (case gaC => k_is)
    (case aV => first | k_is | rfl | decide +kernel)
    (case rcV => first | k_is | rfl | decide +kernel)
    (case fiV => k_is)
    (case lV => k_is)
    (case cV => k_is)
    (case kV => k_is)
    (case xN => first | k_is | rfl | decide +kernel)
    (case vN => first | k_is | rfl | decide +kernel)
    (case saN => k_is)
    (case exN => k_is)
    (case tyN => k_is)
    (case kN => k_is)
    (case gaN => k_is)
    (case ggN => k_is)
    (case hdN => k_is)
    (case clN => k_is)
    (case moN => k_is)
    (case iN => k_is)
    (case sN => first | k_is | rfl | decide +kernel)
    (case sBN => k_is)
    (case nLN => k_is)
    (case exB => k_is)
    (case hdB => k_is)
    (case tyB => k_is)
    (case ocg => k_is)
    (case oct => k_is)
    (case kNN => first | k_is | rfl | decide +kernel)
    (case kNW => first | k_is | rfl | decide +kernel)
    (case gLet => k_is)
    (case gLong => k_is)
    (case z_len => k_is)
    (case z_int => k_is)
    (case z_abs => k_is)
    (case z_range => k_is)
    (case z_repr => k_is)
    (case z_isinstance => k_is)
    (case z_all => k_is)
    (case z_tuple => k_is)
    (case z_list => k_is)
    (case z_str => k_is)
    (case z_bool => k_is)
    (case z_dict => k_is)
    (case z_sorted => k_is)
    (case z_enumerate => k_is)
    (case z_zip => k_is)
    (case z_set => k_is)

