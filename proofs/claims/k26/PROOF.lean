import PyProof.Rows.All
import Wide.All
import OpenK.AllK
import Wide.FinOn
import KE.SortKeyHeap
import HandS.ForMost
import HandS.SortKw
import HandS.Evl
import HandS.Deep
import HandS.IsInst
import HandS.DictComp
import HandS.Codes
import HandS.Conv
import HandS.Style
import HandS.Text
import HandS.Steps
import HandS.Defaults
import HandS.TupSets
import HandS.Zip
import HandS.Strs
import PySem.Challenge.RW_anyscribe_k26_menders_refused
import KE.KLam
import HandS.Nested
import HandS.NestedK
import HandS.Iter
import KE.DataMinKey
import KE.KMinKey
import HandS.ForExc
import KE.DataMinMax
import HandS.TryMany
import HandS.ExcField
import KE.KIsAll
import KE.KDflt
import PyProof.StrBlock2
import HandS.TupMul
import HandS.TupLe
import HandS.Head0
import HandS.Head1
import HandS.Head2
import HandS.HeadEnd
import HandS.HeadHook1
import HandS.HeadHook2
import HandS.HeadHook3
import HandS.HeadHook4
import HandS.HeadWalk
set_option Elab.async false
set_option linter.all false
set_option maxRecDepth 100000
set_option maxHeartbeats 4000000
set_option autoImplicit true
/-! sorted(xs, key=f), f a def of the program whose promise is pure. -/
namespace AsSort
open PySem PySem.Spec PyProof.Rows L2
open Evl (Ex)
abbrev EachIs' {α β : Type} := @PySem.W.EachIs α β

section
variable {X : Cx} {pins : List (Addr × Obj)} {σ : L2.St} {H : Hp} {s : Shared}

/-- f gives the i-th item its i-th key, from wherever it is called two calls deeper -/
def Keys (X : Cx) (f : Value) (H : Hp) (xs : List V) (kz : List PyData) : Prop :=
  ∀ (pins : List (Addr × Obj)) (σ : L2.St) (G : Hp) (z : Shared) (i : Nat) (x : V) (u : Value) (d : PyData), Inv X pins σ G z → Ex H G → xs[i]? = some x → kz[i]? = some d → RelV x u →
    wpAny (model X.prog X.w) X.A.in1.in1 (call f [u]) (EP X pins σ fun v G' => Ex G G' ∧ Dp X.K G' v d) (fun _ _ => False) z

theorem dpAll_snoc {K : PySem.W.Frag} {G : Hp} {v : V} {d : PyData} (h : Dp K G v d) : ∀ {vs : List V} {ds : List PyData}, DpAll K G vs ds → DpAll K G (vs ++ [v]) (ds ++ [d])
  | [], [], _ => .cons h .nil
  | [], _ :: _, z => nomatch z
  | _ :: _, [], z => nomatch z
  | _ :: _, _ :: _, .cons a b => .cons a (dpAll_snoc h b)

mutual
theorem dp_ex {K : PySem.W.Frag} {G G' : Hp} (e : Ex G G') : ∀ {v : V} {d : PyData}, Dp K G v d → Dp K G' v d
  | _, _, .non => .non
  | _, _, .bl b => .bl b
  | _, _, .int i => .int i
  | _, _, .str x => .str x
  | _, _, .lst a b => .lst (Evl.ex_l e a) (dpAll_ex e b)
  | _, _, .tup a b => .tup (Evl.ex_t e a) (dpAll_ex e b)
theorem dpAll_ex {K : PySem.W.Frag} {G G' : Hp} (e : Ex G G') : ∀ {vs : List V} {ds : List PyData}, DpAll K G vs ds → DpAll K G' vs ds
  | _, _, .nil => .nil
  | _, _, .cons a b => .cons (dp_ex e a) (dpAll_ex e b)
end


mutual
/-- data that cannot change: no list, no dict -/
def imm : PyData → Bool
  | .none => true
  | .bool _ => true
  | .int _ => true
  | .str _ => true
  | .tuple ds => immAll ds
  | .list _ => false
  | .dict _ => false
def immAll : List PyData → Bool
  | [] => true
  | d :: ds => imm d && immAll ds
end
theorem immAll_cons {d : PyData} {ds : List PyData} (h : immAll (d :: ds) = true) : imm d = true ∧ immAll ds = true := by
  have q : (imm d && immAll ds) = true := h
  exact Bool.and_eq_true_iff.mp q
/-- tuples stay -/
def Tu (K : PySem.W.Frag) (G G' : Hp) : Prop := ∀ a xs, SqT K G a xs → SqT K G' a xs
theorem tu_ex {K : PySem.W.Frag} {G G' : Hp} (e : Ex G G') : Tu K G G' := fun _ _ h => Evl.ex_t e h
theorem Tu.trans {K : PySem.W.Frag} {G G' G'' : Hp} (a : Tu K G G') (b : Tu K G' G'') : Tu K G G'' := fun x xs h => b x xs (a x xs h)
theorem tu_rd {K : PySem.W.Frag} {G G' : Hp} (h : ∀ a xs, Rd G a (.tup xs) → Rd G' a (.tup xs)) : Tu K G G' := fun a xs q => q.elim (fun z => .inl (h a xs z)) fun z => .inr z
/-- a list written -/
theorem tu_lst {K : PySem.W.Frag} {G : Hp} {p : Addr} {ys : List V} {o : HO} (h : G p = some (.lst ys)) : Tu K G (upd G p o) := tu_rd fun a xs q => by
  have ne : ∀ u, G a = some u → (∀ zs, u ≠ .lst zs) → a ≠ p := fun u e n z => by
    rw [z, h] at e
    exact n ys (Option.some.inj e).symm
  rcases q with q | ⟨w, q⟩
  · exact .inl (by rw [upd_ne (ne _ q fun _ z => nomatch z)]; exact q)
  · exact .inr ⟨w, by rw [upd_ne (ne _ q fun _ z => nomatch z)]; exact q⟩
mutual
theorem dp_tu {K : PySem.W.Frag} {G G' : Hp} (e : Tu K G G') : ∀ {v : V} {d : PyData}, imm d = true → Dp K G v d → Dp K G' v d
  | _, _, _, .non => .non
  | _, _, _, .bl b => .bl b
  | _, _, _, .int i => .int i
  | _, _, _, .str x => .str x
  | _, _, h, .lst _ _ => nomatch h
  | _, _, h, .tup a b => .tup (e _ _ a) (dpAll_tu e (by simpa [imm] using h) b)
theorem dpAll_tu {K : PySem.W.Frag} {G G' : Hp} (e : Tu K G G') : ∀ {vs : List V} {ds : List PyData}, immAll ds = true → DpAll K G vs ds → DpAll K G' vs ds
  | _, _, _, .nil => .nil
  | _, _, h, .cons a b => by
    have h2 := immAll_cons h
    exact .cons (dp_tu e h2.1 a) (dpAll_tu e h2.2 b)
end
theorem immAll_take : ∀ (ds : List PyData) (i : Nat), immAll ds = true → immAll (ds.take i) = true
  | _, 0, _ => rfl
  | [], _ + 1, _ => rfl
  | d :: ds, i + 1, h => by
    have h2 := immAll_cons h
    show (imm d && immAll (ds.take i)) = true
    rw [h2.1, immAll_take ds i h2.2]
    rfl
theorem immAll_get : ∀ {ds : List PyData} {i : Nat} {d : PyData}, immAll ds = true → ds[i]? = some d → imm d = true
  | [], _, _, _, e => by simp at e
  | _ :: _, 0, _, h, e => by
    have h2 := immAll_cons h
    have e2 := Option.some.inj e
    rw [← e2]
    exact h2.1
  | _ :: ds, i + 1, _, h, e => by
    have h2 := immAll_cons h
    exact immAll_get (ds := ds) (i := i) h2.2 (by simpa using e)

theorem each_of_reads {h : Heap} : ∀ {us : List Value} {ds : List PyData} {as : List Addr}, ReadsAll h us ds as → PySem.W.EachIs (fun v d => ∃ as, Reads h v d as) us ds
  | _, _, _, .nil => .nil
  | _, _, _, .cons a b => .cons ⟨_, a⟩ (each_of_reads b)
theorem each_vals : ∀ {xs : List V} {us : List Value} {kz : List PyData}, Vals xs us → kz.length = xs.length → PySem.W.EachIs (fun (u : Value) (p : V × PyData) => RelV p.1 u) us (xs.zip kz)
  | _, _, [], .nil, _ => .nil
  | _, _, _ :: _, .nil, h => by simp at h
  | _, _, [], .cons _ _, h => by simp at h
  | _, _, _ :: kz, .cons r t, h => .cons r (each_vals (kz := kz) t (by simpa using h))
theorem vals_each : ∀ {us : List Value} {ps : List (V × PyData)}, PySem.W.EachIs (fun (u : Value) (p : V × PyData) => RelV p.1 u) us ps → Vals (ps.map Prod.fst) us
  | _, _, .nil => .nil
  | _, _, .cons r t => .cons r (vals_each t)

/-- the items sorted by their keys -/
def byKey (rev : Bool) (xs : List V) (kz : List PyData) : List V := ((xs.zip kz).mergeSort (PySem.W.dataLe rev Prod.snd)).map Prod.fst

/-- list.sort(key=f) of a list at a that nobody knows; B, the heap ahead, in which a is not -/
theorem tree_run {a : Addr} {xs : List V} {its : List Value} {n : Nat} {f : Value} {rev : Bool} {kz : List PyData} {P : PySem.Fin → Shared → Prop} {E : Value → Shared → Prop} {hp : Heap}
    (I : Inv X pins σ H s) (fp : FpOk X pins H a) (ho : hp.get? a = some (seqObj "list" its.toArray n)) (old : ∀ b o, s.heap.get? b = some o → b ≠ a ∧ hp.get? b = some o) (r : Vals xs its) (hz : xs.length ≤ sizeLine)
    (hk : Keys X f H xs kz) (hl : kz.length = xs.length) (him : immAll kz = true) (hal : PySem.W.AllAlike kz) (hs : PySem.W.Sortable kz) (hu : ∀ d, d ∈ kz → X.A.in1.in1.units + d.depth < cLine)
    (q : ∀ s' G, Inv X pins σ G s' → Ex (upd H a (.lst (byKey rev xs kz))) G → s'.os = s.os → P (.done (.ret .none)) s') :
    wpAny (model X.prog X.w) X.A.in1.in1 (ksk_tree a f rev) P E { s with heap := hp } := by
  have hlen : its.length = xs.length := r.length.symm
  have hzi : its.length ≤ sizeLine := by omega
  obtain ⟨e1, ho1⟩ : ∃ e1, (hp.update a (Obj.mapSeq fun _ => (#[] : Array Value))).get? a = some (seqObj "list" #[] e1) := ⟨_, get?_update_seq ho fun _ => #[]⟩
  obtain ⟨hA, ehA⟩ : ∃ hA, hA = hp.update a (Obj.mapSeq fun _ => (#[] : Array Value)) := ⟨_, rfl⟩
  rw [← ehA] at ho1
  have oldA : ∀ b o, s.heap.get? b = some o → b ≠ a ∧ hA.get? b = some o := fun b o e => by
    obtain ⟨h1, h2⟩ := old b o e
    exact ⟨h1, by rw [ehA]; exact (Heap.get?_update_ne _ _ _ _ h1).trans h2⟩
  unfold ksk_tree
  refine wpAny_bind (listItems_at ho rfl ?_)
  refine wpAny_bind (listUpdate_at ho rfl ?_ (by rw [List.size_toArray]; exact hzi) (Nat.zero_le _))
  rw [← ehA]
  refine wpAny_bind (seqEpoch_at ho1 rfl ?_)
  refine wpAny_bind (wpAny_newTuple ?_ (by show its.length ≤ _; exact hzi))
  refine wpAny_bind (wpAny_newList ?_ (Nat.zero_le _))
  refine wpAny_holding ?_
  obtain ⟨hB, ehB⟩ : ∃ hB, hB = hA.push (seqObj "tuple" its.toArray 0) := ⟨_, rfl⟩
  have oldB : ∀ b o, s.heap.get? b = some o → hB.get? b = some o := fun b o e => by
    rw [ehB]
    exact Heap.get?_push_of_some _ (oldA b o e).2
  have hoB : hB.get? a = some (seqObj "list" #[] e1) := by
    rw [ehB]
    exact Heap.get?_push_of_some _ ho1
  have hBz : hB.objs.size = hA.objs.size + 1 := by rw [ehB, size_push']
  have ha : a < hB.objs.size := Heap.lt_size hoB
  -- the store of keys stands at kS
  obtain ⟨kS, ekS⟩ : ∃ kS, kS = hB.objs.size := ⟨_, rfl⟩
  have IB : Inv X pins σ H { s with heap := hB } := I.kept oldB
  have nkS : H kS = none := IB.hok.fresh (by rw [ekS]; exact Nat.le_refl _)
  have hka : kS ≠ a := by rw [ekS]; exact Nat.ne_of_gt ha
  have fpS : FpOk X pins H kS := IB.fpOk (by rw [ekS]; exact Nat.le_refl _) nkS
  have IC : Inv X pins σ (upd H kS (.lst [])) { s with heap := hB.push (seqObj "list" #[] 0) } :=
    IB.laid (a := kS) (o := .lst []) (t' := s.toks) (fun b o e => Heap.get?_push_of_some _ e) (by rw [ekS]; exact Nat.le_refl _) ⟨Nat.zero_le _, [], 0, .nil, by rw [ekS]; exact Heap.get?_push_size _ rfl⟩
  have pin1 : ∀ p ∈ pins ++ [(a, (seqObj "list" #[] e1 : Obj))], (hB.push (seqObj "list" #[] 0)).get? p.1 = some p.2 ∧ (upd H kS (.lst [])) p.1 = none ∧ p.1 ≠ X.env.locals ∧ p.1 ∉ X.fs ∧ ∀ v, p.2.data ≠ .cell v := fun p hpm => by
    rcases List.mem_append.mp hpm with z | z
    · exact IC.pin p (List.mem_append_right _ z)
    · rw [List.mem_singleton.mp z]
      refine ⟨Heap.get?_push_of_some _ hoB, ?_, fp.2.1, fp.2.2.1, fun v e => nomatch e⟩
      rw [upd_ne hka.symm]
      exact fp.1
  have ID := IC.pins_of pin1
  rw [ehB] at ID ekS
  rw [← ekS]
  show wpAny (model X.prog X.w) X.A.in1.in1 (ksk_rest a f rev its.toArray e1 (.ref kS)) P E { s with heap := (hA.push (seqObj "tuple" its.toArray 0)).push (seqObj "list" #[] 0) }
  obtain ⟨z0, ez0⟩ : ∃ z0 : Shared, z0 = { s with heap := (hA.push (seqObj "tuple" its.toArray 0)).push (seqObj "list" #[] 0) } := ⟨_, rfl⟩
  rw [← ez0] at ID ⊢
  unfold ksk_rest
  refine wpAny_bind (wpAny_rule ?_)
  first
    | rw [List.forIn_toArray]
    | (rw [← Array.forIn_toList]; simp only [List.toList_toArray])
    | rw [← Array.forIn_toList]
  refine wpAny_bind (ksk_fold (fun i z => ∃ G ks, Inv X (pins ++ [(a, (seqObj "list" #[] e1 : Obj))]) σ G z ∧ Ex H G ∧ G kS = some (.lst ks) ∧ DpAll X.K G ks (kz.take i) ∧ ks.length = i) its 0 z0
    ⟨_, [], ID, Ex.new nkS, upd_same, by rw [List.take_zero]; exact .nil, rfl⟩ ?step ?done)
  case step =>
    rintro j u z hu1 ⟨G, ks, J, eG, hG, hd, hkl⟩
    simp only [Nat.zero_add] at hd hkl ⊢
    have hj : j < its.length := (List.getElem?_eq_some_iff.mp hu1).1
    have hjx : j < xs.length := by omega
    obtain ⟨d, hdj⟩ : ∃ d, kz[j]? = some d := ⟨_, List.getElem?_eq_getElem (by omega)⟩
    have hx : xs[j]? = some xs[j] := List.getElem?_eq_getElem hjx
    obtain ⟨u', hu', ru⟩ := r.get hx
    rw [hu1] at hu'
    cases hu'
    refine wpAny_bind (wpAny_attempt (wpAny_mono (hk _ _ G z j _ u d J eG hx hdj ru) (fun v z' he => ?_) fun _ _ hF => hF.elim))
    obtain ⟨w', G', J', rw', e', hw⟩ := he
    try dsimp only
    have hG' : G' kS = some (.lst ks) := e' _ _ hG
    obtain ⟨kvs, m, rk, ok, lk⟩ := J'.lst hG'
    have hks : kvs.length = ks.length := rk.length.symm
    refine wpAny_bind (listUpdate_at ok rfl ?_ (by rw [List.size_toArray]; omega) (by rw [Array.size_push, List.size_toArray]; omega))
    refine wpAny_pure ⟨rfl, upd G' kS (.lst (ks ++ [w'])), ks ++ [w'], ?_, ?_, upd_same, ?_, ?_⟩
    · exact J'.lset (t' := z'.toks) (its := kvs) (its' := kvs ++ [v]) hG' ok (by simp) (rk.append (.cons rw' .nil)) (by rw [List.length_append, List.length_singleton]; omega)
    · exact Ex.mut (eG.trans e') nkS
    · have ek : kz.take (j + 1) = kz.take j ++ [d] := by rw [List.take_add_one, hdj]; simp
      rw [ek]
      exact dpAll_snoc (dp_tu (tu_lst hG') (immAll_get him hdj) hw) (dpAll_tu (tu_lst hG') (immAll_take kz j him) (dpAll_ex e' hd))
    · rw [List.length_append, List.length_singleton, hkl]
  case done =>
    rintro z ⟨G, ks, J, eG, hG, hd, hkl⟩
    have hd' : DpAll X.K G ks kz := by
      have e3 : kz.take (0 + its.length) = kz := List.take_of_length_le (by omega)
      rw [e3] at hd
      exact hd
    obtain ⟨kvs, m, rk, ok, lk⟩ := J.lst hG
    have hks : kvs.length = ks.length := rk.length.symm
    obtain ⟨as, hr⟩ := Dp.readsAll J kz ks kvs hd' rk
    have hea := each_of_reads hr
    have oa : z.heap.get? a = some (seqObj "list" #[] e1) := (J.pin (a, (seqObj "list" #[] e1 : Obj)) (List.mem_append_right _ (List.mem_append_right _ (List.mem_singleton.mpr rfl)))).1
    have na : G a = none := (J.pin (a, (seqObj "list" #[] e1 : Obj)) (List.mem_append_right _ (List.mem_append_right _ (List.mem_singleton.mpr rfl)))).2.1
    refine wpAny_bind (listItems_at ok rfl ?_)
    refine PySem.W.keyH_end (κ := PySem.W.dataKind z.heap kz) (h₁ := PySem.W.hideAll z.heap [kS]) (fun b o _ e => PySem.W.of_hideAll [kS] e) (PySem.W.hideAll_none [kS] (List.mem_singleton.mpr rfl)) ok oa hka
      (PySem.W.SortsAt.data hea hal hs hu) (by rw [List.size_toArray]; omega) hzi fun h' tk c kb oh => ?_
    have ko : PySem.W.KeyedOut rev ((xs.zip kz).map Prod.snd) its (PySem.W.sortVals (PySem.W.dataKind z.heap kz) rev kvs.toArray.toList its) := by
      have e4 : (xs.zip kz).map Prod.snd = kz := List.map_snd_zip (by omega)
      rw [e4]
      exact ⟨z.heap, kvs, hal, rfl, hea⟩
    have vo := vals_each (PySem.W.keyedOut_each Prod.snd ko (each_vals r hl))
    have kb2 : ∀ b o, b ≠ a → b ≠ kS → z.heap.get? b = some o → h'.get? b = some o := fun b o h1 h2 e => kb b o h1 (PySem.W.hideAll_get [kS] e fun q => h2 (List.mem_singleton.mp q))
    have J2 : Inv X pins σ G z := J.unpinned
    have hyl : (byKey rev xs kz).length ≤ sizeLine := by
      unfold byKey
      rw [List.length_map, List.length_mergeSort, List.length_zip]
      omega
    have noL : ∀ b u, G b = some u → (∀ zs, u ≠ .lst zs) → b ≠ kS := fun b u e n w => by
      rw [w, hG] at e
      exact n ks (Option.some.inj e).symm
    have noA : ∀ b u, G b = some u → b ≠ a := fun b u e w => by
      rw [w, na] at e
      cases e
    obtain ⟨G2, eG2⟩ : ∃ G2 : Hp, G2 = fun b => if b = kS then none else upd G a (.lst (byKey rev xs kz)) b := ⟨_, rfl⟩
    have gk : G2 kS = none := by rw [eG2]; exact if_pos rfl
    have ga : G2 a = some (.lst (byKey rev xs kz)) := by
      rw [eG2]
      show (if a = kS then none else upd G a (.lst (byKey rev xs kz)) a) = _
      rw [if_neg hka.symm, upd_same]
    have gb : ∀ b, b ≠ kS → b ≠ a → G2 b = G b := fun b h1 h2 => by
      rw [eG2]
      show (if b = kS then none else upd G a (.lst (byKey rev xs kz)) b) = _
      rw [if_neg h1, upd_ne h2]
    have gi : ∀ b u, G2 b = some u → b ≠ kS := fun b u e w => by
      rw [w, gk] at e
      cases e
    obtain ⟨zh, zg, zd, zt, zo⟩ := z
    have ch : ∀ b ∈ [kS, a], (b ∈ X.ex ∨ X.s_0.heap.objs.size ≤ b) ∧ b ≠ X.env.locals ∧ (∀ x c, X.env.cells.lookup x = some c → c ≠ b) ∧ ∀ p ∈ X.pn ++ pins, p.1 ≠ b := fun b hb => by
      rcases List.mem_cons.mp hb with e | hb
      · rw [e]; exact ⟨fpS.2.2.2.1, fpS.2.1, fpS.2.2.2.2.1, fpS.2.2.2.2.2⟩
      · rw [List.mem_singleton.mp hb]; exact ⟨fp.2.2.2.1, fp.2.1, fp.2.2.2.2.1, fp.2.2.2.2.2⟩
    have nc : ∀ b, b ∉ [kS, a] → b ≠ a ∧ b ≠ kS := fun b h => ⟨fun e => h (by simp [e]), fun e => h (by simp [e])⟩
    have fin : Inv X pins σ G2 ⟨h', zg, zd, tk, zo⟩ := J2.step (h' := h') (H' := G2) (g' := zg) (d' := zd) (t' := tk) (ch := [kS, a]) ch
      (fun b o _ _ hc e _ => kb2 b o (nc b hc).1 (nc b hc).2 e) (fun b o _ _ hc e _ => ⟨o.slots, kb2 b o (nc b hc).1 (nc b hc).2 e⟩) (fun b o hc _ n => by rw [gb b (nc b hc).2 (nc b hc).1]; exact n)
      (fun b o hc e => ⟨o, kb2 b o (nc b hc).1 (nc b hc).2 e⟩) (fun b zs e => by rw [gb b (noL b _ e fun _ w => nomatch w) (noA b _ e)]; exact e) (fun b o u e => by rw [gb b (noL b _ e fun _ w => nomatch w) (noA b _ e)]; exact e)
      (fun b ps e => ⟨#[], by rw [gb b (noL b _ e fun _ w => nomatch w) (noA b _ e), e]; simp⟩) (fun mm hm => by
        obtain ⟨o, es, ep, ho', r'⟩ := hm
        exact ⟨o, es, ep, kb2 _ o fp.2.1.symm fpS.2.1.symm ho', r'⟩)
      (fun b u e => by
        by_cases hb : b = a
        · rw [hb, ga] at e
          cases e
          rw [hb]
          exact ⟨hyl, _, c, vo, oh⟩
        · have hbk := gi b u e
          rw [gb b hbk hb] at e
          have nk : ∀ c v, G c = some v → (∀ zs, v ≠ .lst zs) → G2 c = some v := fun c v q n => by rw [gb c (noL c v q n) (noA c v q)]; exact q
          refine (J2.hok b u e).stay (fun c v hc q => ?_) (fun c q => nk c _ q fun _ w => nomatch w) fun c zs q => nk c _ q fun _ w => nomatch w
          rcases hc with rfl | hc
          · exact kb2 c v hb hbk q
          · exact kb2 c v (noA c _ hc) (noL c _ hc fun _ w => nomatch w) q) J2.bare
    refine q _ G2 fin (fun b o e => ?_) (J2.os.trans I.os.symm)
    by_cases hb : b = a
    · rw [hb, upd_same] at e
      rw [hb, ga]
      exact e
    · rw [upd_ne hb] at e
      rw [gb b (fun w => by rw [w, nkS] at e; cases e) hb]
      exact eG b o e
end

section
variable {prog : Program} {w : World} {A : Around} {E : Value → Shared → Prop} {s : Shared}
/-- a list or a tuple, laid out as a new list -/
theorem collect_sq {l : Addr} {vs : List Value} {T : String} {o : Obj} {n : Nat} {Q : List Value → Shared → Prop} (ho : s.heap.get? l = some o) (hc : o.cls = .type T) (hT : T = "list" ∨ T = "tuple") (hd : o.data = .seq vs.toArray n) (hsz : vs.length ≤ sizeLine)
    (h : Q vs { s with heap := (s.heap.push (seqObj "list" #[] 0)).update s.heap.objs.size (Obj.mapSeq (· ++ vs.toArray)) }) : wpAny (model prog w) A (collect (.ref l)) Q E s := by
  unfold collect
  refine wpAny_bind (wpAny_runValue (codeAny_builtin entry_proto_collect' ?_))
  show wpAny _ _ (do again (.builtin "list.__iadd__" ⟨[← newList [], .ref l], []⟩)) _ _ s
  refine wpAny_bind (wpAny_newList (wpAny_pure ⟨Code.quiet_builtin _ (by decide +kernel), codeAny_builtin entry_list_iadd' ?_⟩))
  have fresh : (s.heap.push (seqObj "list" #[] 0)).get? s.heap.objs.size = some (seqObj "list" #[] 0) := Heap.get?_push_size _ rfl
  have ho' : (s.heap.push (seqObj "list" #[] 0)).get? l = some o := Heap.get?_push_of_some _ ho
  show wpAny _ _ (Builtin.List.listExtendWith (.ref s.heap.objs.size) (.ref l) (.ref s.heap.objs.size)) _ _ { s with heap := s.heap.push (seqObj "list" #[] 0) }
  unfold Builtin.List.listExtendWith
  refine wpAny_bind (wpAny_typeOf (T := T) ⟨o, ho', hc⟩ ?_)
  have hb : (Builtin.List.listSameRef (.ref s.heap.objs.size) (.ref l) || Value.type T == Value.type "list" || Value.type T == Value.type "tuple") = true := by
    rcases hT with e | e <;> rw [e]
    · rw [show (Value.type "list" == Value.type "list") = true from rfl, Bool.or_true, Bool.true_or]
    · rw [show (Value.type "tuple" == Value.type "tuple") = true from rfl, Bool.or_true]
  rw [if_pos hb]
  refine wpAny_bind (listItems_at ho' hd ?_)
  refine wpAny_bind (listItems_at fresh rfl ?_)
  rw [if_neg (by simp)]
  refine wpAny_bind (listUpdate_at fresh rfl ?_ (Nat.zero_le _) (by show (#[] ++ vs.toArray).size ≤ sizeLine + 1; simp only [Array.size_append, List.size_toArray, List.length_nil]; omega))
  refine wpAny_pure ?_
  show wpAny (model prog w) A (load s.heap.objs.size >>= _) Q E _
  refine wpAny_bind (wpAny_load (get?_update_seq fresh _) ?_)
  show wpAny _ _ (pure ((#[] : Array Value) ++ vs.toArray).toList) Q E _
  rw [show ((#[] : Array Value) ++ vs.toArray).toList = vs by simp]
  exact wpAny_pure h
/-- sorted of either is list.sort of a new list -/
theorem sorted_sq {l : Addr} {vs : List Value} {T : String} {o : Obj} {n : Nat} {kw : List (Str × Value)} {Q : Value → Shared → Prop} (ho : s.heap.get? l = some o) (hc : o.cls = .type T) (hT : T = "list" ∨ T = "tuple") (hd : o.data = .seq vs.toArray n) (hsz : vs.length ≤ sizeLine)
    (ha1 : argsOk "sorted" ⟨[.ref l], kw⟩) (ha2 : ∀ x, argsOk "list.sort" ⟨[.ref x], kw⟩)
    (body : ∀ E' : Value → Shared → Prop, wpAny (model prog w) A.in1.in1 (Builtin.«list.sort» ⟨[.ref (s.heap.objs.size + 1)], kw⟩) (fun f s' => f = .done (.ret .none) ∧ Q (.ref (s.heap.objs.size + 1)) s') E' { s with heap := PySem.W.copyHeap s.heap vs }) :
    wpAny (model prog w) A (call (.builtin "sorted") [.ref l] kw) Q E s := by
  refine call_function_entry_kw kind_sorted plain_sorted entry_sorted ha1 ?_
  unfold Builtin.«sorted»
  refine wpAny_bind (m := checkCount "sorted" 1 1 _) (wpAny_pure (wpAny_bind (collect_sq ho hc hT hd hsz (wpAny_bind (wpAny_newList ?_ hsz)))))
  have e1 : ((s.heap.push (seqObj "list" #[] 0)).update s.heap.objs.size (Obj.mapSeq (· ++ vs.toArray))).objs.size = s.heap.objs.size + 1 := by rw [Heap.size_update, size_push']
  rw [e1]
  refine wpAny_bind (wpAny_holding (wpAny_call_entry_kw slot_list_sort ⟨_, PySem.W.copyHeap_at s.heap vs, rfl⟩ entry_list_sort (wpAny_mono (body _) (fun f s' hf => ?_) fun _ _ e => e) (ha2 _)))
  obtain ⟨rfl, hq⟩ := hf
  exact ⟨_, rfl, wpAny_pure ⟨_, rfl, hq⟩⟩
end

section
variable {X : Cx}
/-- sorted(xs, ..) by keys -/
theorem sorted_run {pins : List (Addr × Obj)} {σ : L2.St} {H : Hp} {s : Shared} {l : Addr} {xs : List V} {f : Value} {rev : Bool} {kz : List PyData} {kw : List (Str × Value)} {Q : VK} (I : Inv X pins σ H s)
    (hs : SqL X.K H l xs ∨ SqT X.K H l xs) (hk : Keys X f H xs kz) (hl : kz.length = xs.length) (him : immAll kz = true) (hal : PySem.W.AllAlike kz) (hso : PySem.W.Sortable kz) (hu : ∀ d, d ∈ kz → X.A.in1.in1.units + d.depth < cLine)
    (ha1 : argsOk "sorted" ⟨[.ref l], kw⟩) (ha2 : ∀ x, argsOk "list.sort" ⟨[.ref x], kw⟩) (ht : ∀ x, Builtin.«list.sort» ⟨[.ref x], kw⟩ = ksk_tree x f rev)
    (q : ∀ p G, H p = none → Ex (upd H p (.lst (byKey rev xs kz))) G → Q (.ref p) G) : wpAny (model X.prog X.w) X.A (call (.builtin "sorted") [.ref l] kw) (EP X pins σ Q) X.xe s := by
  have go : ∀ (vs : List Value) (T : String) (o : Obj) (n : Nat), Vals xs vs → s.heap.get? l = some o → o.cls = .type T → (T = "list" ∨ T = "tuple") → o.data = .seq vs.toArray n → xs.length ≤ sizeLine →
      wpAny (model X.prog X.w) X.A (call (.builtin "sorted") [.ref l] kw) (EP X pins σ Q) X.xe s := fun vs T o n r ho hc hT hd hz => by
    refine sorted_sq ho hc hT hd (by rw [← r.length]; exact hz) ha1 ha2 fun E' => ?_
    rw [ht]
    have nH : H (s.heap.objs.size + 1) = none := I.hok.fresh (Nat.le_succ _)
    refine tree_run I (I.fpOk (Nat.le_succ _) nH) (PySem.W.copyHeap_at s.heap vs) (fun b o e => ⟨Nat.ne_of_lt (Nat.lt_succ_of_lt (Heap.lt_size e)), PySem.W.copyHeap_old e⟩) r hz hk hl him hal hso hu fun s' G J e _ => ⟨rfl, ?_⟩
    exact ⟨.ref _, G, J, rfl, q _ G nH e⟩
  rcases hs with hs | hs
  · obtain ⟨its, rv, ⟨o, n, ho, hc, _, hd⟩, hz⟩ := I.list hs
    exact go its "list" o n rv ho hc (.inl rfl) hd hz
  · obtain ⟨its, rv, ⟨o, ho, hc, n, hd⟩, hz⟩ := I.tuple hs
    exact go its "tuple" o n rv ho hc (.inr rfl) hd hz

/-- a pure promise: data in, data out, nothing that was known changes -/
def spP (K : PySem.W.Frag) (pre : List PyData → Prop) (g : List PyData → PyData) : Sp := fun vs H Q _ => ∃ ds, DpAll K H vs ds ∧ pre ds ∧ ∀ v H', Ex H H' → Dp K H' v (g ds) → Q v H'

theorem dpAll_get {K : PySem.W.Frag} {G : Hp} : ∀ {vs : List V} {ds : List PyData} {i : Nat} {v : V} {d : PyData}, DpAll K G vs ds → vs[i]? = some v → ds[i]? = some d → Dp K G v d
  | _, _, _, _, _, .nil, h, _ => by simp at h
  | _, _, 0, _, _, .cons a _, h, h2 => by
    have e1 := Option.some.inj h
    have e2 := Option.some.inj h2
    rw [← e1, ← e2]
    exact a
  | _, _, i + 1, _, _, .cons _ b, h, h2 => dpAll_get (i := i) b (by simpa using h) (by simpa using h2)
theorem dpAll_len {K : PySem.W.Frag} {G : Hp} : ∀ {vs : List V} {ds : List PyData}, DpAll K G vs ds → vs.length = ds.length
  | _, _, .nil => rfl
  | _, _, .cons _ b => congrArg Nat.succ (dpAll_len b)

theorem keys_of {k : Nat} {f : Addr} {fd : FuncData} {x : Str} {pre : List PyData → Prop} {g : List PyData → PyData} {H : Hp} {xs : List V} {ds : List PyData} (F : FnOk X.prog X.w X.K X.mg X.base CX0 k f fd [x] (spP X.K pre g)) (hr : Room (k + 2) X.A)
    (hb : Binds X.K fd [x] []) (hd : DpAll X.K H xs ds) (hp : ∀ d ∈ ds, pre [d]) : Keys X (.ref f) H xs (ds.map fun d => g [d]) := by
  intro pins σ G z i v u d I e hx hk ru
  rw [List.getElem?_map] at hk
  cases hi : ds[i]? with
  | none => rw [hi] at hk; cases hk
  | some d0 =>
    rw [hi] at hk
    have ed : g [d0] = d := Option.some.inj hk
    have hv : Dp X.K G v d0 := dp_ex e (dpAll_get hd hx hi)
    have E0' : Env0 X.prog X.w X.K X.mg X.base X.A.in1.in1 X.stack z G := I.env0.in1.in1
    refine wpAny_call (codeAny_mono (F.run X.A.in1.in1 X.stack z G ⟨[u], []⟩ [u] [v] (fun v G' => Ex G G' ∧ Dp X.K G' v d) E0 hr.in1.in1 E0' (hb z [u] I.kIn rfl) (.cons ru .nil) ⟨[d0], .cons hv .nil, hp d0 (List.mem_of_getElem? hi), fun w' G' e' h' => ⟨e', by rw [← ed]; exact h'⟩⟩) fun r s' hq => ?_)
    cases r with
    | error e => exact hq.elim
    | ok fl =>
      cases fl with
      | ret u => exact I.after hq
      | next => exact False.elim hq
      | brk => exact False.elim hq
      | cont => exact False.elim hq

/-- the data sorted by their keys -/
theorem byKey_dp {K : PySem.W.Frag} {G : Hp} {rev : Bool} {xs : List V} {ds : List PyData} (g : PyData → PyData) (h : DpAll K G xs ds) : DpAll K G (byKey rev xs (ds.map g)) (ds.mergeSort (PySem.W.dataLe rev g)) := by
  have each : ∀ {xs : List V} {ds : List PyData}, DpAll K G xs ds → PySem.W.EachIs (fun (p : V × PyData) (d : PyData) => Dp K G p.1 d ∧ p.2 = g d) (xs.zip (ds.map g)) ds := by
    intro xs ds h
    induction h using DpAll.rec (motive_1 := fun _ _ _ => True) with
    | non => trivial
    | bl => trivial
    | int => trivial
    | str => trivial
    | lst => trivial
    | tup => trivial
    | nil => exact .nil
    | cons a _ _ ih => exact .cons ⟨a, rfl⟩ ih
  have back : ∀ {ps : List (V × PyData)} {ds : List PyData}, PySem.W.EachIs (fun (p : V × PyData) (d : PyData) => Dp K G p.1 d ∧ p.2 = g d) ps ds → DpAll K G (ps.map Prod.fst) ds := by
    intro ps ds h
    induction h with
    | nil => exact .nil
    | cons a _ ih => exact .cons a.1 ih
  refine back (PySem.W.sort_each (each h) fun p hp q hq => ?_)
  have e1 := ((each h).zip p hp).2
  have e2 := ((each h).zip q hq).2
  show PySem.W.dataLe rev Prod.snd p.1 q.1 = PySem.W.dataLe rev g p.2 q.2
  rw [PySem.W.dataLe_eq, PySem.W.dataLe_eq]
  show cond rev (!PySem.W.dataLt p.1.2 q.1.2) (!PySem.W.dataLt q.1.2 p.1.2) = cond rev (!PySem.W.dataLt (g p.2) (g q.2)) (!PySem.W.dataLt (g q.2) (g p.2))
  rw [e1, e2]

def sortD (g : PyData → PyData) (ds : List PyData) : List PyData := ds.mergeSort (PySem.W.dataLe false g)
/-- sorted(xs, key=f), f a def -/
def rSortKey (K : PySem.W.Frag) (f : Addr) (pre : List PyData → Prop) (g : List PyData → PyData) : List V → List V → Hp → VK → Prop := fun vs zs H Q => ∃ (l : Addr) (xs : List V) (ds : List PyData), vs = [.ref l] ∧ zs = [.ref f] ∧ (SqL K H l xs ∨ SqT K H l xs) ∧ DpAll K H xs ds ∧ (∀ d ∈ ds, pre [d]) ∧
  PySem.W.AllAlike (ds.map fun d => g [d]) ∧ PySem.W.Sortable (ds.map fun d => g [d]) ∧ immAll (ds.map fun d => g [d]) = true ∧ (∀ d ∈ ds, (g [d]).depth ≤ 50) ∧
  ∀ p ys G, H p = none → Ex H G → G p = some (.lst ys) → DpAll K G ys (sortD (fun d => g [d]) ds) → Q (.ref p) G
theorem cr_sortKey {k : Nat} {f : Addr} {fd : FuncData} {x : Str} {pre : List PyData → Prop} {g : List PyData → PyData} (F : FnOk X.prog X.w X.K X.mg X.base CX0 k f fd [x] (spP X.K pre g)) (hr : Room (k + 2) X.A) (hb : Binds X.K fd [x] []) :
    CallRK X (.builtin "sorted") [Str.ofString "key"] (rSortKey X.K f pre g) := by
  intro pins s σ H vs zs us ws Q I r rz h
  obtain ⟨l, xs, ds, rfl, rfl, hs, hd, hp, hal, hso, him, hdep, q⟩ := h
  obtain rfl := Vals.ref1 r
  obtain ⟨w1, rfl, e1⟩ := vals1 rz
  obtain rfl : w1 = Value.ref f := e1
  refine sorted_run (rev := false) I hs (keys_of F hr hb hd hp) (by rw [List.length_map, dpAll_len hd]) him hal hso (fun d hm => ?_) (PyProof.Rows.ksk_s1 _ _) (fun _ => PyProof.Rows.ksk_l1 _ _) (fun a => PyProof.Rows.ksk_t1 f a) fun p G np e => ?_
  · obtain ⟨d0, h0, rfl⟩ := List.mem_map.mp hm
    have h1 := hdep d0 h0
    have h2 := hr.un
    show X.A.units + 1 + 1 + (g [d0]).depth < cLine
    omega
  · exact q p _ G np ((Ex.new np).trans e) (e _ _ upd_same) (dpAll_ex ((Ex.new np).trans e) (byKey_dp _ hd))
end
end AsSort

set_option maxHeartbeats 4000000
set_option autoImplicit false
/-! what a reading gives, told as data. -/
namespace AsKit
open PySem PySem.Spec PyProof.Rows L2 AsSort
open Evl (Ex Ev EvT EvA)

def EvD (K : PySem.W.Frag) (te : TE) (σ : L2.St) (H : Hp) (d : PyData) : Prop := ∀ H1, Ex H H1 → ∀ Q : VK, (∀ v H2, Ex H1 H2 → Dp K H2 v d → Q v H2) → te σ H1 Q
def EvDs (K : PySem.W.Frag) (ta : TA) (σ : L2.St) (H : Hp) (ds : List PyData) : Prop := ∀ H1, Ex H H1 → ∀ Q : List V → Hp → Prop, (∀ vs H2, Ex H1 H2 → DpAll K H2 vs ds → Q vs H2) → ta σ H1 Q
/-- slot i holds d -/
def At (K : PySem.W.Frag) (σ : L2.St) (H : Hp) (i : Nat) (d : PyData) : Prop := ∃ v, σ[i]? = some (some v) ∧ Dp K H v d

section
variable {K : PySem.W.Frag} {σ : L2.St} {H H' : Hp} {ta tb te : TE} {t u : TT} {d e : PyData} {ds : List PyData}
theorem At.mono {i : Nat} (x : Ex H H') (h : At K σ H i d) : At K σ H' i d := let ⟨v, a, b⟩ := h; ⟨v, a, dp_ex x b⟩
theorem EvD.mono (x : Ex H H') (h : EvD K te σ H d) : EvD K te σ H' d := fun H1 a Q q => h H1 (x.trans a) Q q
theorem EvDs.mono {ta : TA} (x : Ex H H') (h : EvDs K ta σ H ds) : EvDs K ta σ H' ds := fun H1 a Q q => h H1 (x.trans a) Q q
theorem d_var {i : Nat} (h : At K σ H i d) : EvD K (tVar i) σ H d := fun H1 a _ q => let ⟨v, h1, h2⟩ := h; ⟨v, h1, q v H1 (Ex.refl H1) (dp_ex a h2)⟩
theorem dp_sc {v : V} : ∀ {d : PyData}, (∀ ds, d ≠ .list ds) → (∀ ds, d ≠ .tuple ds) → Dp K H v d → ∀ G, Dp K G v d
  | _, _, _, .non, _ => .non
  | _, _, _, .bl b, _ => .bl b
  | _, _, _, .int i, _ => .int i
  | _, _, _, .str x, _ => .str x
  | _, a, _, .lst _ _, _ => (a _ rfl).elim
  | _, _, b, .tup _ _, _ => (b _ rfl).elim
theorem d_int {i : Int} : EvD K (tC (.int i)) σ H (.int i) := fun H1 _ _ q => q _ H1 (Ex.refl H1) (.int i)
theorem d_str {x : Str} : EvD K (tC (.str x)) σ H (.str x) := fun H1 _ _ q => q _ H1 (Ex.refl H1) (.str x)
theorem d_bl {b : Bool} : EvD K (tC (.bl b)) σ H (.bool b) := fun H1 _ _ q => q _ H1 (Ex.refl H1) (.bl b)
theorem ev_int {i : Int} (h : EvD K te σ H (.int i)) : Ev te σ H (.int i) := fun H1 a Q q => h H1 a Q fun v H2 x hd => by cases hd; exact q H2 x
theorem ev_str {x : Str} (h : EvD K te σ H (.str x)) : Ev te σ H (.str x) := fun H1 a Q q => h H1 a Q fun v H2 y hd => by cases hd; exact q H2 y
theorem ev_bl {b : Bool} (h : EvD K te σ H (.bool b)) : Ev te σ H (.bl b) := fun H1 a Q q => h H1 a Q fun v H2 y hd => by cases hd; exact q H2 y
theorem d_ofI {i : Int} (h : Ev te σ H (.int i)) : EvD K te σ H (.int i) := fun H1 a Q q => h H1 a Q fun H2 x => q _ H2 x (.int i)
theorem d_ofS {x : Str} (h : Ev te σ H (.str x)) : EvD K te σ H (.str x) := fun H1 a Q q => h H1 a Q fun H2 y => q _ H2 y (.str x)
theorem d_ofB {b : Bool} (h : Ev te σ H (.bl b)) : EvD K te σ H (.bool b) := fun H1 a Q q => h H1 a Q fun H2 y => q _ H2 y (.bl b)
theorem ds_nil : EvDs K tNil σ H [] := fun H1 _ _ q => q [] H1 (Ex.refl H1) .nil
theorem ds_cons {tr : TA} (h : EvD K te σ H d) (hr : EvDs K tr σ H ds) : EvDs K (tCons te tr) σ H (d :: ds) := fun H1 a Q q =>
  h H1 a _ fun v H2 x hd => hr H2 (a.trans x) _ fun vs H3 y hs => q _ H3 (x.trans y) (.cons (dp_ex y hd) hs)
theorem ds_ev {ta : TA} {i : Int} (h : EvDs K ta σ H [.int i]) : EvA ta σ H [.int i] := fun H1 a Q q => h H1 a Q fun vs H2 x hd => by
  cases hd with
  | cons a b =>
    cases a
    cases b
    exact q H2 x
theorem ds_ev2 {ta : TA} {i j : Int} (h : EvDs K ta σ H [.int i, .int j]) : EvA ta σ H [.int i, .int j] := fun H1 a Q q => h H1 a Q fun vs H2 x hd => by
  cases hd with
  | cons a b =>
    cases a
    cases b with
    | cons a b =>
      cases a
      cases b
      exact q H2 x
theorem d_tup {ta : TA} (h : EvDs K ta σ H ds) (hl : ds.length ≤ 100000) : EvD K (tTup ta) σ H (.tuple ds) := fun H1 a Q q =>
  h H1 a _ fun vs H2 x hd => ⟨Evl.sz_of (by rw [dpAll_len hd]; exact hl), fun p hp => q _ _ (x.trans (Ex.new hp)) (.tup (Evl.st_of upd_same) (dpAll_ex (Ex.new hp) hd))⟩
theorem d_lst {ta : TA} (h : EvDs K ta σ H ds) (hl : ds.length ≤ 100000) : EvD K (tLst ta) σ H (.list ds) := fun H1 a Q q =>
  h H1 a _ fun vs H2 x hd => ⟨Evl.sz_of (by rw [dpAll_len hd]; exact hl), fun p hp => q _ _ (x.trans (Ex.new hp)) (.lst (Evl.sq_of upd_same) (dpAll_ex (Ex.new hp) hd))⟩
theorem d_call {ta : TA} {pre : List PyData → Prop} {g : List PyData → PyData} {E : XK} (h : EvDs K ta σ H ds) (hp : pre ds) : EvD K (tCall (spP K pre g) [] E ta) σ H (g ds) := fun H1 a Q q =>
  h H1 a _ fun vs H2 x hd => by
    show spP K pre g (vs ++ []) H2 Q E
    rw [List.append_nil]
    exact ⟨ds, hd, hp, fun v H3 y hv => q v H3 (x.trans y) hv⟩
theorem d_eqTo (h : EvD K te σ H d) (e1 : d = e) : EvD K te σ H e := e1 ▸ h
/-- len -/
def rLenQ (K : PySem.W.Frag) : List V → Hp → VK → Prop := fun xs H Q => ∃ p ys, xs = [.ref p] ∧ (SqL K H p ys ∨ SqT K H p ys) ∧ Q (.int ys.length) H
def rLenTx : List V → Hp → VK → Prop := fun xs H Q => ∃ z, xs = [.str z] ∧ z.length ≤ sizeLine ∧ Q (.int z.length) H
theorem d_lenT (h : EvD K te σ H (.tuple ds)) : EvD K (tCB (rLenQ K) (tCons te tNil)) σ H (.int (ds.length : Int)) := fun H1 a Q q =>
  h H1 a _ fun v H2 x hd => by
    cases hd with
    | tup hs hx => exact ⟨_, _, rfl, .inr hs, by rw [dpAll_len hx]; exact q _ H2 x (.int _)⟩
theorem d_lenL (h : EvD K te σ H (.list ds)) : EvD K (tCB (rLenQ K) (tCons te tNil)) σ H (.int (ds.length : Int)) := fun H1 a Q q =>
  h H1 a _ fun v H2 x hd => by
    cases hd with
    | lst hs hx => exact ⟨_, _, rfl, .inl hs, by rw [dpAll_len hx]; exact q _ H2 x (.int _)⟩
theorem d_lenS {x : Str} (h : EvD K te σ H (.str x)) (hz : x.length ≤ 100000) : EvD K (tCB rLenTx (tCons te tNil)) σ H (.int (x.length : Int)) := fun H1 a Q q =>
  h H1 a _ fun v H2 y hd => by
    cases hd
    exact ⟨x, rfl, Evl.sz_of hz, q _ H2 y (.int _)⟩
/-- equal data -/
theorem t_eqD (h : EvD K ta σ H d) (h2 : EvD K tb σ H e) (s1 : SeqAt.shaped d = true) (s2 : SeqAt.shaped e = true) : EvT (tTest (tOp (rEqD K) ta tb)) σ H (PyData.eqv d e) := fun H1 a Q q =>
  h H1 a _ fun v H2 x hd => h2 H2 (a.trans x) _ fun w H3 y he => ⟨d, e, dp_ex y hd, he, s1, s2, _, rfl, q H3 (x.trans y)⟩
theorem d_eqD (h : EvD K ta σ H d) (h2 : EvD K tb σ H e) (s1 : SeqAt.shaped d = true) (s2 : SeqAt.shaped e = true) : EvD K (tOp (rEqD K) ta tb) σ H (.bool (PyData.eqv d e)) := fun H1 a Q q =>
  h H1 a _ fun v H2 x hd => h2 H2 (a.trans x) _ fun w H3 y he => ⟨d, e, dp_ex y hd, he, s1, s2, q _ H3 (x.trans y) (.bl _)⟩
theorem d_neD (h : EvD K ta σ H d) (h2 : EvD K tb σ H e) (s1 : SeqAt.shaped d = true) (s2 : SeqAt.shaped e = true) : EvD K (tOp (rNeD K) ta tb) σ H (.bool (!PyData.eqv d e)) := fun H1 a Q q =>
  h H1 a _ fun v H2 x hd => h2 H2 (a.trans x) _ fun w H3 y he => ⟨d, e, dp_ex y hd, he, s1, s2, q _ H3 (x.trans y) (.bl _)⟩
/-- texts alike -/
theorem d_eqS {x y : Str} (h : EvD K ta σ H (.str x)) (h2 : EvD K tb σ H (.str y)) : EvD K (tOp rEq ta tb) σ H (.bool (decide (x = y))) :=
  d_eqTo (d_ofB (Evl.ev_op (ev_str h) (ev_str h2) (Evl.rv_eq rfl))) (by
    by_cases e : x = y
    · subst e; simp
    · rw [decide_eq_false e, decide_eq_false (fun z => e (V.str.inj z))])
theorem d_neS {x y : Str} (h : EvD K ta σ H (.str x)) (h2 : EvD K tb σ H (.str y)) : EvD K (tOp rNe ta tb) σ H (.bool (!decide (x = y))) :=
  d_eqTo (d_ofB (Evl.ev_op (ev_str h) (ev_str h2) (Evl.rv_ne rfl))) (by
    by_cases e : x = y
    · subst e; simp
    · rw [decide_eq_false e, decide_eq_false (fun z => e (V.str.inj z))])
theorem d_eqI {x y : Int} (h : EvD K ta σ H (.int x)) (h2 : EvD K tb σ H (.int y)) : EvD K (tOp rEq ta tb) σ H (.bool (decide (x = y))) :=
  d_eqTo (d_ofB (Evl.ev_op (ev_int h) (ev_int h2) (Evl.rv_eq rfl))) (by
    by_cases e : x = y
    · subst e; simp
    · rw [decide_eq_false e, decide_eq_false (fun z => e (V.int.inj z))])
theorem d_neI {x y : Int} (h : EvD K ta σ H (.int x)) (h2 : EvD K tb σ H (.int y)) : EvD K (tOp rNe ta tb) σ H (.bool (!decide (x = y))) :=
  d_eqTo (d_ofB (Evl.ev_op (ev_int h) (ev_int h2) (Evl.rv_ne rfl))) (by
    by_cases e : x = y
    · subst e; simp
    · rw [decide_eq_false e, decide_eq_false (fun z => e (V.int.inj z))])
theorem t_ofD {b : Bool} (h : EvD K te σ H (.bool b)) : EvT (tTest te) σ H b := Evl.et_test (ev_bl h)
theorem t_ofB {b : Bool} (h : EvD K te σ H (.bool b)) : EvT (tB te) σ H b := Evl.et_B (ev_bl h)
/-- isinstance -/
def tyName : PyData → String
  | .none => "NoneType"
  | .bool _ => "bool"
  | .int _ => "int"
  | .str _ => "str"
  | .list _ => "list"
  | .tuple _ => "tuple"
  | .dict _ => "dict"
theorem tyx {v : V} : ∀ {d : PyData}, Dp K H v d → TyX K H v (.type (tyName d)) := by
  intro d h
  cases h with
  | non => exact .base .non
  | bl b => exact .base (.bl b)
  | int i => exact .base (.int i)
  | str x => exact .base (.str x)
  | lst a b =>
    rcases a with a | a
    · rcases a with a | ⟨o, a⟩
      · exact .base (.lst a)
      · exact .base (.frz a)
    · obtain ⟨o, its, n, h1, h2, _⟩ := a
      exact .kList h1 h2
  | tup a b =>
    rcases a with a | a
    · rcases a with a | ⟨o, a⟩
      · exact .base (.tup a)
      · exact .fTuple a
    · obtain ⟨o, its, n, h1, h2, _⟩ := a
      exact .kTuple h1 h2
/-- isinstance(e, T), T a built-in class -/
def kitName (d : PyData) (T : String) : Bool := match kitB (tyName d) T with | some b => b | none => false
theorem d_isi {T : String} {b : Bool} (h : EvD K te σ H d) (hk : kitB (tyName d) T = some b) : EvD K (tCB (rIsi K) (tCons te (tCons (tC (.ty T)) tNil))) σ H (.bool b) := fun H1 a Q q =>
  h H1 a _ fun v H2 x hd => ⟨v, .ty T, .type (tyName d), .type T, b, rfl, .ty T, tyx hd, kit_ty hk, q _ H2 x (.bl b)⟩
theorem d_isiT {cs : List V} {us : List Value} {b : Bool} {ta : TA} (h : EvD K te σ H d) (hc : ∀ H1, Ex H H1 → EvA ta σ H1 cs) (hl : cs.length ≤ 100000) (hp : Paired ClsV cs us) (hk : PySem.W.kitAny K (.type (tyName d)) us = some b) :
    EvD K (tCB (rIsiT K) (tCons te (tCons (tTup ta) tNil))) σ H (.bool b) := fun H1 a Q q =>
  h H1 a _ fun v H2 x hd => hc H2 (a.trans x) H2 (Ex.refl H2) _ fun H3 y => ⟨Evl.sz_of hl, fun p hp' => ⟨v, p, cs, .type (tyName d), us, b, rfl, upd_same, hp, tyx (dp_ex (y.trans (Ex.new hp')) hd), hk, q _ _ ((x.trans y).trans (Ex.new hp')) (.bl b)⟩⟩
/-- not, and, or -/
theorem d_not {b : Bool} (h : EvD K te σ H (.bool b)) : EvD K (tNotV te) σ H (.bool (!b)) := d_ofB (Evl.ev_notV (ev_bl h))
theorem d_and {a b : Bool} (h1 : EvD K ta σ H (.bool a)) (h2 : a = true → EvD K tb σ H (.bool b)) : EvD K (tAndV ta tb) σ H (.bool (a && b)) := d_ofB (Evl.ev_andV (ev_bl h1) fun e => ev_bl (h2 e))
theorem d_or {a b : Bool} (h1 : EvD K ta σ H (.bool a)) (h2 : a = false → EvD K tb σ H (.bool b)) : EvD K (tOrV ta tb) σ H (.bool (a || b)) := d_ofB (Evl.ev_orV (ev_bl h1) fun e => ev_bl (h2 e))
/-- ints -/
theorem d_opI {g : Int → Int → V} {z : V} {i j : Int} {dz : PyData} (h : EvD K ta σ H (.int i)) (h2 : EvD K tb σ H (.int j)) (hz : ∀ G, Dp K G (g i j) dz) : EvD K (tOp (rI0 g) ta tb) σ H dz := fun H1 a Q q =>
  h H1 a _ fun v H2 x hd => h2 H2 (a.trans x) _ fun w H3 y he => by
    cases hd
    cases he
    exact ⟨i, j, rfl, rfl, q _ H3 (x.trans y) (hz _)⟩
theorem d_opS {g : Str → Str → V} {i j : Str} {dz : PyData} (h : EvD K ta σ H (.str i)) (h2 : EvD K tb σ H (.str j)) (hz : ∀ G, Dp K G (g i j) dz) : EvD K (tOp (fun x y H Q => ∃ i j, x = .str i ∧ y = .str j ∧ Q (g i j) H) ta tb) σ H dz := fun H1 a Q q =>
  h H1 a _ fun v H2 x hd => h2 H2 (a.trans x) _ fun w H3 y he => by
    cases hd
    cases he
    exact ⟨i, j, rfl, rfl, q _ H3 (x.trans y) (hz _)⟩
/-- c in s, c one sign -/
theorem d_inS {c : Nat} {z : Str} (h : EvD K ta σ H (.str ⟨#[c]⟩)) (h2 : EvD K tb σ H (.str z)) : EvD K (tOp rInS ta tb) σ H (.bool (decide (c ∈ z.cps.toList))) := fun H1 a Q q =>
  h H1 a _ fun v H2 x hd => h2 H2 (a.trans x) _ fun w H3 y he => by
    cases hd
    cases he
    exact ⟨c, z, rfl, rfl, q _ H3 (x.trans y) (.bl _)⟩
/-- xs[i] -/
theorem d_ixT {i : Int} (h : EvD K ta σ H (.tuple ds)) (h2 : EvD K tb σ H (.int i)) (hi : atI ds i = some d) : EvD K (tOp (rIxT K) ta tb) σ H d := fun H1 a Q q =>
  h H1 a _ fun v H2 x hd => h2 H2 (a.trans x) _ fun w H3 y he => by
    cases he
    cases hd with
    | tup hs hx =>
      rename_i p xs
      have hl : xs.length = ds.length := dpAll_len hx
      unfold atI at hi
      cases hk : ixN ds.length i with
      | none => rw [hk] at hi; cases hi
      | some k =>
        rw [hk] at hi
        obtain ⟨hk1, hk2⟩ := List.getElem?_eq_some_iff.mp hi
        have hx1 : xs[k]? = some xs[k] := List.getElem?_eq_getElem (by omega)
        exact ⟨_, xs, i, xs[k], rfl, rfl, Evl.ex_t y hs, by unfold atI; rw [show ixN xs.length i = some k from hl ▸ hk]; exact hx1, q _ H3 (x.trans y) (dp_ex y (dpAll_get hx hx1 hi))⟩
theorem d_ixL {i : Int} (h : EvD K ta σ H (.list ds)) (h2 : EvD K tb σ H (.int i)) (hi : atI ds i = some d) : EvD K (tOp (rIxL K) ta tb) σ H d := fun H1 a Q q =>
  h H1 a _ fun v H2 x hd => h2 H2 (a.trans x) _ fun w H3 y he => by
    cases he
    cases hd with
    | lst hs hx =>
      rename_i p xs
      have hl : xs.length = ds.length := dpAll_len hx
      unfold atI at hi
      cases hk : ixN ds.length i with
      | none => rw [hk] at hi; cases hi
      | some k =>
        rw [hk] at hi
        obtain ⟨hk1, hk2⟩ := List.getElem?_eq_some_iff.mp hi
        have hx1 : xs[k]? = some xs[k] := List.getElem?_eq_getElem (by omega)
        exact ⟨_, xs, i, xs[k], rfl, rfl, Evl.ex_l y hs, by unfold atI; rw [show ixN xs.length i = some k from hl ▸ hk]; exact hx1, q _ H3 (x.trans y) (dp_ex y (dpAll_get hx hx1 hi))⟩
theorem d_ixS {z : Str} {i : Int} {c : Nat} (h : EvD K ta σ H (.str z)) (h2 : EvD K tb σ H (.int i)) (hz : z.length ≤ 100000) (hi : atI z.cps.toList i = some c) : EvD K (tOp rIxS ta tb) σ H (.str ⟨#[c]⟩) :=
  d_ofS (Evl.ev_op (ev_str h) (ev_int h2) (Evl.rv_ixS hz hi))
/-- slices of texts -/
def EvP (K : PySem.W.Frag) (to : TO) (σ : L2.St) (H : Hp) (o : Option Int) : Prop := Evl.EvO to σ H o
theorem p_none : EvP K tNoPart σ H none := Evl.eo_none
theorem p_some {i : Int} (h : EvD K te σ H (.int i)) : EvP K (tPart te) σ H (some i) := Evl.eo_some (ev_int h)
theorem d_slS {tl th : TO} {z : Str} {lo hi : Option Int} (h : EvD K te σ H (.str z)) (h1 : EvP K tl σ H lo) (h2 : EvP K th σ H hi) (hz : z.length ≤ 100000) : EvD K (tSl rSlS te tl th) σ H (.str (cutS z lo hi)) := fun H1 a Q q =>
  h H1 a _ fun v H2 x hd => h1 H2 (a.trans x) _ fun H3 y => h2 H3 ((a.trans x).trans y) _ fun H4 w => by
    cases hd
    exact ⟨z, rfl, Evl.sz_of hz, q _ H4 ((x.trans y).trans w) (.str _)⟩
theorem cut_len (z : Str) (lo hi : Option Int) : (cutS z lo hi).length ≤ z.length := by
  unfold cutS
  have hl : z.cps.toList.length = z.length := Array.length_toList
  show (List.toArray _).size ≤ _
  rw [List.size_toArray, List.length_take, List.length_drop]
  omega
theorem cut_tl (z : Str) (lo hi : Option Int) : (cutS z lo hi).cps.toList = (z.cps.toList.drop (HT.sIx z.length 0 lo)).take (HT.sIx z.length z.length hi - HT.sIx z.length 0 lo) := rfl
/-- z[p:p+n] -/
theorem cut_mid (z : Str) (p n : Nat) : (cutS z (some (p : Int)) (some ((p + n : Nat) : Int))).cps.toList = (z.cps.toList.drop p).take n := by
  have hl : z.cps.toList.length = z.length := Array.length_toList
  rw [cut_tl, HT.sIx_nat, HT.sIx_nat]
  by_cases h : p ≤ z.length
  · rw [Nat.min_eq_left h]
    by_cases h2 : p + n ≤ z.length
    · rw [Nat.min_eq_left h2, show p + n - p = n by omega]
    · rw [Nat.min_eq_right (by omega), List.take_of_length_le (by rw [List.length_drop]; omega), List.take_of_length_le (by rw [List.length_drop]; omega)]
  · rw [List.drop_eq_nil_of_le (by omega : z.cps.toList.length ≤ p), List.drop_eq_nil_of_le (by omega)]
    simp
theorem cut_from (z : Str) (p : Nat) : (cutS z (some (p : Int)) none).cps.toList = z.cps.toList.drop p := by
  have hl : z.cps.toList.length = z.length := Array.length_toList
  rw [cut_tl, HT.sIx_nat, HT.sIx_none]
  by_cases h : p ≤ z.length
  · rw [Nat.min_eq_left h, List.take_of_length_le (by rw [List.length_drop]; omega)]
  · rw [List.drop_eq_nil_of_le (by omega : z.cps.toList.length ≤ p), List.drop_eq_nil_of_le (by omega)]
    simp
theorem cut_to (z : Str) (p : Nat) : (cutS z none (some (p : Int))).cps.toList = z.cps.toList.take p := by
  have hl : z.cps.toList.length = z.length := Array.length_toList
  rw [cut_tl, HT.sIx_nat, HT.sIx_none, List.drop_zero]
  by_cases h : p ≤ z.length
  · rw [Nat.min_eq_left h, Nat.sub_zero]
  · rw [Nat.min_eq_right (by omega), Nat.sub_zero, List.take_of_length_le (by omega), List.take_of_length_le (by omega)]
/-- texts joined -/
def rAddS : R2 := fun x y H Q => ∃ i j, x = .str i ∧ y = .str j ∧ i.length + j.length ≤ sizeLine ∧ Q (.str (i ++ j)) H
theorem d_addS {x y : Str} (h : EvD K ta σ H (.str x)) (h2 : EvD K tb σ H (.str y)) (hz : x.length + y.length ≤ 100000) : EvD K (tOp rAddS ta tb) σ H (.str (x ++ y)) := fun H1 a Q q =>
  h H1 a _ fun v H2 u hd => h2 H2 (a.trans u) _ fun w H3 y he => by
    cases hd
    cases he
    exact ⟨_, _, rfl, rfl, Evl.sz_of hz, q _ H3 (u.trans y) (.str _)⟩
theorem add_len (x y : Str) : (x ++ y).length = x.length + y.length := by
  show (x.cps ++ y.cps).size = _
  rw [Array.size_append]
  rfl
/-- all, any of a list -/
theorem bools_of {G : Hp} : ∀ {xs : List V} {bs : List Bool}, DpAll K G xs (bs.map PyData.bool) → xs = bs.map V.bl
  | _, [], .nil => rfl
  | _, _ :: _, .cons (.bl b) t => by rw [bools_of t]; rfl
theorem d_all {bs : List Bool} (h : EvD K te σ H (.list (bs.map PyData.bool))) : EvD K (tCB (rAll K) (tCons te tNil)) σ H (.bool (bs.all id)) := fun H1 a Q q =>
  h H1 a _ fun v H2 x hd => by
    cases hd with
    | lst hs hx => exact ⟨_, bs, rfl, by rw [← bools_of hx]; exact hs, q _ H2 x (.bl _)⟩
theorem d_any {bs : List Bool} (h : EvD K te σ H (.list (bs.map PyData.bool))) : EvD K (tCB (rAny K) (tCons te tNil)) σ H (.bool (bs.any id)) := fun H1 a Q q =>
  h H1 a _ fun v H2 x hd => by
    cases hd with
    | lst hs hx => exact ⟨_, bs, rfl, by rw [← bools_of hx]; exact hs, q _ H2 x (.bl _)⟩
/-- tuple(list), list(tuple) -/
def rTupQ (K : PySem.W.Frag) : List V → Hp → VK → Prop := fun xs H Q => ∃ p ys, xs = [.ref p] ∧ ((SqL K H p ys ∧ ∀ l, H l = none → Q (.ref l) (upd H l (.tup ys))) ∨ (SqT K H p ys ∧ Q (.ref p) H))
theorem d_tupOf (h : EvD K te σ H (.list ds)) : EvD K (tCB (rTupQ K) (tCons te tNil)) σ H (.tuple ds) := fun H1 a Q q =>
  h H1 a _ fun v H2 x hd => by
    cases hd with
    | lst hs hx => exact ⟨_, _, rfl, .inl ⟨hs, fun l hl => q _ _ (x.trans (Ex.new hl)) (.tup (Evl.st_of upd_same) (dpAll_ex (Ex.new hl) hx))⟩⟩
end
end AsKit

set_option maxHeartbeats 4000000
set_option autoImplicit false
/-! comprehensions and loops, told as data. -/
namespace AsKit
open PySem PySem.Spec PyProof.Rows L2 AsSort
open Evl (Ex Ev EvT EvA)

theorem lc_str {y : Str} {g : TG} {tt : TT} {te : TE} {vs : List Nat} {σ : L2.St} {H1 : Hp} {D : Addr} {Qd : Hp → Prop} (Pv : Nat → Hp → Prop) (h0 : Pv 0 (upd H1 D (.lst [])))
    (hs : ∀ i c H, y.cps.toList[i]? = some c → Pv i H → g (.str ⟨#[c]⟩) (wipe σ vs) H fun σ2 H2 => wipe σ2 vs = wipe σ vs ∧ tt σ2 H2 fun b H3 =>
      if b = true then te σ2 H3 fun y H4 => ∃ acc, H4 D = some (.lst acc) ∧ acc.length < sizeLine ∧ Pv (i + 1) (upd H4 D (.lst (acc ++ [y]))) else Pv (i + 1) H3) (hd : ∀ H, Pv y.cps.toList.length H → Qd H) :
    ∃ W : Nat → Nat → Hp → Prop, (∃ m, W 0 m (upd H1 D (.lst []))) ∧ ∀ i m H, W i m H →
      ((Its y).stop i H ∧ Qd H) ∨ ((Its y).go i H ∧ ∃ Nx : Hp → Prop, (∀ H', Nx H' → ∃ m', m' < m ∧ W (i + 1) m' H') ∧ ∀ x H', (Its y).yld i H x H' → g x (wipe σ vs) H' fun σ2 H2 => wipe σ2 vs = wipe σ vs ∧ tt σ2 H2 fun b H3 =>
        if b = true then te σ2 H3 fun y H4 => ∃ acc, H4 D = some (.lst acc) ∧ acc.length < sizeLine ∧ Nx (upd H4 D (.lst (acc ++ [y]))) else Nx H3) := by
  have hsz : y.cps.toList.length = y.cps.size := Array.length_toList
  refine ⟨fun i m H => m = y.cps.toList.length - i ∧ i ≤ y.cps.toList.length ∧ Pv i H, ⟨y.cps.toList.length, by simp, Nat.zero_le _, h0⟩, ?_⟩
  rintro i m H ⟨rfl, hi, p⟩
  by_cases hlt : i < y.cps.toList.length
  · refine .inr ⟨by show i < y.cps.size; omega, Pv (i + 1), fun H' p' => ⟨y.cps.toList.length - (i + 1), by omega, rfl, hlt, p'⟩, fun x H' z => ?_⟩
    obtain ⟨e, c, hc, rfl⟩ := z
    subst e
    exact hs i c _ (by rw [Array.getElem?_toList]; exact hc) p
  · have e : i = y.cps.toList.length := by omega
    subst e
    exact .inl ⟨by show y.cps.size ≤ _; omega, hd H p⟩

section
variable {K : PySem.W.Frag} {σ : L2.St} {H H' : Hp} {ta tb te tl : TE} {t u : TT} {d e : PyData} {ds : List PyData} {gt : TG} {vs : List Nat}
/-- D holds what the first i items gave -/
def Cd (K : PySem.W.Frag) (H : Hp) (ds : List PyData) (f : PyData → Bool) (g : PyData → PyData) (D : Addr) (i : Nat) (H' : Hp) : Prop := H D = none ∧ Ex H H' ∧ ∃ acc, H' D = some (.lst acc) ∧ DpAll K H' acc (((ds.take i).filter f).map g)
theorem immAll_of : ∀ {ds : List PyData}, (∀ d ∈ ds, imm d = true) → immAll ds = true
  | [], _ => rfl
  | d :: ds, h => by
    show (imm d && immAll ds) = true
    rw [h d (List.mem_cons_self ..), immAll_of fun z hz => h z (List.mem_cons_of_mem _ hz)]
    rfl
theorem imm_all {ds : List PyData} (h : immAll ds = true) : ∀ d ∈ ds, imm d = true := fun d hd => by
  obtain ⟨i, hi⟩ := List.mem_iff_getElem?.mp hd
  exact immAll_get h hi
theorem cd_imm {f : PyData → Bool} {g : PyData → PyData} (him : ∀ d ∈ ds, f d = true → imm (g d) = true) (i : Nat) : immAll (((ds.take i).filter f).map g) = true := immAll_of fun z hz => by
  obtain ⟨d, hd, rfl⟩ := List.mem_map.mp hz
  have h2 := List.mem_filter.mp hd
  exact him d (List.mem_of_mem_take h2.1) h2.2
theorem cd_turn {f : PyData → Bool} {g : PyData → PyData} {D : Addr} {i : Nat} {σ2 : L2.St} (him : ∀ d ∈ ds, f d = true → imm (g d) = true) (p : Cd K H ds f g D i H') (hi : ds[i]? = some d) (hz : ds.length ≤ 50000)
    (ht : EvT t σ2 H' (f d)) (he : f d = true → EvD K te σ2 H' (g d)) :
    t σ2 H' fun b H3 => if b = true then te σ2 H3 fun y H4 => ∃ acc, H4 D = some (.lst acc) ∧ acc.length < sizeLine ∧ Cd K H ds f g D (i + 1) (upd H4 D (.lst (acc ++ [y]))) else Cd K H ds f g D (i + 1) H3 := by
  obtain ⟨p1, p2, acc, p3, p4⟩ := p
  have ek : ds.take (i + 1) = ds.take i ++ [d] := by rw [List.take_add_one, hi]; simp
  refine ht H' (Ex.refl _) _ fun H3 e3 => ?_
  cases hf : f d with
  | true =>
    show te σ2 H3 fun y H4 => ∃ acc, H4 D = some (.lst acc) ∧ acc.length < sizeLine ∧ Cd K H ds f g D (i + 1) (upd H4 D (.lst (acc ++ [y])))
    refine he hf H3 e3 _ fun y H4 e4 hy => ?_
    have p5 : H4 D = some (.lst acc) := e4 D _ (e3 D _ p3)
    have hl : acc.length ≤ 50000 := by
      rw [dpAll_len p4, List.length_map]
      have h1 := List.length_filter_le f (ds.take i)
      have h2 := List.length_take_le i ds
      have h3 := List.length_take_le' i ds
      omega
    refine ⟨acc, p5, Evl.sz_lt (by omega), p1, Ex.mut ((p2.trans e3).trans e4) p1, acc ++ [y], upd_same, ?_⟩
    have h6 : DpAll K H4 acc (((ds.take i).filter f).map g) := dpAll_ex (e3.trans e4) p4
    have hd' : d ∈ ds := List.mem_of_getElem? hi
    rw [ek, List.filter_append, List.map_append, List.filter_cons, if_pos hf]
    exact dpAll_snoc (dp_tu (tu_lst p5) (him d hd' hf) hy) (dpAll_tu (tu_lst p5) (cd_imm him i) h6)
  | false =>
    show Cd K H ds f g D (i + 1) H3
    refine ⟨p1, p2.trans e3, acc, e3 D _ p3, ?_⟩
    rw [ek, List.filter_append, List.map_append, List.filter_cons, if_neg (by rw [hf]; decide)]
    show DpAll K H3 acc (_ ++ [])
    rw [List.append_nil]
    exact dpAll_ex e3 p4
theorem cd_end {f : PyData → Bool} {g : PyData → PyData} {D : Addr} (p : Cd K H ds f g D ds.length H') : Ex H H' ∧ Dp K H' (.ref D) (.list ((ds.filter f).map g)) := by
  obtain ⟨p1, p2, acc, p3, p4⟩ := p
  rw [List.take_length] at p4
  exact ⟨p2, .lst (Evl.sq_of p3) p4⟩
theorem cd_end2 {f : PyData → Bool} {g : PyData → PyData} {D : Addr} {n : Nat} (hl : ds.length = n) (p : Cd K H ds f g D n H') : Ex H H' ∧ Dp K H' (.ref D) (.list ((ds.filter f).map g)) := by
  subst hl
  exact cd_end p
theorem cd_start {f : PyData → Bool} {g : PyData → PyData} {D : Addr} (h : H D = none) : Cd K H ds f g D 0 (upd H D (.lst [])) := ⟨h, Ex.new h, [], upd_same, by rw [List.take_zero]; exact .nil⟩
/-- what a turn asks: the target takes the item d, then test and expression -/
def Turn (K : PySem.W.Frag) (gt : TG) (t : TT) (te : TE) (vs : List Nat) (σ : L2.St) (H : Hp) (d : PyData) (b : Bool) (o : PyData) : Prop := ∀ x H1, Ex H H1 → Dp K H1 x d → ∀ k : L2.St → Hp → Prop,
  (∀ σ2, wipe σ2 vs = wipe σ vs → EvT t σ2 H1 b → (b = true → EvD K te σ2 H1 o) → k σ2 H1) → gt x (wipe σ vs) H1 k
theorem d_lcT (f : PyData → Bool) (g : PyData → PyData) (h : EvD K tl σ H (.tuple ds)) (hz : ds.length ≤ 50000) (him : ∀ d ∈ ds, f d = true → imm (g d) = true) (ht : ∀ d ∈ ds, Turn K gt t te vs σ H d (f d) (g d)) :
    EvD K (tLc (iTup K tl) gt t te vs) σ H (.list ((ds.filter f).map g)) := fun H1 a Q q => h H1 a _ fun v H2 x hd => by
  cases hd with
  | tup hs hx =>
    refine ⟨_, rfl, ⟨_, hs⟩, fun D hD => lc_tup (Cd K H2 ds f g D) (cd_start hD) (fun i H' _ p => Evl.ex_t p.2.1 hs) (fun i y H' hi p => ?_) fun H' p => ?_⟩
    · have hi2 : i < ds.length := by rw [← dpAll_len hx]; exact (List.getElem?_eq_some_iff.mp hi).1
      have hd : ds[i]? = some ds[i] := List.getElem?_eq_getElem hi2
      exact ht ds[i] (List.getElem_mem hi2) y H' (a.trans (x.trans p.2.1)) (dp_ex p.2.1 (dpAll_get hx hi hd)) _ fun σ2 w h1 h2 => ⟨w, cd_turn him p hd hz h1 h2⟩
    · rw [dpAll_len hx] at p
      have z := cd_end p
      exact q _ H' (x.trans z.1) z.2
theorem d_lcL (f : PyData → Bool) (g : PyData → PyData) (h : EvD K tl σ H (.list ds)) (hz : ds.length ≤ 50000) (him : ∀ d ∈ ds, f d = true → imm (g d) = true) (ht : ∀ d ∈ ds, Turn K gt t te vs σ H d (f d) (g d)) :
    EvD K (tLc (iList K tl) gt t te vs) σ H (.list ((ds.filter f).map g)) := fun H1 a Q q => h H1 a _ fun v H2 x hd => by
  cases hd with
  | lst hs hx =>
    refine ⟨_, rfl, ⟨_, hs⟩, fun D hD => lc_list (Cd K H2 ds f g D) (cd_start hD) (fun i H' _ p => Evl.ex_l p.2.1 hs) (fun i y H' hi p => ?_) fun H' p => ?_⟩
    · have hi2 : i < ds.length := by rw [← dpAll_len hx]; exact (List.getElem?_eq_some_iff.mp hi).1
      have hd : ds[i]? = some ds[i] := List.getElem?_eq_getElem hi2
      exact ht ds[i] (List.getElem_mem hi2) y H' (a.trans (x.trans p.2.1)) (dp_ex p.2.1 (dpAll_get hx hi hd)) _ fun σ2 w h1 h2 => ⟨w, cd_turn him p hd hz h1 h2⟩
    · rw [dpAll_len hx] at p
      have z := cd_end p
      exact q _ H' (x.trans z.1) z.2
/-- a text's sgns -/
def sgns (z : Str) : List PyData := z.cps.toList.map fun c => .str ⟨#[c]⟩
theorem d_lcS {z : Str} (f : PyData → Bool) (g : PyData → PyData) (h : EvD K tl σ H (.str z)) (hz : z.length ≤ 50000) (him : ∀ d ∈ sgns z, f d = true → imm (g d) = true) (ht : ∀ c ∈ z.cps.toList, Turn K gt t te vs σ H (.str ⟨#[c]⟩) (f (.str ⟨#[c]⟩)) (g (.str ⟨#[c]⟩))) :
    EvD K (tLc (iStr tl) gt t te vs) σ H (.list (((sgns z).filter f).map g)) := fun H1 a Q q => h H1 a _ fun v H2 x hd => by
  cases hd
  have hl : (sgns z).length = z.cps.toList.length := List.length_map ..
  have hl2 : z.cps.toList.length = z.length := Array.length_toList
  refine ⟨z, rfl, fun D hD => lc_str (Cd K H2 (sgns z) f g D) (cd_start hD) (fun i c H' hi p => ?_) fun H' p => ?_⟩
  · have hd : (sgns z)[i]? = some (.str ⟨#[c]⟩) := by unfold sgns; rw [List.getElem?_map, hi]; rfl
    exact ht c (List.mem_of_getElem? hi) _ H' (a.trans (x.trans p.2.1)) (.str _) _ fun σ2 w h1 h2 => ⟨w, cd_turn him p hd (by omega) h1 h2⟩
  · have z := cd_end2 hl p
    exact q _ H' (x.trans z.1) z.2
/-- range(lo, hi) -/
def rngD (lo : Int) (n : Nat) : List PyData := (List.range n).map fun (i : Nat) => .int (lo + i)
theorem d_lcR2 {ta : TA} {lo hi : Int} (f : PyData → Bool) (g : PyData → PyData) (h : EvDs K ta σ H [.int lo, .int hi]) (hn : -1000 ≤ lo ∧ lo ≤ 40000 ∧ -1000 ≤ hi ∧ hi ≤ 40000) (him : ∀ d ∈ rngD lo (hi - lo).toNat, f d = true → imm (g d) = true)
    (ht : ∀ i : Nat, i < (hi - lo).toNat → Turn K gt t te vs σ H (.int (lo + i)) (f (.int (lo + i))) (g (.int (lo + i)))) :
    EvD K (tLc (iRng2 ta) gt t te vs) σ H (.list (((rngD lo (hi - lo).toNat).filter f).map g)) := fun H1 a Q q => ds_ev2 h H1 a _ fun H2 x => by
  have hl : (rngD lo (hi - lo).toNat).length = (hi - lo).toNat := by unfold rngD; rw [List.length_map, List.length_range]
  refine ⟨lo, hi, rfl, by omega, fun D hD => lc_range (lo := lo) (n := (hi - lo).toNat) (Cd K H2 (rngD lo (hi - lo).toNat) f g D) (cd_start hD) (fun i H' hi p => ?_) fun H' p => ?_⟩
  · have hd : (rngD lo (‹Int› - lo).toNat)[i]? = some (.int (lo + i)) := by unfold rngD; rw [List.getElem?_map, List.getElem?_range hi]; rfl
    exact ht i hi _ H' (a.trans (x.trans p.2.1)) (.int _) _ fun σ2 w h1 h2 => ⟨w, cd_turn him p hd (by omega) h1 h2⟩
  · have z := cd_end2 hl p
    exact q _ H' (x.trans z.1) z.2
theorem d_lcR1 {ta : TA} {hi : Int} (f : PyData → Bool) (g : PyData → PyData) (h : EvDs K ta σ H [.int hi]) (hn : -1000 ≤ hi ∧ hi ≤ 40000) (him : ∀ d ∈ rngD 0 hi.toNat, f d = true → imm (g d) = true)
    (ht : ∀ i : Nat, i < hi.toNat → Turn K gt t te vs σ H (.int (0 + i)) (f (.int (0 + i))) (g (.int (0 + i)))) :
    EvD K (tLc (iRng1 ta) gt t te vs) σ H (.list (((rngD 0 hi.toNat).filter f).map g)) := fun H1 a Q q => ds_ev h H1 a _ fun H2 x => by
  have hl : (rngD 0 hi.toNat).length = hi.toNat := by unfold rngD; rw [List.length_map, List.length_range]
  refine ⟨hi, rfl, by omega, by omega, fun D hD => lc_range (lo := 0) (n := hi.toNat) (Cd K H2 (rngD 0 hi.toNat) f g D) (cd_start hD) (fun i H' hi p => ?_) fun H' p => ?_⟩
  · have hd : (rngD 0 (‹Int›).toNat)[i]? = some (.int (0 + i)) := by unfold rngD; rw [List.getElem?_map, List.getElem?_range hi]; rfl
    exact ht i hi _ H' (a.trans (x.trans p.2.1)) (.int _) _ fun σ2 w h1 h2 => ⟨w, cd_turn him p hd (by omega) h1 h2⟩
  · have z := cd_end2 hl p
    exact q _ H' (x.trans z.1) z.2
variable {D : Ends} {tu tw tz : TS}
theorem s_ret {d : PyData} (h : EvD K te σ H d) (k : ∀ v H1, Ex H H1 → Dp K H1 v d → D.rt v H1) : tRet te D σ H := h H (Ex.refl H) _ k
theorem q_asg {i : Nat} {d : PyData} (h : EvD K te σ H d) (k : ∀ v H1, Ex H H1 → Dp K H1 v d → tz D (σ.set i (some v)) H1) : tSeq (tAsg te (gName i)) tz D σ H := h H (Ex.refl H) _ k
theorem s_asg {i : Nat} {d : PyData} (h : EvD K te σ H d) (k : ∀ v H1, Ex H H1 → Dp K H1 v d → D.nx (σ.set i (some v)) H1) : tAsg te (gName i) D σ H := h H (Ex.refl H) _ k
end
end AsKit

set_option maxHeartbeats 4000000
set_option autoImplicit false
/-! words for the defs of the program: names of the top, promises, tests. -/
namespace AsKit
open PySem PySem.Spec PyProof.Rows L2 AsSort
open Evl (Ex Ev EvT EvA)

/-- a def of the top -/
def Df (K : PySem.W.Frag) (mg : Str → Option Value) (x : Str) (st : Stmt) : Prop := ∃ f fd, FunD K x x (defArgs st) (defBody st) (defScope st) [] [] f fd ∧ mg x = some (.ref f)
def blts : List Str := ["isinstance", "int", "bool", "str", "tuple", "list", "dict", "len", "range", "all", "any", "set", "sorted"]
def Bl (mg : Str → Option Value) : Prop := ∀ x, x ∈ blts → mg x = none
/-- a number of the top -/
def Gn (mg : Str → Option Value) (x : Str) (n : Int) : Prop := ∃ u, mg x = some u ∧ RelV (.int n) u
abbrev Cl := C8.Cal
theorem cl_of {P : Program} {w : World} {K : PySem.W.Frag} {mg : Str → Option Value} {base : Heap} {x : Str} {st : Stmt} {N ps : List Str} {k : Nat} {sp : Sp} (D : Df K mg x st) (S : FnScope N ps (defScope st)) (len : ∀ vs H Q E, sp vs H Q E → vs.length = ps.length)
    (hb : ∀ (kV doc pm : Value) (an : Option Addr) (cdv ct : Value) (us : List Value), us.length = ps.length → bindArgs (PySem.W.fnOf x x (defArgs st) (defBody st) (defScope st) .none kV doc pm an cdv ct) ⟨us, []⟩ = pure (ps.zip us))
    (hbody : ∀ (f : Addr) (cdv : Value) (A : Around) (outer : List Env) (s : Shared) (H : Hp) (vs : List V) (Q : VK) (E : XK), Room k (A.deeper (envOfC x (defScope st) s.heap.objs.size f cdv)) → sp vs H Q E →
      ∃ t, PSs (cxOf CX0 P w K mg base N x (defScope st) f cdv A outer s H E).nox (defBody st) t ∧ t { nx := fun _ H' => Q .non H', rt := Q } (start N vs) H) : Cl P w K mg base (k + 1) x sp [] := by
  obtain ⟨f, fd, F, hm⟩ := D
  exact ⟨f, fd, ps, [], F.ok S len fun cdv A outer s H vs Q E hr h => let ⟨t, z, q⟩ := hbody f cdv A outer s H vs Q E hr h; ⟨t, PSs.nox z, q⟩, hm, F.kp, F.bindsN hb, .nil⟩
/-- .. with its address and its parameters' names -/
def Kl (P : Program) (w : World) (K : PySem.W.Frag) (mg : Str → Option Value) (base : Heap) (k : Nat) (x : Str) (ps : List Str) (sp : Sp) : Prop := ∃ f fd, FnOk P w K mg base CX0 k f fd ps sp ∧ mg x = some (.ref f) ∧ PySem.W.keepIn K (.ref f) = true ∧ Binds K fd ps []
theorem kl_of {P : Program} {w : World} {K : PySem.W.Frag} {mg : Str → Option Value} {base : Heap} {x : Str} {st : Stmt} {N ps : List Str} {k : Nat} {sp : Sp} (D : Df K mg x st) (S : FnScope N ps (defScope st)) (len : ∀ vs H Q E, sp vs H Q E → vs.length = ps.length)
    (hb : ∀ (kV doc pm : Value) (an : Option Addr) (cdv ct : Value) (us : List Value), us.length = ps.length → bindArgs (PySem.W.fnOf x x (defArgs st) (defBody st) (defScope st) .none kV doc pm an cdv ct) ⟨us, []⟩ = pure (ps.zip us))
    (hbody : ∀ (f : Addr) (cdv : Value) (A : Around) (outer : List Env) (s : Shared) (H : Hp) (vs : List V) (Q : VK) (E : XK), Room k (A.deeper (envOfC x (defScope st) s.heap.objs.size f cdv)) → sp vs H Q E →
      ∃ t, PSs (cxOf CX0 P w K mg base N x (defScope st) f cdv A outer s H E).nox (defBody st) t ∧ t { nx := fun _ H' => Q .non H', rt := Q } (start N vs) H) : Kl P w K mg base (k + 1) x ps sp := by
  obtain ⟨f, fd, F, hm⟩ := D
  exact ⟨f, fd, F.ok S len fun cdv A outer s H vs Q E hr h => let ⟨t, z, q⟩ := hbody f cdv A outer s H vs Q E hr h; ⟨t, PSs.nox z, q⟩, hm, F.kp, F.bindsN hb⟩
theorem fnok_of {P : Program} {w : World} {K : PySem.W.Frag} {mg : Str → Option Value} {base : Heap} {x : Str} {st : Stmt} {N ps : List Str} {k : Nat} {sp : Sp} {f : Addr} {fd : FuncData} (F : FunD K x x (defArgs st) (defBody st) (defScope st) [] [] f fd) (S : FnScope N ps (defScope st)) (len : ∀ vs H Q E, sp vs H Q E → vs.length = ps.length)
    (hbody : ∀ (f : Addr) (cdv : Value) (A : Around) (outer : List Env) (s : Shared) (H : Hp) (vs : List V) (Q : VK) (E : XK), Room k (A.deeper (envOfC x (defScope st) s.heap.objs.size f cdv)) → sp vs H Q E →
      ∃ t, PSs (cxOf CX0 P w K mg base N x (defScope st) f cdv A outer s H E).nox (defBody st) t ∧ t { nx := fun _ H' => Q .non H', rt := Q } (start N vs) H) : FnOk P w K mg base CX0 (k + 1) f fd ps sp :=
  F.ok S len fun cdv A outer s H vs Q E hr h => let ⟨t, z, q⟩ := hbody f cdv A outer s H vs Q E hr h; ⟨t, PSs.nox z, q⟩
theorem Kl.cl {P : Program} {w : World} {K : PySem.W.Frag} {mg : Str → Option Value} {base : Heap} {k : Nat} {x : Str} {ps : List Str} {sp : Sp} (h : Kl P w K mg base k x ps sp) : Cl P w K mg base k x sp [] := by
  obtain ⟨f, fd, F, hm, kp, b⟩ := h
  exact ⟨f, fd, ps, [], F, hm, kp, b, .nil⟩
section
variable {K : PySem.W.Frag} {σ : L2.St} {H H' : Hp} {ta tb tc te tl : TE} {t u : TT} {d e : PyData} {ds : List PyData}
theorem len_sp {K : PySem.W.Frag} {pre : List PyData → Prop} {g : List PyData → PyData} {n : Nat} (h : ∀ ds, pre ds → ds.length = n) : ∀ vs H Q E, spP K pre g vs H Q E → vs.length = n := fun vs H Q E ⟨ds, a, b, _⟩ => (dpAll_len a).trans (h ds b)
/-- chains -/
theorem d_chI {g1 g2 : Int → Int → Bool} {i j k : Int} (h1 : EvD K ta σ H (.int i)) (h2 : EvD K tb σ H (.int j)) (h3 : g1 i j = true → EvD K tc σ H (.int k)) :
    EvD K (tChain (rI0 fun i j => .bl (g1 i j)) (rI0 fun i j => .bl (g2 i j)) ta tb tc) σ H (.bool (g1 i j && g2 j k)) := fun H1 a Q q =>
  h1 H1 a _ fun v H2 x hd => h2 H2 (a.trans x) _ fun w H3 y he => by
    cases hd
    cases he
    refine ⟨i, j, rfl, rfl, _, rfl, ?_⟩
    cases hg : g1 i j with
    | true =>
      refine h3 hg H3 (a.trans (x.trans y)) _ fun z H4 u hz => ?_
      cases hz
      exact ⟨j, k, rfl, rfl, q _ H4 ((x.trans y).trans u) (by rw [hg]; exact .bl _)⟩
    | false => exact q _ H3 (x.trans y) (by rw [hg]; exact .bl false)
theorem d_chS {g1 g2 : Str → Str → Bool} {i j k : Str} (h1 : EvD K ta σ H (.str i)) (h2 : EvD K tb σ H (.str j)) (h3 : EvD K tc σ H (.str k)) :
    EvD K (tChain (fun x y H Q => ∃ i j, x = .str i ∧ y = .str j ∧ Q (.bl (g1 i j)) H) (fun x y H Q => ∃ i j, x = .str i ∧ y = .str j ∧ Q (.bl (g2 i j)) H) ta tb tc) σ H (.bool (g1 i j && g2 j k)) := fun H1 a Q q =>
  h1 H1 a _ fun v H2 x hd => h2 H2 (a.trans x) _ fun w H3 y he => by
    cases hd
    cases he
    refine ⟨i, j, rfl, rfl, _, rfl, ?_⟩
    cases hg : g1 i j with
    | true =>
      refine h3 H3 (a.trans (x.trans y)) _ fun z H4 u hz => ?_
      cases hz
      exact ⟨j, k, rfl, rfl, q _ H4 ((x.trans y).trans u) (by rw [hg]; exact .bl _)⟩
    | false => exact q _ H3 (x.trans y) (by rw [hg]; exact .bl false)
/-- is d of the built-in class T -/
def isD (T : String) (d : PyData) : Bool := match kitB (tyName d) T with
  | some b => b
  | none => false
def names7 : List String := ["NoneType", "bool", "int", "str", "list", "tuple", "dict"]
theorem ty7 : ∀ d : PyData, tyName d ∈ names7
  | .none => by decide +kernel
  | .bool _ => (by decide +kernel : ("bool" : String) ∈ names7)
  | .int _ => (by decide +kernel : ("int" : String) ∈ names7)
  | .str _ => (by decide +kernel : ("str" : String) ∈ names7)
  | .list _ => (by decide +kernel : ("list" : String) ∈ names7)
  | .tuple _ => (by decide +kernel : ("tuple" : String) ∈ names7)
  | .dict _ => (by decide +kernel : ("dict" : String) ∈ names7)
theorem isD_kit {T : String} (h : (names7.all fun y => (kitB y T).isSome) = true) (d : PyData) : kitB (tyName d) T = some (isD T d) := by
  have z := List.all_eq_true.mp h _ (ty7 d)
  unfold isD
  cases e : kitB (tyName d) T with
  | none => rw [e] at z; cases z
  | some b => rfl
theorem d_isD {T : String} (h : EvD K te σ H d) (hk : (names7.all fun y => (kitB y T).isSome) = true := by decide +kernel) : EvD K (tCB (rIsi K) (tCons te (tCons (tC (.ty T)) tNil))) σ H (.bool (isD T d)) := d_isi h (isD_kit hk d)
theorem isD_str {d : PyData} (h : isD "str" d = true) : ∃ z, d = .str z := by
  have z : ∀ y ∈ names7, y ≠ "str" → kitB y "str" = some false := by decide +kernel
  cases d with
  | str x => exact ⟨x, rfl⟩
  | _ => exact absurd h (by unfold isD; rw [z _ (ty7 _) (by show _ ≠ _; simp only [tyName]; decide)]; decide)
theorem isD_tup {d : PyData} (h : isD "tuple" d = true) : ∃ z, d = .tuple z := by
  have z : ∀ y ∈ names7, y ≠ "tuple" → kitB y "tuple" = some false := by decide +kernel
  cases d with
  | tuple x => exact ⟨x, rfl⟩
  | _ => exact absurd h (by unfold isD; rw [z _ (ty7 _) (by show _ ≠ _; simp only [tyName]; decide)]; decide)
theorem isD_str1 (z : Str) : isD "str" (.str z) = true := (by decide +kernel : (match kitB "str" "str" with | some b => b | none => false) = true)
theorem isD_tup1 (z : List PyData) : isD "tuple" (.tuple z) = true := (by decide +kernel : (match kitB "tuple" "tuple" with | some b => b | none => false) = true)
def one (g : PyData → PyData) : List PyData → PyData
  | [d] => g d
  | _ => .none
def two (g : PyData → PyData → PyData) : List PyData → PyData
  | [d, e] => g d e
  | _ => .none
def three (g : PyData → PyData → PyData → PyData) : List PyData → PyData
  | [d, e, f] => g d e f
  | _ => .none
def four (g : PyData → PyData → PyData → PyData → PyData) : List PyData → PyData
  | [d, e, f, u] => g d e f u
  | _ => .none
/-- ints compared -/
theorem d_cmpI {g : Int → Int → Bool} {i j : Int} (h1 : EvD K ta σ H (.int i)) (h2 : EvD K tb σ H (.int j)) : EvD K (tOp (rI0 fun i j => .bl (g i j)) ta tb) σ H (.bool (g i j)) := d_opI (z := .non) h1 h2 fun _ => .bl _
theorem d_cmpS {g : Str → Str → Bool} {i j : Str} (h1 : EvD K ta σ H (.str i)) (h2 : EvD K tb σ H (.str j)) : EvD K (tOp (fun x y H Q => ∃ i j, x = .str i ∧ y = .str j ∧ Q (.bl (g i j)) H) ta tb) σ H (.bool (g i j)) := d_opS h1 h2 fun _ => .bl _
theorem d_arI {g : Int → Int → Int} {i j : Int} (h1 : EvD K ta σ H (.int i)) (h2 : EvD K tb σ H (.int j)) : EvD K (tOp (rI0 fun i j => .int (g i j)) ta tb) σ H (.int (g i j)) := d_opI (z := .non) h1 h2 fun _ => .int _
/-- an if whose test is known -/
theorem s_ifD {D : Ends} {tu tw : TS} {b : Bool} (h : EvT t σ H b) (h1 : b = true → ∀ H1, Ex H H1 → tu D σ H1) (h2 : b = false → ∀ H1, Ex H H1 → tw D σ H1) : tIfS t tu tw D σ H := Evl.s_if h h1 h2
theorem at_dp {i : Nat} {v : V} (h : σ[i]? = some (some v)) (hd : Dp K H v d) : At K σ H i d := ⟨v, h, hd⟩
theorem s_exprD {D : Ends} (h : EvD K te σ H d) (k : ∀ H1, Ex H H1 → D.nx σ H1) : tDrop te D σ H := h H (Ex.refl H) _ fun _ H1 e _ => k H1 e
theorem q_exprD {D : Ends} {tz : TS} (h : EvD K te σ H d) (k : ∀ H1, Ex H H1 → tz D σ H1) : tSeq (tDrop te) tz D σ H := h H (Ex.refl H) _ fun _ H1 e _ => k H1 e
/-- a list that grows: at l, unknown in H0 -/
def Ac (K : PySem.W.Frag) (H0 : Hp) (l : Addr) (ds : List PyData) (H' : Hp) : Prop := H0 l = none ∧ Ex H0 H' ∧ ∃ acc, H' l = some (.lst acc) ∧ DpAll K H' acc ds
theorem ac_new {H0 H1 : Hp} {l : Addr} (h : H0 l = none) (e : Ex H0 H1) (h2 : H1 l = some (.lst [])) : Ac K H0 l [] H1 := ⟨h, e, [], h2, .nil⟩
theorem Ac.mono {H0 H1 H2 : Hp} {l : Addr} (a : Ac K H0 l ds H1) (e : Ex H1 H2) : Ac K H0 l ds H2 := let ⟨h1, h2, acc, h3, h4⟩ := a; ⟨h1, h2.trans e, acc, e _ _ h3, dpAll_ex e h4⟩
theorem ac_app {H0 H1 : Hp} {l : Addr} {acc : List V} {v : V} (h1 : H0 l = none) (h2 : Ex H0 H1) (h3 : H1 l = some (.lst acc)) (h4 : DpAll K H1 acc ds) (him : immAll ds = true) (hd : imm d = true) (hv : Dp K H1 v d) : Ac K H0 l (ds ++ [d]) (upd H1 l (.lst (acc ++ [v]))) :=
  ⟨h1, Ex.mut h2 h1, acc ++ [v], upd_same, dpAll_snoc (dp_tu (tu_lst h3) hd hv) (dpAll_tu (tu_lst h3) him h4)⟩
/-- l.append(e) -/
theorem s_appD {D : Ends} {i : Nat} {H0 : Hp} {l : Addr} (hσ : σ[i]? = some (some (.ref l))) (a : Ac K H0 l ds H) (h : EvD K te σ H d) (him : immAll ds = true) (hd : imm d = true) (hz : ds.length < 100000) (k : ∀ H1, Ac K H0 l (ds ++ [d]) H1 → D.nx σ H1) :
    tDrop (tBM K "list" rAppend (tVar i) (tCons te tNil)) D σ H := by
  obtain ⟨h1, h2, acc, h3, h4⟩ := a
  refine ⟨_, hσ, .inl ⟨rfl, acc, Evl.sq_of h3⟩, h H (Ex.refl H) _ fun v H1 e hv => ?_⟩
  exact ⟨l, acc, v, rfl, rfl, e l _ h3, Evl.sz_lt (by rw [dpAll_len h4]; exact hz), k _ (ac_app h1 (h2.trans e) (e l _ h3) (dpAll_ex e h4) him hd hv)⟩
theorem ac_dp {H0 H1 : Hp} {l : Addr} (a : Ac K H0 l ds H1) : Dp K H1 (.ref l) (.list ds) := let ⟨_, _, _, h3, h4⟩ := a; .lst (Evl.sq_of h3) h4
/-- for x in a list of data that stays; what is known of it, it had in H0 -/
theorem s_forLD {D : Ends} {tu : TS} {g : TG} {H0 : Hp} {v : V} {i : Nat} (hσ : σ[i]? = some (some v)) (hv : Dp K H0 v (.list ds)) (e : Ex H0 H) (Pv : Nat → L2.St → Hp → Prop) (h0 : Pv 0 σ H) (hx : ∀ j σ' H', Pv j σ' H' → Ex H0 H')
    (hs : ∀ j d x σ' H', ds[j]? = some d → Dp K H' x d → Pv j σ' H' → g x σ' H' fun σ2 H2 => tu { D with nx := Pv (j + 1), ct := Pv (j + 1), bk := D.nx } σ2 H2) (hd : ∀ σ' H', Pv ds.length σ' H' → D.nx σ' H') : tFor (iList K (tVar i)) g tu D σ H := by
  cases hv with
  | lst hq hl =>
    refine ⟨_, hσ, _, rfl, ⟨_, Evl.ex_l e hq⟩, for_list Pv h0 (fun j σ' H' _ p => Evl.ex_l (hx j σ' H' p) hq) (fun j x σ' H' hj p => ?_) fun σ' H' p => hd σ' H' (by rw [← dpAll_len hl]; exact p)⟩
    have hj2 : j < ds.length := by rw [← dpAll_len hl]; exact (List.getElem?_eq_some_iff.mp hj).1
    have hd2 : ds[j]? = some ds[j] := List.getElem?_eq_getElem hj2
    exact hs j _ x σ' H' hd2 (dp_ex (hx j σ' H' p) (dpAll_get hl hj hd2)) p
theorem s_forTD {D : Ends} {tu : TS} {g : TG} {H0 : Hp} {v : V} {i : Nat} (hσ : σ[i]? = some (some v)) (hv : Dp K H0 v (.tuple ds)) (e : Ex H0 H) (Pv : Nat → L2.St → Hp → Prop) (h0 : Pv 0 σ H) (hx : ∀ j σ' H', Pv j σ' H' → Ex H0 H')
    (hs : ∀ j d x σ' H', ds[j]? = some d → Dp K H' x d → Pv j σ' H' → g x σ' H' fun σ2 H2 => tu { D with nx := Pv (j + 1), ct := Pv (j + 1), bk := D.nx } σ2 H2) (hd : ∀ σ' H', Pv ds.length σ' H' → D.nx σ' H') : tFor (iTup K (tVar i)) g tu D σ H := by
  cases hv with
  | tup hq hl =>
    refine ⟨_, hσ, _, rfl, ⟨_, Evl.ex_t e hq⟩, for_tup Pv h0 (fun j σ' H' _ p => Evl.ex_t (hx j σ' H' p) hq) (fun j x σ' H' hj p => ?_) fun σ' H' p => hd σ' H' (by rw [← dpAll_len hl]; exact p)⟩
    have hj2 : j < ds.length := by rw [← dpAll_len hl]; exact (List.getElem?_eq_some_iff.mp hj).1
    have hd2 : ds[j]? = some ds[j] := List.getElem?_eq_getElem hj2
    exact hs j _ x σ' H' hd2 (dp_ex (hx j σ' H' p) (dpAll_get hl hj hd2)) p
/-- ints, where the operation asks something of them -/
theorem d_opC {C : Int → Int → Prop} {g : Int → Int → Int} {i j : Int} (h : EvD K ta σ H (.int i)) (h2 : EvD K tb σ H (.int j)) (hc : C i j) : EvD K (tOp (rI C fun i j => .int (g i j)) ta tb) σ H (.int (g i j)) := fun H1 a Q q =>
  h H1 a _ fun v H2 x hd => h2 H2 (a.trans x) _ fun w H3 y he => by
    cases hd
    cases he
    exact ⟨i, j, rfl, rfl, hc, q _ H3 (x.trans y) (.int _)⟩
/-- int(x) -/
def rInt1 : List V → Hp → VK → Prop := fun xs H Q => (∃ i, xs = [.int i] ∧ Q (.int i) H) ∨ ∃ k, xs = [.bl k] ∧ Q (.int (if k then 1 else 0)) H
theorem d_int1 {i : Int} (h : EvD K te σ H (.int i)) : EvD K (tCB rInt1 (tCons te tNil)) σ H (.int i) := fun H1 a Q q =>
  h H1 a _ fun v H2 x hd => by
    cases hd
    exact .inl ⟨i, rfl, q _ H2 x (.int i)⟩
/-- xs[j] = a number -/
theorem q_setI {D : Ends} {tz : TS} {i : Nat} {l : Addr} {xs : List V} {j : Nat} {x : Int} (hσ : σ[i]? = some (some (.ref l))) (hl : H l = some (.lst xs)) (h : EvD K te σ H (.int x)) (hi : EvD K tb σ H (.int (j : Int))) (hj : j < xs.length) (k : ∀ H1, Ex H H1 → tz D σ (upd H1 l (.lst (xs.set j (.int x))))) :
    tSeq (tAsg te (gSub (tVar i) tb rSetL)) tz D σ H := Evl.q_setL hl (ev_int h) (Evl.ev_var hσ) (ev_int hi) hj k
theorem s_setI {D : Ends} {i : Nat} {l : Addr} {xs : List V} {j : Nat} {x : Int} (hσ : σ[i]? = some (some (.ref l))) (hl : H l = some (.lst xs)) (h : EvD K te σ H (.int x)) (hi : EvD K tb σ H (.int (j : Int))) (hj : j < xs.length) (k : ∀ H1, Ex H H1 → D.nx σ (upd H1 l (.lst (xs.set j (.int x))))) :
    tAsg te (gSub (tVar i) tb rSetL) D σ H := Evl.s_setL hl (ev_int h) (Evl.ev_var hσ) (ev_int hi) hj k
theorem dp_ints {G : Hp} : ∀ ns : List Int, DpAll K G (ns.map V.int) (ns.map PyData.int)
  | [] => .nil
  | n :: ns => .cons (.int n) (dp_ints ns)
/-- a tuple of two taken apart -/
theorem g_two {i j : Nat} {a b : PyData} {x : V} {k : L2.St → Hp → Prop} (hd : Dp K H x (.tuple [a, b])) (h : ∀ va vb, Dp K H va a → Dp K H vb b → k ((σ.set i (some va)).set j (some vb)) H) : gTup K 2 (gCons (gName i) (gCons (gName j) gNil)) x σ H k := by
  cases hd with
  | tup hs hx =>
    cases hx with
    | cons h1 hx =>
      cases hx with
      | cons h2 hx =>
        cases hx
        exact ⟨_, _, rfl, hs, rfl, _, _, rfl, _, _, rfl, rfl, h _ _ h1 h2⟩
theorem g_three {i j l : Nat} {a b c : PyData} {x : V} {k : L2.St → Hp → Prop} (hd : Dp K H x (.tuple [a, b, c])) (h : ∀ va vb vc, Dp K H va a → Dp K H vb b → Dp K H vc c → k (((σ.set i (some va)).set j (some vb)).set l (some vc)) H) : gTup K 3 (gCons (gName i) (gCons (gName j) (gCons (gName l) gNil))) x σ H k := by
  cases hd with
  | tup hs hx =>
    cases hx with
    | cons h1 hx =>
      cases hx with
      | cons h2 hx =>
        cases hx with
        | cons h3 hx =>
          cases hx
          exact ⟨_, _, rfl, hs, rfl, _, _, rfl, _, _, rfl, _, _, rfl, rfl, h _ _ _ h1 h2 h3⟩
end
section
variable {X : Cx} {e : Expr} {es : List Expr} {te : TE} {ta : TA} {p pos : Pos}
theorem pe_gn {x : Str} {n : Int} (h : Gn X.mg x n) (hg : Gl X x := by rfl) (hd : (x == ("__debug__" : Str)) = false := by decide) : PE X (.Name x pos) (tC (.int n)) := C8.pe_gc hg h hd
/-- isinstance(e, T) -/
theorem pe_isi {x : Str} {T : String} {p2 : Pos} (hb : Bl X.mg) (he : PE X e te) (hg : Gl X "isinstance" := by rfl) (hg2 : Gl X x := by rfl) (hx : x ∈ blts := by decide +kernel) (hv : bootBuiltins x = some (.type T) := by decide +kernel) (hn : x ≠ "__name__" := by decide) (hd : (x == ("__debug__" : Str)) = false := by decide)
    (hs : starEach [e, .Name x p2] X.env = (false, eval e X.env) :: starEach [.Name x p2] X.env := by rfl) : PE X (.Call (.Name "isinstance" p) [e, .Name x p2] [] pos) (tCB (rIsi X.K) (tCons te (tCons (tC (.ty T)) tNil))) :=
  pe_callB call_isi hg (hb _ (by decide +kernel)) (by decide +kernel) (pa_cons he (pa_cons (pe_bltn hg2 (hb _ hx) hv rfl hn hd) pa_nil) hs) (he := hs)
theorem pe_lenQ (hb : Bl X.mg) (he : PE X e te) (hg : Gl X "len" := by rfl) (hs : starEach [e] X.env = (false, eval e X.env) :: starEach [] X.env := by rfl) : PE X (.Call (.Name "len" p) [e] [] pos) (tCB (rLenQ X.K) (tCons te tNil)) :=
  pe_callB call_len_seq hg (hb _ (by decide +kernel)) (by decide +kernel) (pa_cons he pa_nil hs) (he := hs)
theorem pe_lenS (hb : Bl X.mg) (he : PE X e te) (hg : Gl X "len" := by rfl) (hs : starEach [e] X.env = (false, eval e X.env) :: starEach [] X.env := by rfl) : PE X (.Call (.Name "len" p) [e] [] pos) (tCB rLenTx (tCons te tNil)) :=
  pe_callB call_len_str hg (hb _ (by decide +kernel)) (by decide +kernel) (pa_cons he pa_nil hs) (he := hs)
theorem pe_allL (hc : X.calm = true) (hb : Bl X.mg) (he : PE X e te) (hg : Gl X "all" := by rfl) (hs : starEach [e] X.env = (false, eval e X.env) :: starEach [] X.env := by rfl) : PE X (.Call (.Name "all" p) [e] [] pos) (tCB (rAll X.K) (tCons te tNil)) :=
  pe_callB (cr_all hc) hg (hb _ (by decide +kernel)) (by decide +kernel) (pa_cons he pa_nil hs) (he := hs)
theorem pe_anyL (hc : X.calm = true) (hb : Bl X.mg) (he : PE X e te) (hg : Gl X "any" := by rfl) (hs : starEach [e] X.env = (false, eval e X.env) :: starEach [] X.env := by rfl) : PE X (.Call (.Name "any" p) [e] [] pos) (tCB (rAny X.K) (tCons te tNil)) :=
  pe_callB (cr_any hc) hg (hb _ (by decide +kernel)) (by decide +kernel) (pa_cons he pa_nil hs) (he := hs)
theorem pe_tupQ (hb : Bl X.mg) (he : PE X e te) (hg : Gl X "tuple" := by rfl) (hs : starEach [e] X.env = (false, eval e X.env) :: starEach [] X.env := by rfl) : PE X (.Call (.Name "tuple" p) [e] [] pos) (tCB (rTupQ X.K) (tCons te tNil)) :=
  pe_callTy call_tuple_of hg (hb _ (by decide +kernel)) (by decide +kernel) (pa_cons he pa_nil hs) (he := hs)
theorem pe_int1 (hb : Bl X.mg) (he : PE X e te) (hg : Gl X "int" := by rfl) (hs : starEach [e] X.env = (false, eval e X.env) :: starEach [] X.env := by rfl) : PE X (.Call (.Name "int" p) [e] [] pos) (tCB rInt1 (tCons te tNil)) :=
  pe_callTy call_int1 hg (hb _ (by decide +kernel)) (by decide +kernel) (pa_cons he pa_nil hs) (he := hs)
/-- a list comprehension; j: the slot of its one name -/
theorem pe_lcn {elt iter : Expr} {ifs : List Expr} {scope : Scope} {pos : Pos} {wi : TI} {tt : TT} {te : TE} {y : Str} {yp : Pos} (j : Nat) (hN : X.N.Nodup) (hi : PI X (.Name y yp) iter wi)
    (ht : ∀ (s : Shared) (H : Hp) (C : Addr) (cl : List (Str × Addr)) (fp : List Addr), PTs (X.blk s H scope (compEnvC scope cl C X.env) fp) ifs tt)
    (he : ∀ (s : Shared) (H : Hp) (C : Addr) (cl : List (Str × Addr)) (fp : List Addr), PE (X.blk s H scope (compEnvC scope cl C X.env) fp) elt te)
    (hg : ∀ (s : Shared) (H : Hp) (C : Addr) (cl : List (Str × Addr)) (fp : List Addr), PG (X.blk s H scope (compEnvC scope cl C X.env) fp) (.Name y yp) (gName j)) (ok : BlkOk X.N X.env.scope scope [(y, j)]) (hc : X.calm = true)
    (hs : ∀ x, foldedSetIterable iter X.env x = pure x := by intro _; rfl) :
    PE X (.ListComp elt [⟨.Name y yp, iter, ifs, 0⟩] scope pos) (tLc wi (gName j) tt te [j]) := pe_lc (own := [(y, j)]) hc hN hi ok hg ht he hs
/-- y = [..], j the slot of the comprehension's one name -/
theorem ps_setLcn {i : Nat} {y : Str} {py : Pos} {elt iter : Expr} {ifs : List Expr} {scope : Scope} {pos spos : Pos} {wi : TI} {tt : TT} {te : TE} {y2 : Str} {yp : Pos} (j : Nat) (hN : X.N.Nodup) (hi : PI X (.Name y2 yp) iter wi)
    (ht : ∀ (s : Shared) (H : Hp) (C : Addr) (cl : List (Str × Addr)) (fp : List Addr), PTs (X.blk s H scope (compEnvC scope cl C X.env) fp) ifs tt)
    (he : ∀ (s : Shared) (H : Hp) (C : Addr) (cl : List (Str × Addr)) (fp : List Addr), PE (X.blk s H scope (compEnvC scope cl C X.env) fp) elt te)
    (hg : ∀ (s : Shared) (H : Hp) (C : Addr) (cl : List (Str × Addr)) (fp : List Addr), PG (X.blk s H scope (compEnvC scope cl C X.env) fp) (.Name y2 yp) (gName j)) (ok : BlkOk X.N X.env.scope scope [(y2, j)]) (hc : X.calm = true)
    (hy : X.N[i]? = some y) (hyl : X.env.scope.names.lookup y = some .local) (hsw : swapsWith (.ListComp elt [⟨.Name y2 yp, iter, ifs, 0⟩] scope pos) (some (.Name y py)) spos.line X.env = pure true)
    (hs : ∀ x, foldedSetIterable iter X.env x = pure x := by intro _; rfl) :
    PS X (.Assign [.Name y py] (.ListComp elt [⟨.Name y2 yp, iter, ifs, 0⟩] scope pos) spos) (tAsg (tLc wi (gName j) tt te [j]) (gName i)) := ps_setLc (own := [(y2, j)]) hc hN hy hyl hsw hi ok hg ht he hs
end
section
variable {K : PySem.W.Frag} {H : Hp}
theorem dp1 {vs : List V} {a : PyData} (h : DpAll K H vs [a]) : ∃ x, vs = [x] ∧ Dp K H x a := by
  cases h with
  | cons h1 h =>
    cases h
    exact ⟨_, rfl, h1⟩
theorem dp2 {vs : List V} {a b : PyData} (h : DpAll K H vs [a, b]) : ∃ x y, vs = [x, y] ∧ Dp K H x a ∧ Dp K H y b := by
  cases h with
  | cons h1 h =>
    obtain ⟨y, rfl, h2⟩ := dp1 h
    exact ⟨_, _, rfl, h1, h2⟩
theorem dp3 {vs : List V} {a b c : PyData} (h : DpAll K H vs [a, b, c]) : ∃ x y z, vs = [x, y, z] ∧ Dp K H x a ∧ Dp K H y b ∧ Dp K H z c := by
  cases h with
  | cons h1 h =>
    obtain ⟨y, z, rfl, h2, h3⟩ := dp2 h
    exact ⟨_, _, _, rfl, h1, h2, h3⟩
theorem dp4 {vs : List V} {a b c d : PyData} (h : DpAll K H vs [a, b, c, d]) : ∃ x y z u, vs = [x, y, z, u] ∧ Dp K H x a ∧ Dp K H y b ∧ Dp K H z c ∧ Dp K H u d := by
  cases h with
  | cons h1 h =>
    obtain ⟨y, z, u, rfl, h2, h3, h4⟩ := dp3 h
    exact ⟨_, _, _, _, rfl, h1, h2, h3, h4⟩
/-- a text, if at all, of a length that can be told -/
def Tx (d : PyData) : Prop := ∀ z, d = .str z → z.length ≤ 40000
end
end AsKit

set_option maxHeartbeats 4000000
set_option autoImplicit true
/-! len(set(xs)), xs a tuple of tuples of texts and ints. -/
namespace AsSet
open PySem PySem.Spec PyProof.Rows L2

/-- the tuple at b holds the ints and texts ks -/
abbrev Tk (P : Program) (w : World) (h : Heap) (ks : List Key) (b : Addr) : Prop := IsTupleKey (mixKind P w) h ks b
abbrev hk (P : Program) (w : World) (ks : List Key) : Int := tupleKeyHash (mixKind P w) ks
abbrev KT := Addr × List Key

section
variable {P : Program} {w : World} {A : Around} {E : Value → Shared → Prop} {s : Shared}
theorem items_kinds {ks : List Key} {vs : List Value} (h : ItemsAre (mixKind P w) ks vs) : ∀ v ∈ vs, (∃ i t, v = Value.int i t) ∨ ∃ x t, v = Value.str x t := by
  induction h with
  | nil => intro v hv; cases hv
  | @cons k v ks vs h1 _ ih =>
    intro u hu
    rcases List.mem_cons.mp hu with e | hu
    · rw [e]
      rcases keyIs_shape (show keyIs k v = true from h1) with ⟨i, t, _, e2⟩ | ⟨x, t, _, e2⟩
      · exact .inl ⟨i, t, e2⟩
      · exact .inr ⟨x, t, e2⟩
    · exact ih u hu
theorem noClass_item (n : Nat) {v : Value} (h : (∃ i t, v = Value.int i t) ∨ ∃ x t, v = Value.str x t) : ofAClassStatement n v = pure false := by
  rcases h with ⟨i, t, rfl⟩ | ⟨x, t, rfl⟩ <;> cases n <;> rfl
theorem byValue_item (n : Nat) {v : Value} (h : (∃ i t, v = Value.int i t) ∨ ∃ x t, v = Value.str x t) : ∃ b, hashByValue n v = pure b := by
  rcases h with ⟨i, t, rfl⟩ | ⟨x, t, rfl⟩
  · exact ⟨true, by cases n <;> rfl⟩
  · exact ⟨false, by cases n <;> rfl⟩
theorem noClass {ks : List Key} {b : Addr} {Q : Bool → Shared → Prop} (T : Tk P w s.heap ks b) (q : Q false s) : wpAny (model P w) A (ofAClassStatement 8 (.ref b)) Q E s := by
  have ty := T.typeIs
  obtain ⟨o, its, n, ho, _, hd, hi⟩ := T
  have hall := items_kinds hi
  unfold ofAClassStatement
  refine wpAny_bind (wpAny_typeOf ty ?_)
  dsimp only
  simp only [show (("tuple" : String) == "tuple") = true from by decide, if_true, Bool.not_true, Bool.false_eq_true, if_false]
  try refine wpAny_bind (wpAny_pure ?_)
  try simp only [Bool.not_true, Bool.false_eq_true, if_false]
  show wpAny _ _ (seqItems? (.ref b) >>= _) _ _ s
  refine wpAny_bind (wpAny_seqItems ho hd (wpAny_bind ?_))
  show wpAny _ _ (forIn its _ _) _ _ s
  rw [← Array.forIn_toList]
  refine wpAny_forIn_list _ (fun l r z => r.1 = none ∧ z = s ∧ ∀ v ∈ l, (∃ i t, v = Value.int i t) ∨ ∃ x t, v = Value.str x t) _ (fun v l r z hz => ?_) (fun r z hz => ?_) _ _ ⟨rfl, rfl, hall⟩
  · obtain ⟨_, rfl, hv⟩ := hz
    rw [noClass_item _ (hv v List.mem_cons_self)]
    refine wpAny_bind (wpAny_pure ?_)
    simp only [Bool.false_eq_true, if_false]
    exact wpAny_pure ⟨rfl, rfl, fun u hu => hv u (List.mem_cons_of_mem _ hu)⟩
  · obtain ⟨r1, r2⟩ := r
    obtain ⟨e, rfl, _⟩ := hz
    simp only at e
    subst e
    exact wpAny_pure q
theorem byValue {ks : List Key} {b : Addr} {Q : Bool → Shared → Prop} (T : Tk P w s.heap ks b) (q : ∀ c, Q c s) : wpAny (model P w) A (hashByValue 8 (.ref b)) Q E s := by
  have ty := T.typeIs
  obtain ⟨o, its, n, ho, _, hd, hi⟩ := T
  have hall := items_kinds hi
  unfold hashByValue
  refine wpAny_bind (wpAny_specialOf ty F.slot_tuple_hash.lookup ?_)
  show wpAny _ _ (seqItems? (.ref b) >>= _) _ _ s
  refine wpAny_bind (wpAny_seqItems ho hd (wpAny_bind ?_))
  show wpAny _ _ (forIn its _ _) _ _ s
  rw [← Array.forIn_toList]
  refine wpAny_forIn_list _ (fun l r z => r.1 = none ∧ z = s ∧ ∀ v ∈ l, (∃ i t, v = Value.int i t) ∨ ∃ x t, v = Value.str x t) _ (fun v l r z hz => ?_) (fun r z hz => ?_) _ _ ⟨rfl, rfl, hall⟩
  · obtain ⟨_, rfl, hv⟩ := hz
    obtain ⟨c, ec⟩ := byValue_item 7 (hv v List.mem_cons_self)
    rw [ec]
    refine wpAny_bind (wpAny_pure ?_)
    cases c with
    | true =>
      simp only [Bool.not_true, Bool.false_eq_true, if_false]
      exact wpAny_pure ⟨rfl, rfl, fun u hu => hv u (List.mem_cons_of_mem _ hu)⟩
    | false =>
      simp only [Bool.not_false, if_true]
      exact wpAny_pure (show wpAny _ _ (pure false) Q E _ from wpAny_pure (q false))
  · obtain ⟨r1, r2⟩ := r
    obtain ⟨e, rfl, _⟩ := hz
    simp only at e
    subst e
    exact wpAny_pure (q true)
/-- the search among such tuples shows nothing of the table -/
theorem unseen {ks : List Key} {b : Addr} {Q : Bool → Shared → Prop} (T : Tk P w s.heap ks b) : ∀ (ys : List Value), (∀ y ∈ ys, ∃ k c, y = Value.ref c ∧ Tk P w s.heap k c) → Q false s → wpAny (model P w) A (searchCouldBeSeen (.ref b) ys) Q E s := by
  intro ys hys q
  unfold searchCouldBeSeen
  refine wpAny_bind (wpAny_forIn_list _ (fun l r z => r.1 = none ∧ z = s ∧ ∀ y ∈ l, ∃ k c, y = Value.ref c ∧ Tk P w s.heap k c) _ (fun y l r z hz => ?_) (fun r z hz => ?_) _ _ ⟨rfl, rfl, hys⟩)
  · obtain ⟨_, rfl, hy⟩ := hz
    obtain ⟨k, c, rfl, Tc⟩ := hy y List.mem_cons_self
    have keep : (none : Option Bool) = none ∧ z = z ∧ ∀ y ∈ l, ∃ k c, y = Value.ref c ∧ Tk P w z.heap k c := ⟨rfl, rfl, fun u hu => hy u (List.mem_cons_of_mem _ hu)⟩
    dsimp only
    cases hv : (b == c || (carriedByValue (.ref b) && carriedByValue (.ref c))) with
    | true => exact wp_if_pos rfl (wpAny_pure keep)
    | false =>
      refine wp_if_neg (by decide) (wpAny_bind (wpAny_eqIsQuiet_tuple T ?_))
      simp only [Bool.not_true, Bool.false_eq_true, if_false]
      refine wpAny_bind (wpAny_eqIsQuiet_tuple Tc ?_)
      simp only [Bool.not_true, Bool.false_eq_true, if_false]
      refine wpAny_bind (noClass T ?_)
      simp only [Bool.false_eq_true, if_false]
      refine wpAny_bind (noClass Tc ?_)
      simp only [Bool.false_eq_true, if_false]
      exact wpAny_pure keep
  · obtain ⟨r1, r2⟩ := r
    obtain ⟨e, rfl, _⟩ := hz
    simp only at e
    subst e
    exact wpAny_pure q

/-! ### the set's object -/
abbrev hs (P : Program) (w : World) (L : List KT) : List Int := L.map fun p => hk P w p.2
/-- at a stands a set of the tuples L; es its entries, t its table -/
structure TSet (P : Program) (w : World) (h : Heap) (a : Addr) (L : List KT) (es : Array (Int × Value)) (t : SetTable) : Prop where
  obj : ∃ o ep, h.get? a = some o ∧ o.ExactSet ∧ o.data = .set es ep t
  ents : es.toList = L.map fun p => (hk P w p.2, Value.ref p.1)
  tab : TabOk t (hs P w L)
  dist : (L.map (·.2)).Nodup
  tups : ∀ p ∈ L, Tk P w h p.2 p.1
  room : L.length * 5 < t.mask * 3
  few : L.length < 64
variable {a : Addr} {L : List KT} {es : Array (Int × Value)} {t : SetTable}
theorem ents_len (e : es.toList = L.map fun p => (hk P w p.2, Value.ref p.1)) : es.size = L.length := by
  rw [← Array.length_toList, e, List.length_map]
theorem ents_at (e : es.toList = L.map fun p => (hk P w p.2, Value.ref p.1)) {i : Nat} {p : KT} (h : L[i]? = some p) : es[i]? = some (hk P w p.2, Value.ref p.1) := by
  rw [← Array.getElem?_toList, e, List.getElem?_map, h]
  rfl
theorem tab_len (T : TabOk t (hs P w L)) : t.place.toList.length = L.length := by
  rw [Array.length_toList, T.sz, List.length_map]
theorem fits_of (e : es.size = L.length) (T : TabOk t (hs P w L)) (h : L.length ≤ t.mask) : t.fits es.size = true := by
  have z : t.place.size = L.length := by
    have q := T.sz
    rwa [List.length_map] at q
  unfold SetTable.fits SetTable.fill
  rw [T.dm, Bool.and_eq_true, beq_iff_eq, decide_eq_true_eq]
  exact ⟨z.trans e.symm, by rw [z]; exact h⟩
theorem TSet.fit (R : TSet P w s.heap a L es t) : t.fits es.size = true := fits_of (ents_len R.ents) R.tab (by have := R.room; omega)

/-- the c-th place asked for the hash h -/
abbrev pr (t : SetTable) (h : Int) (c : Nat) : SetTable.Probe := nth t.mask (runAt t.mask (SetTable.bits h % (t.mask + 1)) (SetTable.bits h)) c
theorem pr_add (t : SetTable) (h : Int) (c q : Nat) : nth t.mask (pr t h c) q = pr t h (c + q) := (nth_add t.mask c _ q).symm
theorem pr_way (t : SetTable) (h : Int) (c : Nat) : (pr t h c).j = way t.mask h c := rfl
theorem pr_dummy (t : SetTable) (h : Int) (c : Nat) : (pr t h c).dummy = none := by
  have go : ∀ (m n : Nat) (p : SetTable.Probe), p.dummy = none → (nth m p n).dummy = none := fun m n => by
    induction n with
    | zero => exact fun p e => e
    | succ n ih =>
      refine fun p e => ih (adv m p) ?_
      unfold adv
      split <;> exact e
  exact go _ _ _ rfl

/-- what the search for k finds, from the c-th place on: N the first free place -/
theorem find_from (R : TSet P w s.heap a L es t) {x : Addr} {k : List Key} (T : Tk P w s.heap k x) (hu : A.units < cLine) {N : Nat} (hN : N < 10 * SetTable.turns t.mask) (hfree : way t.mask (hk P w k) N ∉ t.place.toList)
    (hocc : ∀ c, c < N → way t.mask (hk P w k) c ∈ t.place.toList) {Q : SetFound → Shared → Prop} (yes : k ∈ L.map (·.2) → Q (.there none) s) (no : k ∉ L.map (·.2) → Q (.free (way t.mask (hk P w k) N) false) s) (f : Nat) :
    ∀ (c : Nat) (st : Option SetTable.Probe), st.getD (t.probeStart (hk P w k)) = pr t (hk P w k) c → c ≤ N → N - c < f →
      (∀ (i : Nat) (p : KT), L[i]? = some p → p.2 = k → ∃ c', c ≤ c' ∧ c' < N ∧ t.place.toList[i]? = some (way t.mask (hk P w k) c')) → wpAny (model P w) A (setSearchFrom a (.ref x) (hk P w k) true f st) Q E s := by
  obtain ⟨o, ep, ho, hex, hd⟩ := R.obj
  induction f with
  | zero => exact fun c st _ _ z _ => absurd z (Nat.not_lt_zero _)
  | succ f ih =>
    intro c st hst hc hf hthere
    have gw : ¬ t.gaveWay = true := by
      unfold SetTable.gaveWay
      rw [mask_odd R.tab.mok]
      decide
    rw [setSearchFrom_succ]
    refine wpAny_bind (wpAny_setState_of ho hd R.fit ?_)
    dsimp only
    refine wp_if_neg gw ?_
    try refine wpAny_bind (wpAny_pure ?_)
    have look : ∀ (i : Nat) (p : KT), L[i]? = some p → (es[i]?.map (·.1)).getD 0 = hk P w p.2 := fun i p hp => by rw [ents_at R.ents hp]; rfl
    have ways := go_spec t R.tab.ris R.tab.dm (fun (i : Nat) => (es[i]?.map (·.1)).getD 0) (hk P w k) (10 * SetTable.turns t.mask) (N - c) (pr t (hk P w k) c) (pr_dummy _ _ _) (by omega)
      (fun q hq => by rw [pr_add, pr_way]; exact hocc _ (by omega)) (by rw [pr_add, pr_way, Nat.add_sub_cancel' hc]; exact hfree)
    -- a place of k is not left behind
    have notyet : ∀ (q : Nat), (∀ (k' i' : Nat), k' < q → t.place.toList[i']? = some (nth t.mask (pr t (hk P w k) c) k').j → (es[i']?.map (·.1)).getD 0 ≠ hk P w k) → ∀ (i : Nat) (p : KT), L[i]? = some p → p.2 = k → ∃ c', c + q ≤ c' ∧ c' < N ∧ t.place.toList[i]? = some (way t.mask (hk P w k) c') := fun q hq i p hp ek => by
      obtain ⟨c', h1, h2, h3⟩ := hthere i p hp ek
      refine ⟨c', Nat.le_of_not_lt fun z => ?_, h2, h3⟩
      refine hq (c' - c) i (by omega) ?_ (by rw [look i p hp, ek])
      rw [pr_add, pr_way, Nat.add_sub_cancel' h1]
      exact h3
    rcases ways with ⟨q, i, hq, hi, _, hno, hgo⟩ | ⟨hno, hgo⟩
    · have hp1 : t.probe (fun (i : Nat) => (es[i]?.map (·.1)).getD 0) (hk P w k) (st.getD (t.probeStart (hk P w k))) = some (.candidate (way t.mask (hk P w k) (c + q)) i (pr t (hk P w k) (c + (q + 1)))) := by
        have z : t.probe (fun (i : Nat) => (es[i]?.map (·.1)).getD 0) (hk P w k) (pr t (hk P w k) c) = _ := hgo
        rw [hst, z, pr_add, pr_add]
      rw [hp1]
      dsimp only
      rw [pr_add, pr_way] at hi
      have hil : i < L.length := by
        have z := (List.getElem?_eq_some_iff.mp hi).1
        rwa [tab_len R.tab] at z
      obtain ⟨p, hp⟩ : ∃ p, L[i]? = some p := ⟨_, List.getElem?_eq_getElem hil⟩
      have pm := List.mem_of_getElem? hp
      have live : t.slot (way t.mask (hk P w k) (c + q)) = .live i := slot_live R.tab.ris hi
      have main : wpAny (model P w) A (searchRest a (.ref x) (hk P w k) true f es t (way t.mask (hk P w k) (c + q)) i (pr t (hk P w k) (c + (q + 1)))) Q E s := by
        unfold searchRest
        rw [ents_at R.ents hp]
        dsimp only
        refine wpAny_bind (wpAny_holding (wpAny_eqBool_tuple hu (R.tups p pm) T (wpAny_bind (wpAny_setState_of ho hd R.fit ?_))))
        dsimp only
        cases hb : decide (p.2 = k) with
        | true =>
          have ek := of_decide_eq_true hb
          refine wp_if_pos (by simp) (wpAny_pure (yes ?_))
          rw [← ek]
          exact List.mem_map_of_mem (f := (·.2)) pm
        | false =>
          have nk := of_decide_eq_false hb
          refine wp_if_neg (by simp) ?_
          try refine wpAny_bind (wpAny_pure ?_)
          rw [show t.sameMemory t.moves t.mask = some true from if_pos (beq_self_eq_true _)]
          dsimp only
          simp only [if_true, live, ents_at R.ents hp]
          refine wpAny_bind (wpAny_isSame_ref_self (wpAny_bind (wpAny_pure ?_)))
          simp only [if_true]
          refine wp_if_neg (by simp) (ih (c + (q + 1)) _ rfl (by omega) (by omega) fun j p' hp' ek => ?_)
          obtain ⟨c', h1, h2, h3⟩ := notyet q hno j p' hp' ek
          refine ⟨c', ?_, h2, h3⟩
          rcases Nat.lt_or_ge (c + q) c' with z | z
          · omega
          · exfalso
            have ec : c' = c + q := Nat.le_antisymm z h1
            rw [ec] at h3
            have l2 := slot_live R.tab.ris h3
            rw [live] at l2
            injection l2 with e2
            rw [← e2, hp] at hp'
            exact nk ((congrArg Prod.snd (Option.some.inj hp')).trans ek)
      by_cases hl : t.led = true
      · refine wp_if_neg (by simp [hl]) ?_
        try refine wpAny_bind (wpAny_pure ?_)
        exact main
      · refine wp_if_pos (by simp [hl]) (wpAny_bind (unseen T _ (fun y hy => ?_) ?_))
        · obtain ⟨e, he, ey⟩ := List.mem_map.mp hy
          have he2 : e ∈ es.toList := by
            have z : e ∈ es ∧ e.1 = hk P w k := by simpa using he
            simpa using z.1
          rw [R.ents] at he2
          obtain ⟨p2, hp2, e2⟩ := List.mem_map.mp he2
          exact ⟨p2.2, p2.1, by rw [← ey, ← e2], R.tups p2 hp2⟩
        · refine wp_if_neg (by decide) ?_
          try refine wpAny_bind (wpAny_pure ?_)
          exact main
    · have hp1 : t.probe (fun (i : Nat) => (es[i]?.map (·.1)).getD 0) (hk P w k) (st.getD (t.probeStart (hk P w k))) = some (.empty (way t.mask (hk P w k) N) none) := by
        have z : t.probe (fun (i : Nat) => (es[i]?.map (·.1)).getD 0) (hk P w k) (pr t (hk P w k) c) = _ := hgo
        rw [hst, z, pr_add, pr_way, Nat.add_sub_cancel' hc]
      rw [hp1]
      dsimp only
      refine wpAny_pure (no fun hm => ?_)
      obtain ⟨p, pm, ek⟩ := List.mem_map.mp hm
      obtain ⟨i, hil, ei⟩ := List.getElem_of_mem pm
      have hp : L[i]? = some p := by rw [List.getElem?_eq_getElem hil, ei]
      obtain ⟨c', h1, h2, h3⟩ := notyet (N - c) hno i p hp ek
      omega
/-- the search that adding asks for -/
theorem find_all (R : TSet P w s.heap a L es t) {x : Addr} {k : List Key} (T : Tk P w s.heap k x) (hu : A.units < cLine) {Q : SetFound → Shared → Prop} (yes : k ∈ L.map (·.2) → Q (.there none) s)
    (no : ∀ N, k ∉ L.map (·.2) → way t.mask (hk P w k) N ∉ t.place.toList → (∀ c, c < N → way t.mask (hk P w k) c ∈ t.place.toList) → Q (.free (way t.mask (hk P w k) N) false) s) :
    wpAny (model P w) A (setSearch a (.ref x) (hk P w k) true) Q E s := by
  have hr := R.room
  obtain ⟨N, hN, hfree, hocc⟩ := R.tab.first (by rw [List.length_map]; omega) (hk P w k)
  have small : 10 * SetTable.turns t.mask ≤ 1420 := by
    unfold SetTable.turns
    rcases R.tab.mok with e | e | e <;> omega
  unfold setSearch
  refine find_from R T hu hN hfree hocc yes (fun n => no N n hfree hocc) 100000 0 none rfl (Nat.zero_le _) (by omega) fun i p hp ek => ?_
  have hil : i < t.place.toList.length := by
    rw [tab_len R.tab]
    exact (List.getElem?_eq_some_iff.mp hp).1
  have hj := List.getElem?_eq_getElem hil
  obtain ⟨c, hc, e⟩ := R.tab.before hfree (show (hs P w L)[i]? = some (hk P w k) by rw [List.getElem?_map, hp, ← ek]; rfl) hj
  exact ⟨c, Nat.zero_le _, hc, by rw [hj, e]⟩

/-! ### the table laid anew -/
theorem take_all (L : List KT) : ∀ n, n ≤ L.length → (List.range n).filterMap (fun i => L[i]?) = L.take n
  | 0, _ => rfl
  | n + 1, h => by
    have hn : L[n]? = some L[n] := List.getElem?_eq_getElem h
    rw [List.range_succ, List.filterMap_append, take_all L n (Nat.le_of_lt h), List.take_add_one, hn, List.filterMap_cons_some hn]
    rfl
theorem reorder (L : List KT) (es : Array (Int × Value)) (order : Array Nat) (e : es.toList = L.map fun p => (hk P w p.2, Value.ref p.1)) (hp : order.toList.Perm (List.range L.length)) :
    ∃ L2 : List KT, L2.Perm L ∧ (order.filterMap (es[·]?)).toList = (L2.map fun p => (hk P w p.2, Value.ref p.1)) ∧ hs P w L2 = order.toList.map fun i => (es.map (·.1)).getD i 0 := by
  have each : ∀ l : List Nat, (∀ i ∈ l, i < L.length) → l.filterMap (fun i => es[i]?) = ((l.filterMap fun i => L[i]?).map fun p => (hk P w p.2, Value.ref p.1)) ∧ hs P w (l.filterMap fun i => L[i]?) = l.map fun i => (es.map (·.1)).getD i 0 := by
    intro l
    induction l with
    | nil => exact fun _ => ⟨rfl, rfl⟩
    | cons i l ih =>
      intro hl
      have hi := hl i List.mem_cons_self
      obtain ⟨h1, h2⟩ := ih fun j hj => hl j (List.mem_cons_of_mem _ hj)
      have a1 : L[i]? = some L[i] := List.getElem?_eq_getElem hi
      have a2 := ents_at e a1
      have a3 : (es.map (·.1)).getD i 0 = hk P w (L[i]).2 := by
        have z : (es.map (·.1))[i]? = some (hk P w (L[i]).2) := by
          rw [Array.getElem?_map, a2]
          rfl
        simp [Array.getD_eq_getD_getElem?, z]
      constructor
      · rw [List.filterMap_cons_some a2, List.filterMap_cons_some a1, h1]
        rfl
      · rw [List.filterMap_cons_some a1, List.map_cons, a3, ← h2]
        rfl
  obtain ⟨h1, h2⟩ := each order.toList fun i hi => List.mem_range.mp (hp.mem_iff.mp hi)
  refine ⟨order.toList.filterMap fun i => L[i]?, ?_, ?_, h2⟩
  · have z := hp.filterMap (fun i => L[i]?)
    rw [take_all L L.length (Nat.le_refl _), List.take_length] at z
    exact z
  · rw [← h1]
    first
      | rw [Array.toList_filterMap]
      | simp
/-- an object other than the set's -/
theorem tk_same {h h' : Heap} {k : List Key} {b : Addr} {o : Obj} {ep : Nat} (T : Tk P w h k b) (ho : h.get? a = some o) (hd : o.data = .set es ep t) (sb : Heap.SameBut a h h') : Tk P w h' k b := by
  obtain ⟨o2, its, n, h2, hc, hdt, hi⟩ := T
  refine ⟨o2, its, n, (sb.2 b fun z => ?_).trans h2, hc, hdt, hi⟩
  rw [z, ho] at h2
  rw [Option.some.inj h2, hdt] at hd
  cases hd
theorem relay {o : Obj} {ep : Nat} (ho : s.heap.get? a = some o) (hex : o.ExactSet) (hd : o.data = .set es ep t) (he : es.toList = L.map fun p => (hk P w p.2, Value.ref p.1)) (hfit : t.fits es.size = true) (nd : (L.map (·.2)).Nodup) (tp : ∀ p ∈ L, Tk P w s.heap p.2 p.1) (few : L.length < 64)
    {want M : Nat} (hw : SetTable.sizeAbove want - 1 = M) (hM : MaskOk M) (hw2 : SetTable.sizeAbove want ≤ 128) (hn : L.length * 5 < M * 3) {Q : Unit → Shared → Prop}
    (q : ∀ h' L' es' t', Heap.SameBut a s.heap h' → TSet P w h' a L' es' t' → L'.Perm L → Q () { s with heap := h' }) : wpAny (model P w) A (setRelay a want) Q E s := by
  have hz := ents_len he
  obtain ⟨t', order, e1, pm, T, em, _, _, _⟩ := relaid_ok t (hs := es.map (·.1)) (wanted := want) hw hM (by rw [Array.size_map, hz]; omega)
  rw [Array.size_map, hz] at pm
  obtain ⟨L2, p2, r2, r3⟩ := reorder L es order he pm
  rw [← r3] at T
  have hz2 : (order.filterMap (es[·]?)).size = es.size := by rw [hz, ents_len r2, p2.length_eq]
  rw [setRelay_eq]
  refine wpAny_bind (wpAny_setState_of ho hd hfit ?_)
  dsimp only
  refine wp_if_neg (by rw [sizeLine_eq]; omega) ?_
  try refine wpAny_bind (wpAny_pure ?_)
  rw [e1]
  dsimp only
  refine wpAny_bind (wp_if_neg (by rw [hz2]; simp) ?_)
  try refine wpAny_bind (wpAny_pure ?_)
  refine wpAny_pure ?_
  dsimp only
  have sb : Heap.SameBut a s.heap (s.heap.update a (Obj.putSet (order.filterMap (es[·]?)) t')) := Heap.SameBut.update ..
  refine wpAny_storeSet_of ho hd (q _ L2 (order.filterMap (es[·]?)) t' sb ⟨⟨_, _, store_at ho hd, ⟨hex.1, hex.2.1, hex.2.2⟩, rfl⟩, r2, T, (p2.map (·.2)).nodup_iff.mpr nd, fun p hp => tk_same (tp p (p2.mem_iff.mp hp)) ho hd sb, ?_, ?_⟩ p2) (by rw [hz2, hz, sizeLine_eq]; omega)
  · rw [p2.length_eq, em]
    exact hn
  · rw [p2.length_eq]
    exact few

/-! ### adding -/
theorem mid_perm {α : Type} (L : List α) (i : Nat) (x : α) : (L.take i ++ x :: L.drop i).Perm (x :: L) := by
  have z : (L.take i ++ x :: L.drop i).Perm (x :: (L.take i ++ L.drop i)) := List.perm_middle
  rwa [List.take_append_drop] at z
theorem add (R : TSet P w s.heap a L es t) {x : Addr} {k : List Key} (T : Tk P w s.heap k x) (hu : A.units < cLine) (hfew : L.length + 1 < 64) {Q : Bool → Shared → Prop}
    (q : ∀ b h' L' es' t', Heap.SameBut a s.heap h' → TSet P w h' a L' es' t' → (k ∈ L.map (·.2) → L' = L) → (k ∉ L.map (·.2) → L'.Perm ((x, k) :: L)) → Q b { s with heap := h' }) :
    wpAny (model P w) A (setAddHashed a (.ref x) (hk P w k)) Q E s := by
  obtain ⟨o, ep, ho, hex, hd⟩ := R.obj
  have hz := ents_len R.ents
  have hr := R.room
  unfold setAddHashed
  refine wpAny_holding ?_
  rw [show (100000 : Nat) = 99999 + 1 from rfl, setAddHashedIn_succ]
  refine wpAny_bind (wpAny_setState_of ho hd R.fit ?_)
  dsimp only
  refine wp_if_neg (by simp [byScan, Value.scannable]) ?_
  try refine wpAny_bind (wpAny_pure ?_)
  refine wpAny_bind (find_all R T hu (fun hm => ?_) fun N hm hfree hocc => ?_)
  · dsimp only
    exact wpAny_pure (q false s.heap L es t (Heap.SameBut.refl a s.heap) R (fun _ => rfl) fun z => absurd hm z)
  · dsimp only
    refine wpAny_bind (wpAny_setState_of ho hd R.fit ?_)
    dsimp only
    obtain ⟨q1, q2, q3, q4, _, _, _, _, q9⟩ := R.tab.put hfree hocc
    obtain ⟨t1, i⟩ : SetTable × Nat := ⟨(t.put (way t.mask (hk P w k) N)).1, (t.put (way t.mask (hk P w k) N)).2⟩
    generalize t.put (way t.mask (hk P w k) N) = pt at q1 q3 q4 q9 ⊢
    obtain ⟨u, j⟩ := pt
    dsimp only at q1 q3 q4 q9 ⊢
    subst q1
    generalize SetTable.below t.place (way t.mask (hk P w k) N) = j at q2 q3 ⊢
    have pm := mid_perm L j (x, k)
    have ins : (SetTable.insertAt es j (hk P w k, Value.ref x)).toList = ((L.take j ++ (x, k) :: L.drop j).map fun p => (hk P w p.2, Value.ref p.1)) := by
      rw [SetTable.toList_insertAt, R.ents, List.map_append, List.map_cons, List.map_take, List.map_drop]
    have hss : hs P w (L.take j ++ (x, k) :: L.drop j) = (hs P w L).take j ++ hk P w k :: (hs P w L).drop j := by
      show List.map _ _ = _
      rw [List.map_append, List.map_cons, List.map_take, List.map_drop]
    have T1 : TabOk u (hs P w (L.take j ++ (x, k) :: L.drop j)) := by rw [hss]; exact q3
    have nd1 : ((L.take j ++ (x, k) :: L.drop j).map (·.2)).Nodup := (pm.map (·.2)).nodup_iff.mpr (List.nodup_cons.mpr ⟨hm, R.dist⟩)
    have hlen : (L.take j ++ (x, k) :: L.drop j).length = L.length + 1 := pm.length_eq
    generalize L.take j ++ (x, k) :: L.drop j = L1 at pm ins T1 nd1 hlen
    generalize SetTable.insertAt es j (hk P w k, Value.ref x) = es1 at ins ⊢
    have hz1 : es1.size = L.length + 1 := (ents_len ins).trans hlen
    have fill1 : u.fill = L.length + 1 := by rw [q9, List.length_map]
    -- whatever the table is told of the key's hash
    have rest : ∀ (v : SetTable), v.place = u.place → v.dummies = u.dummies → v.mask = u.mask → wpAny (model P w) A (do
        storeSet a es1 v
        if (!false && v.tooFull) = true then setRelay a (SetTable.grown (es.size + 1))
        return true) Q E s := by
      intro v v1 v2 v3
      have Tv : TabOk v (hs P w L1) := by
        refine ⟨by rw [v1]; exact T1.ris, by rw [v2]; exact T1.dm, by rw [v1]; exact T1.sz, by rw [v3]; exact T1.mok, fun y hy => ?_, fun i' h' j' a1 a2 => ?_⟩
        · rw [v1] at hy
          rw [v3]
          exact T1.bd y hy
        · rw [v1] at a2 ⊢
          rw [v3]
          exact T1.reach i' h' j' a1 a2
      have fillv : v.fill = L.length + 1 := by
        unfold SetTable.fill
        rw [v1, v2]
        exact fill1
      have sb : Heap.SameBut a s.heap (s.heap.update a (Obj.putSet es1 v)) := Heap.SameBut.update ..
      have ho1 := store_at (es' := es1) (t' := v) ho hd
      refine wpAny_bind (wpAny_storeSet_of ho hd ?_ (by rw [hz1, sizeLine_eq]; omega))
      generalize s.heap.update a (Obj.putSet es1 v) = h1 at sb ho1 ⊢
      have tp1 : ∀ p ∈ L1, Tk P w h1 p.2 p.1 := fun p hp => by
        rcases List.mem_cons.mp (pm.mem_iff.mp hp) with e | hp
        · rw [e]
          exact tk_same T ho hd sb
        · exact tk_same (R.tups p hp) ho hd sb
      have few1 : L1.length < 64 := by rw [hlen]; exact hfew
      cases hf : v.tooFull with
      | false =>
        simp only [Bool.not_false, Bool.and_false, Bool.false_eq_true, if_false]
        have roomy : L1.length * 5 < v.mask * 3 := by
          have z := hf
          unfold SetTable.tooFull at z
          rw [decide_eq_false_iff_not, fillv] at z
          rw [hlen]
          omega
        first
          | exact wpAny_pure (q true h1 L1 es1 v sb ⟨⟨_, _, ho1, ⟨hex.1, hex.2.1, hex.2.2⟩, rfl⟩, ins, Tv, nd1, tp1, roomy, few1⟩ (fun z => absurd z hm) fun _ => pm)
          | exact wpAny_bind (wpAny_pure (wpAny_pure (q true h1 L1 es1 v sb ⟨⟨_, _, ho1, ⟨hex.1, hex.2.1, hex.2.2⟩, rfl⟩, ins, Tv, nd1, tp1, roomy, few1⟩ (fun z => absurd z hm) fun _ => pm)))
      | true =>
        simp only [Bool.not_false, Bool.and_true, if_true]
        have full : (L.length + 1) * 5 ≥ v.mask * 3 := by
          have z := hf
          unfold SetTable.tooFull at z
          rw [decide_eq_true_eq, fillv] at z
          exact z
        have hv : v.mask = t.mask := v3.trans q4
        rw [hz]
        have two : (t.mask = 7 ∧ L.length = 4) ∨ (t.mask = 31 ∧ L.length = 18) := by
          rw [hv] at full
          rcases R.tab.mok with e | e | e
          · left; rw [e] at full hr; exact ⟨e, by omega⟩
          · right; rw [e] at full hr; exact ⟨e, by omega⟩
          · exfalso; rw [e] at full; omega
        have go : ∀ M, SetTable.sizeAbove (SetTable.grown (L.length + 1)) - 1 = M → MaskOk M → SetTable.sizeAbove (SetTable.grown (L.length + 1)) ≤ 128 → (L.length + 1) * 5 < M * 3 →
            wpAny (model P w) A (setRelay a (SetTable.grown (L.length + 1))) (fun _ s' => wpAny (model P w) A (pure true) Q E s') E { s with heap := h1 } := fun M a1 a2 a3 a4 =>
          relay (s := { s with heap := h1 }) ho1 ⟨hex.1, hex.2.1, hex.2.2⟩ rfl ins (fits_of (ents_len ins) Tv (by rw [hlen, hv]; rcases two with ⟨e, e2⟩ | ⟨e, e2⟩ <;> omega)) nd1 tp1 few1 a1 a2 a3 (by rw [hlen]; exact a4)
            fun h2 L2 es2 t2 sb2 R2 pm2 => wpAny_pure (q true h2 L2 es2 t2 (sb.trans sb2) R2 (fun z => absurd z hm) fun _ => pm2.trans pm)
        rcases two with ⟨_, e2⟩ | ⟨_, e2⟩
        · exact wpAny_bind (go 31 (by rw [e2, size_20]) (.inr (.inl rfl)) (by rw [e2, size_20]; decide) (by omega))
        · exact wpAny_bind (go 127 (by rw [e2, size_76]) (.inr (.inr rfl)) (by rw [e2, size_76]; decide) (by omega))
    have both : ∀ c : Bool, (if c = true then u else { u with plain := false }).place = u.place ∧ (if c = true then u else { u with plain := false }).dummies = u.dummies ∧ (if c = true then u else { u with plain := false }).mask = u.mask := fun c => by
      cases c <;> exact ⟨rfl, rfl, rfl⟩
    split
    · refine wpAny_bind (byValue T fun c => ?_)
      exact rest _ (both c).1 (both c).2.1 (both c).2.2
    · refine wpAny_bind (wpAny_pure ?_)
      exact rest _ (both true).1 (both true).2.1 (both true).2.2

/-! ### all the items, one after another -/
/-- what the set holds of the first i of ks -/
structure Took (ks : List KT) (i : Nat) (L : List KT) : Prop where
  same : ∀ k, k ∈ L.map (·.2) ↔ k ∈ (ks.take i).map (·.2)
  sub : ∀ p ∈ L, p ∈ ks.take i
  le : L.length ≤ i
  full : L.length = i ↔ ((ks.take i).map (·.2)).Nodup
theorem Took.start (ks : List KT) : Took ks 0 [] := ⟨fun _ => Iff.rfl, fun p h => (nomatch h), Nat.le_refl _, ⟨fun _ => List.nodup_nil, fun _ => rfl⟩⟩
theorem take_more {ks : List KT} {i : Nat} {p : KT} (h : ks[i]? = some p) : (ks.take (i + 1)).map (·.2) = (ks.take i).map (·.2) ++ [p.2] := by
  rw [List.take_add_one, h, List.map_append]
  rfl
theorem nodup_snoc {α : Type} {l : List α} {x : α} : (l ++ [x]).Nodup ↔ l.Nodup ∧ x ∉ l := by
  rw [List.nodup_append]
  constructor
  · rintro ⟨h1, _, h3⟩
    exact ⟨h1, fun hx => h3 x hx x (List.mem_singleton.mpr rfl) rfl⟩
  · rintro ⟨h1, h2⟩
    refine ⟨h1, List.pairwise_singleton _ _, fun y hy z hz e => ?_⟩
    rw [List.mem_singleton.mp hz] at e
    exact h2 (e ▸ hy)
theorem Took.old {ks L : List KT} {i : Nat} {p : KT} (g : Took ks i L) (h : ks[i]? = some p) (hm : p.2 ∈ L.map (·.2)) : Took ks (i + 1) L := by
  have e := take_more h
  refine ⟨fun k => ?_, fun q hq => ?_, Nat.le_succ_of_le g.le, ?_⟩
  · rw [e, List.mem_append, List.mem_singleton, g.same k]
    exact ⟨.inl, fun z => z.elim id fun z => by rw [z]; exact (g.same _).mp hm⟩
  · rw [List.take_add_one]
    exact List.mem_append_left _ (g.sub q hq)
  · rw [e, nodup_snoc]
    exact ⟨fun z => absurd z (Nat.ne_of_lt (Nat.lt_succ_of_le g.le)), fun z => absurd ((g.same _).mp hm) z.2⟩
theorem Took.new {ks L L' : List KT} {i : Nat} {p : KT} (g : Took ks i L) (h : ks[i]? = some p) (hm : p.2 ∉ L.map (·.2)) (pm : L'.Perm (p :: L)) : Took ks (i + 1) L' := by
  have e := take_more h
  refine ⟨fun k => ?_, fun q hq => ?_, by rw [pm.length_eq]; exact Nat.succ_le_succ g.le, ?_⟩
  · rw [e, List.mem_append, List.mem_singleton, (pm.map (·.2)).mem_iff, List.map_cons, List.mem_cons, g.same k]
    exact or_comm
  · rw [List.take_add_one, h]
    rcases List.mem_cons.mp (pm.mem_iff.mp hq) with z | z
    · exact List.mem_append_right _ (by rw [z]; exact List.mem_singleton.mpr rfl)
    · exact List.mem_append_left _ (g.sub q z)
  · rw [e, nodup_snoc, pm.length_eq, List.length_cons, ← g.full]
    have z : p.2 ∉ (ks.take i).map (·.2) := fun q => hm ((g.same _).mpr q)
    constructor
    · exact fun q => ⟨by omega, z⟩
    · exact fun q => by rw [q.1]

theorem tk_keep {h h' : Heap} {k : List Key} {b : Addr} (T : Tk P w h k b) (hk' : ∀ c o, h.get? c = some o → h'.get? c = some o) : Tk P w h' k b := let ⟨o, its, n, h2, r⟩ := T; ⟨o, its, n, hk' b o h2, r⟩
theorem TSet.keep {h h' : Heap} (R : TSet P w h a L es t) (ha : ∀ o, h.get? a = some o → h'.get? a = some o) (ht : ∀ p ∈ L, Tk P w h' p.2 p.1) : TSet P w h' a L es t :=
  let ⟨o, ep, h2, r⟩ := R.obj
  ⟨⟨o, ep, ha o h2, r⟩, R.ents, R.tab, R.dist, ht, R.room, R.few⟩
theorem tset_new {h : Heap} {led : Bool} (ho : h.get? a = some { cls := .type "set", dict := none, data := .set #[] 0 (.fresh 0 0 led) }) : TSet P w h a [] #[] (.fresh 0 0 led) where
  obj := ⟨_, _, ho, ⟨rfl, rfl, rfl⟩, rfl⟩
  ents := rfl
  tab := ⟨List.Pairwise.nil, rfl, rfl, .inl rfl, fun _ z => (nomatch z), fun i h j z => (by simp at z)⟩
  dist := List.nodup_nil
  tups := fun _ z => (nomatch z)
  room := (by decide : 0 * 5 < 7 * 3)
  few := (by decide : 0 < 64)

/-- the loop that puts the items in -/
theorem fill {I S : Addr} {fp wr : List Addr} {G : Array GenState → Array GenState → Prop} {n : Nat} {Pv : Nat → Value → Prop} {Sv : Nat → Shared → Prop} {R : Result → Shared → Prop} (W : WalksS P w A.in1 I fp wr G n Pv Sv) (hS : S ∉ fp) (ks : List KT) (hn : n = ks.length) (hfew : ks.length < 64)
    (val : ∀ i v, Pv i v → ∃ p, ks[i]? = some p ∧ v = .ref p.1) (h0 : Heap) (hks : ∀ p ∈ ks, Tk P w h0 p.2 p.1) (nS : h0.get? S = none) (nw : ∀ b ∈ wr, h0.get? b = none) (hu : A.in1.units < cLine) (left : Nat) :
    ∀ (i : Nat) (z : Shared), n - i = left → i ≤ n → Sv i z → (∀ b o, h0.get? b = some o → z.heap.get? b = some o) → (∃ L es t, TSet P w z.heap S L es t ∧ Took ks i L) →
      (∀ z' L es t, Moved (S :: wr) G z z' → TSet P w z'.heap S L es t → Took ks n L → (∀ b o, h0.get? b = some o → z'.heap.get? b = some o) → R (.ok (.ret .none)) z') →
      codeAny (model P w) A (.builtin "set.update.loop" ⟨[.ref S, .ref I], []⟩) R z := by
  have nSw : S ∉ wr := fun z => hS (W.sub _ z)
  have wsub : ∀ b ∈ wr, b ∈ S :: wr := fun b hb => List.mem_cons_of_mem _ hb
  have kept : ∀ {z z' : Shared}, Moved wr G z z' → (∀ b o, h0.get? b = some o → z.heap.get? b = some o) → ∀ b o, h0.get? b = some o → z'.heap.get? b = some o := fun m k b o e => m.heap b o (fun hb => by rw [nw b hb] at e; cases e) (k b o e)
  have still : ∀ {z z' : Shared} {i : Nat} {L : List KT} {es t}, Moved wr G z z' → (∀ b o, h0.get? b = some o → z'.heap.get? b = some o) → Took ks i L → TSet P w z.heap S L es t → TSet P w z'.heap S L es t := fun m k g R =>
    R.keep (fun o e => m.heap S o nSw e) fun p hp => tk_keep (hks p (List.mem_of_mem_take (g.sub p hp))) k
  induction left with
  | zero =>
    intro i z hl hi hst hkeep ⟨L, es, t, hset, g⟩ fin
    obtain rfl : i = n := by omega
    refine codeAny_builtin PyProof.Rows.F.entry_set_update_loop ?_
    rw [Around.under_plainId PyProof.Rows.F.plain_set_update_loop _]
    show wpAny _ A.in1 (pyNext (.ref I) >>= _) _ _ z
    refine wpAny_bind (W.done z _ _ hst fun z' m => ?_)
    have k' := kept m hkeep
    exact wpAny_pure (fin z' L es t (m.mono wsub) (still m k' g hset) g k')
  | succ left ih =>
    intro i z hl hi hst hkeep ⟨L, es, t, hset, g⟩ fin
    have hin : i < n := by omega
    refine codeAny_builtin PyProof.Rows.F.entry_set_update_loop ?_
    rw [Around.under_plainId PyProof.Rows.F.plain_set_update_loop _]
    show wpAny _ A.in1 (pyNext (.ref I) >>= _) _ _ z
    refine wpAny_bind (W.item i z _ _ hin hst fun v z' hv hst' m => ?_)
    obtain ⟨p, hp, rfl⟩ := val i v hv
    have k' := kept m hkeep
    have T := tk_keep (hks p (List.mem_of_getElem? hp)) k'
    have R1 : TSet P w z'.heap S L es t := still m k' g hset
    show wpAny _ A.in1 (holding [Value.ref p.1] (setAdd S (.ref p.1)) >>= _) _ _ z'
    refine wpAny_bind (wpAny_holding ?_)
    unfold setAdd
    refine wpAny_holding (wpAny_bind (wpAny_pyHash_tuple hu T (add (s := { z' with toks := z'.toks + (p.2.length + 1) }) R1 T hu (by have := g.le; omega) fun b h' L' es' t' sb R' c1 c2 => ?_)))
    have g' : Took ks (i + 1) L' := by
      by_cases c : p.2 ∈ L.map (·.2)
      · rw [c1 c]
        exact g.old hp c
      · exact g.new hp c (c2 c)
    have k2 : ∀ b o, h0.get? b = some o → h'.get? b = some o := fun b o e => (sb.2 b fun q => by rw [q, nS] at e; cases e).trans (k' b o e)
    refine wpAny_pure ⟨plainId_quiet PyProof.Rows.F.plain_set_update_loop _, ih (i + 1) _ (by omega) hin (W.frame _ z' _ _ hst' (Nat.le_add_right _ _) fun b hb o e => ?_) k2 ⟨L', es', t', R', g'⟩ fun z2 L2 es2 t2 m2 R2 g2 kk2 => ?_⟩
    · rw [sb.2 b fun q => hS (q ▸ hb)]
      exact e
    · refine fin z2 L2 es2 t2 (Moved.trans W.gtrans ((m.mono wsub).then_heap (Nat.le_add_right _ _) fun b o hb e => ?_) m2) R2 g2 kk2
      rw [sb.2 b fun q => hb (q ▸ List.mem_cons_self)]
      exact e
end
end AsSet

set_option maxHeartbeats 4000000
set_option autoImplicit true
namespace AsSet
open PySem PySem.Spec PyProof.Rows L2
section
variable {P : Program} {w : World} {A : Around} {E : Value → Shared → Prop} {s : Shared}
abbrev bareSet (led : Bool) : Obj := { cls := .type "set", dict := none, data := .set #[] 0 (.fresh 0 0 led) }
/-- set(t), t a tuple of such tuples -/
theorem set_of {l : Addr} {items : Array Value} (ks : List KT) {Q : Value → Shared → Prop} (hh : A.handled = none) (hl : s.heap.IsTuple l items) (hit : items.toList = ks.map fun p => Value.ref p.1) (hks : ∀ p ∈ ks, Tk P w s.heap p.2 p.1) (hfew : ks.length < 64) (hu : A.units + 3 < cLine)
    (q : ∀ h' tk L es t, TSet P w h' s.heap.objs.size L es t → Took ks ks.length L → (∀ b o, s.heap.get? b = some o → h'.get? b = some o) → Q (.ref s.heap.objs.size) { s with heap := h', toks := tk }) :
    wpAny (model P w) A (call (.type "set") [.ref l]) Q E s := by
  have hz : items.size = ks.length := by rw [← Array.length_toList, hit, List.length_map]
  have cs := PySem.F.called_set
  obtain ⟨c, tl, hmro⟩ := cs.mro
  have hmade := cs.made
  have hsub := cs.sub
  have n1 := cs.notType
  have n2 := cs.canCreate
  have ct := PySem.F.typeCall_set_1 (.ref l)
  refine wpAny_call (codeAny_of_tree (show wpAny _ _ (callAny (.type "set") _) _ _ _ from wpAny_pure ⟨Code.quiet_builtin _ (by decide +kernel), codeAny_builtin PySem.F.entry_type_call ?_⟩))
  rw [Around.under_plain (weight_type_call_type "set" [.ref l] []) rfl]
  repeat (any_goals (first | assumption | wp_step))
  refine codeAny_mono (code_set_new_1 (.ref l) (E := E) (Q₁ := fun v z => ∃ led : Bool, v = .ref s.heap.objs.size ∧ z = { s with heap := s.heap.push (bareSet led) }) fun led => ⟨led, rfl, rfl⟩) fun r z hr => ?_
  match r, hr with
  | .error _, hr => exact hr
  | .ok .next, hr => exact hr.elim
  | .ok .brk, hr => exact hr.elim
  | .ok .cont, hr => exact hr.elim
  | .ok (.ret v), hr =>
    obtain ⟨led, rfl, rfl⟩ := hr
    have at0 : (s.heap.push (bareSet led)).get? s.heap.objs.size = some (bareSet led) := Heap.get?_push_size _ rfl
    have ty : Shared.TypeIs { s with heap := s.heap.push (bareSet led) } (.ref s.heap.objs.size) "set" := ⟨_, at0, rfl⟩
    have li := cs.init.lookup
    have bi := cs.init.bind (.ref s.heap.objs.size)
    repeat (any_goals (first | assumption | wp_step))
    refine codeAny_mono (codeAny_call_builtin (R := wants (fun r z => r = .none ∧ ∃ h' tk L es t, z = { s with heap := h', toks := tk } ∧ TSet P w h' s.heap.objs.size L es t ∧ Took ks ks.length L ∧ ∀ b o, s.heap.get? b = some o → h'.get? b = some o) E)
      cs.init.plain PySem.F.entry_set_init (check_set_init_1 ty ?_)) fun r2 z2 hr2 => ?_
    · obtain ⟨⟨ocls, odict, odata, oslots⟩, hol, hc, nl, hd⟩ := hl
      simp only at hc hd
      subst hc
      subst hd
      have hol2 : (s.heap.push (bareSet led)).get? l = some { cls := .type "tuple", dict := odict, data := .seq items nl, slots := oslots } := Heap.get?_push_of_some _ hol
      have ts := PySem.F.sub_tuple_set
      have tf := PySem.F.sub_tuple_frozenset
      have td : (Value.type "tuple" == Value.type "dict") = false := by decide
      have hl2 : (s.heap.push (bareSet led)).IsTuple l items := ⟨_, hol2, rfl, nl, rfl⟩
      unfold Builtin.«set.__init__» noKeywords Builtin.Frozenset.updateFrom
      generalize hPI : pyIter = PI
      wp_walk
      subst hPI
      have lt : l < s.heap.objs.size := Heap.lt_size hol
      have zz : (s.heap.push (bareSet led)).objs.size = s.heap.objs.size + 1 := Heap.size_push ..
      have gone : ∀ b, s.heap.objs.size ≤ b → s.heap.get? b = none := fun b hb => Heap.get?_none_of_le hb
      refine wpAny_pyIter_tuple hl2 (wpAny_bind (wpAny_runValue ?_))
      have h3 : A.in1.in1.in1.handled = none := hh
      have ne1 : l ≠ (s.heap.push (bareSet led)).objs.size := by rw [zz]; exact Nat.ne_of_lt (Nat.lt_succ_of_lt lt)
      have ne2 : s.heap.objs.size ∉ [(s.heap.push (bareSet led)).objs.size, l] := by
        rw [zz]
        intro e
        rcases List.mem_cons.mp e with e | e
        · exact Nat.ne_of_lt (Nat.lt_succ_self _) e
        · exact Nat.ne_of_gt lt (List.mem_singleton.mp e)
      refine fill (S := s.heap.objs.size) ((Walks.tuple h3 _ l ne1 items).toS) ne2 ks hz hfew (fun i v hv => ?_) s.heap hks (gone _ (Nat.le_refl _)) (fun b hb => gone b (by rw [List.mem_singleton.mp hb, zz]; exact Nat.le_succ _)) hu items.size 0 _ (Nat.sub_zero _) (Nat.zero_le _)
        ⟨⟨_, Heap.get?_push_size _ rfl, rfl, rfl⟩, hl2.push _⟩ (fun b o e => Heap.get?_push_of_some _ (Heap.get?_push_of_some _ e)) ⟨[], #[], _, tset_new (Heap.get?_push_of_some _ at0), Took.start ks⟩ fun z' L es t m R g kk => ?_
      · have z : items.toList[i]? = some v := by rw [Array.getElem?_toList]; exact hv
        rw [hit, List.getElem?_map] at z
        cases hq : ks[i]? with
        | none => rw [hq] at z; cases z
        | some p =>
          rw [hq] at z
          exact ⟨p, rfl, (Option.some.inj z).symm⟩
      · obtain ⟨zh, zg, zd, zt, zo⟩ := z'
        obtain rfl : zg = s.gens := m.gens
        obtain rfl : zd = s.drawn := m.drawn
        obtain rfl : zo = s.os := m.os
        rw [hz] at g
        exact wpAny_pure (show wpAny _ _ (ret Value.none) _ _ _ from wpAny_pure ⟨rfl, zh, zt, L, es, t, rfl, R, g, kk⟩)
    · match r2, hr2 with
      | .error _, hr => exact hr
      | .ok .next, hr => exact hr.elim
      | .ok .brk, hr => exact hr.elim
      | .ok .cont, hr => exact hr.elim
      | .ok (.ret v), hr =>
        obtain ⟨rfl, h', tk, L, es, t, rfl, R, g, kk⟩ := hr
        repeat (any_goals (first | assumption | wp_step))
        exact q _ _ _ _ _ R g kk
end

theorem items_of : ∀ {ks : List Key} {us : List Value} {P : Program} {w : World}, Vals (ks.map kV) us → ItemsAre (mixKind P w) ks us
  | [], _, _, _, .nil => .nil
  | .inl i :: ks, _, P, w, .cons r t => by
    obtain ⟨k, rfl⟩ := r
    exact .cons (mixKind_int P w i k) (items_of t)
  | .inr x :: ks, _, P, w, .cons r t => by
    obtain ⟨k, rfl⟩ := r
    exact .cons (mixKind_str P w x k) (items_of t)
theorem tk_of {X : Cx} {pins : List (Addr × Obj)} {σ : L2.St} {H : Hp} {s : Shared} {b : Addr} {ks : List Key} (I : Inv X pins σ H s) (h : SqT X.K H b (ks.map kV)) : Tk X.prog X.w s.heap ks b := by
  obtain ⟨its, rv, ⟨o, ho, hc, n, hd⟩, _⟩ := I.tuple h
  exact ⟨o, its.toArray, n, ho, hc, hd, items_of rv⟩
theorem refs_of : ∀ {ks : List KT} {us : List Value}, Vals (ks.map fun p => V.ref p.1) us → us = ks.map fun p => Value.ref p.1
  | [], _, .nil => rfl
  | _ :: _, _, .cons r t => by
    cases r
    rw [refs_of t]
    rfl
/-- len(set(t)): n is told by whether the items differ -/
def tLenSet (K : PySem.W.Frag) (ta : TE) : TE := fun σ H Q => ta σ H fun x G => ∃ (l : Addr) (ks : List KT), x = .ref l ∧ SqT K G l (ks.map fun p => V.ref p.1) ∧ (∀ p ∈ ks, SqT K G p.1 (p.2.map kV)) ∧ ks.length < 64 ∧
  ∀ n : Nat, n ≤ ks.length → (n = ks.length ↔ (ks.map (·.2)).Nodup) → Q (.int (n : Int)) G
theorem pe_lenSet {X : Cx} {a : Expr} {ta : TE} {k : Nat} {p p2 q pos : Pos} (hr : Room k X.A) (hg : Gl X "len") (hm : X.mg "len" = none) (hg2 : Gl X "set") (hm2 : X.mg "set" = none) (ha : PE X a ta) (hc : X.calm = true := by rfl)
    (na : starEach [a] X.env = (false, eval a X.env) :: starEach [] X.env := by rfl) : PE X (.Call (.Name "len" p) [.Call (.Name "set" p2) [a] [] q] [] pos) (tLenSet X.K ta) := by
  refine ⟨fun pins s σ H Q I h => ?_⟩
  refine Call_ (ld_blt I hg hm boot_len (PyProof.Rows.callWith_builtin1 (PyProof.Rows.args_cons (Call_ (ld_blt I hg2 hm2 boot_set ?_)) rfl) rfl rfl))
  refine PyProof.Rows.callWith_type1 (PyProof.Rows.args_cons (thn (ha.run pins s σ H _ I h) fun v s1 ⟨x, G, J, r1, q1⟩ => PyProof.Rows.args_nil ?_) na) na rfl
  obtain ⟨l, ks, rfl, hq, hks, hl, q1⟩ := q1
  cases r1
  obtain ⟨its, rv, tp, hz⟩ := J.tuple hq
  have hu := hr.units
  refine set_of ks (J.ok.hd hc) tp (by rw [refs_of rv]) (fun p hp => tk_of J (hks p hp)) hl (by omega) fun h' tk L es t R g kk => PyProof.Rows.args_nil ?_
  have J2 : Inv X pins σ G { s1 with heap := h', toks := tk } := J.kept kk
  obtain ⟨o, ep, ho, hex, hd⟩ := R.obj
  have hn := ents_len R.ents
  have hfull := g.full
  rw [List.take_length] at hfull
  exact call_len_set ho hex hd (R.fit (s := { s1 with heap := h', toks := tk })) (by rw [hn]; have := R.few; omega) ⟨.int (L.length : Nat), G, J2.tok _, ⟨_, by rw [hn]⟩, q1 L.length g.le hfull⟩
end AsSet

set_option maxHeartbeats 4000000
set_option autoImplicit false
/-! kinds: tuples of two texts; a tuple of them has no double. -/
namespace AsKit
open PySem PySem.Spec PyProof.Rows L2 AsSort
open Evl (Ex Ev EvT EvA)
def kD (p : Str × Str) : PyData := .tuple [.str p.1, .str p.2]
def kK (p : Str × Str) : List Key := [Sum.inr p.1, Sum.inr p.2]
theorem kK_inj {p q : Str × Str} (h : kK p = kK q) : p = q := by
  have e1 : (Sum.inr p.1 : Key) = Sum.inr q.1 := (List.cons.inj h).1
  have e2 : (Sum.inr p.2 : Key) = Sum.inr q.2 := (List.cons.inj (List.cons.inj h).2).1
  exact Prod.ext (Sum.inr.inj e1) (Sum.inr.inj e2)
theorem kK_nodup {ps : List (Str × Str)} : (ps.map kK).Nodup ↔ ps.Nodup := by
  unfold List.Nodup
  rw [List.pairwise_map]
  exact ⟨fun h => h.imp fun n e => n (by rw [e]), fun h => h.imp fun n e => n (kK_inj e)⟩
section
variable {K : PySem.W.Frag} {σ : L2.St} {H : Hp} {te : TE}
theorem kts {G : Hp} : ∀ {ps : List (Str × Str)} {xs : List V}, DpAll K G xs (ps.map kD) → ∃ ks : List AsSet.KT, xs = ks.map (fun p => V.ref p.1) ∧ (∀ p ∈ ks, SqT K G p.1 (p.2.map kV)) ∧ ks.map (·.2) = ps.map kK
  | [], _, .nil => ⟨[], rfl, fun _ h => (nomatch h), rfl⟩
  | p :: ps, _, .cons h t => by
    obtain ⟨ks, e1, e2, e3⟩ := kts (ps := ps) t
    cases h with
    | tup hs hx =>
      rename_i a ys
      obtain ⟨u, v, rfl, h1, h2⟩ := dp2 hx
      cases h1
      cases h2
      refine ⟨(a, kK p) :: ks, by rw [e1]; rfl, fun q hq => ?_, by rw [List.map_cons, List.map_cons, e3]⟩
      rcases List.mem_cons.mp hq with e | hq
      · rw [e]
        exact hs
      · exact e2 q hq
theorem d_lenSetEq {ps : List (Str × Str)} (h : EvD K te σ H (.tuple (ps.map kD))) (hl : ps.length < 64) : EvD K (tOp rEq (AsSet.tLenSet K te) (tCB (rLenQ K) (tCons te tNil))) σ H (.bool (decide ps.Nodup)) := fun H1 a Q q =>
  h H1 a _ fun v H2 x hd => by
    cases hd with
    | tup hs hx =>
      obtain ⟨ks, e1, e2, e3⟩ := kts hx
      subst e1
      have hk : ks.length = ps.length := by
        have z := congrArg List.length e3
        rw [List.length_map, List.length_map] at z
        exact z
      refine ⟨_, ks, rfl, hs, e2, by omega, fun n hn hi => ?_⟩
      refine h H2 (a.trans x) _ fun w H3 y hw => ?_
      cases hw with
      | tup hs3 hx3 =>
        rename_i c zs
        refine ⟨c, zs, rfl, .inr hs3, rfl, ?_⟩
        have hz : zs.length = ps.length := by rw [dpAll_len hx3, List.length_map]
        rw [hz]
        have e : decide (V.int (n : Int) = V.int ((ps.length : Nat) : Int)) = decide ps.Nodup := by
          rw [e3, kK_nodup] at hi
          by_cases c : ps.Nodup
          · rw [decide_eq_true c, hi.mpr c, hk]
            exact decide_eq_true rfl
          · rw [decide_eq_false c]
            exact decide_eq_false fun z => c (hi.mp (by have := Int.ofNat.inj (V.int.inj z); omega))
        rw [e]
        exact q _ H3 (x.trans y) (.bl _)
end
end AsKit

set_option maxHeartbeats 4000000
set_option autoImplicit false
namespace K26
open PySem PySem.Spec PyProof.Rows L2 AsSort AsKit
open Evl (Ex Ev EvT EvA)
def top (i : Nat) : Stmt := PySem.Challenge.pw_anyscribe_k26_menders_refused.main.body.getD i (.Pass ⟨0, 0, 0, 0⟩)
abbrev sIsInteger : Stmt := top 16
abbrev sIsLetters : Stmt := top 17
abbrev sIsText : Stmt := top 18
abbrev sIsTextWithin : Stmt := top 19
abbrev sIsKind : Stmt := top 20
abbrev sIsLot : Stmt := top 21
abbrev sCheckLetters : Stmt := top 22
abbrev sCheckText : Stmt := top 23
abbrev sCheckKinds : Stmt := top 24
section
variable {P : Program} {w : World} {K : PySem.W.Frag} {mg : Str → Option Value} {base : Heap}
theorem sc_is_integer : FnScope ["value"] ["value"] (defScope sIsInteger) := ⟨rfl, rfl, rfl, by decide +kernel, rfl, by decide +kernel, by decide +kernel⟩
def isIntD (d : PyData) : Bool := isD "int" d && !isD "bool" d
abbrev spIsInteger (K : PySem.W.Frag) : Sp := spP K (fun ds => ds.length = 1) (one fun d => .bool (isIntD d))
theorem c_is_integer (D : Df K mg "is_integer" sIsInteger) (hb : Bl mg) : Cl P w K mg base 1 "is_integer" (spIsInteger K) [] := by
  refine cl_of D sc_is_integer (len_sp fun ds h => h) (fun _ _ _ _ _ _ us hl => match us, hl with | [_], _ => rfl) fun f cdv A outer s H vs Q E hr h => ?_
  obtain ⟨ds, hd, hp, q⟩ := h
  refine ⟨_, pss_one (ps_ret (pe_and (pe_isi (x := "int") (T := "int") hb (pv 0)) (pe_one (pe_not (pe_isi (x := "bool") (T := "bool") hb (pv 0)))))), ?_⟩
  obtain ⟨d, rfl⟩ := List.length_eq_one_iff.mp hp
  cases hd with
  | cons h1 hd =>
    cases hd
    have a0 : At K (start ["value"] [_]) H 0 d := ⟨_, rfl, h1⟩
    exact AsKit.s_ret (K := K) (d_and (d_isD (d_var a0)) fun _ => d_not (d_isD (d_var a0))) q
abbrev nIsLetters : List Str := ["value", "small", "rising", "letter", "at"]
theorem sc_is_letters : FnScope nIsLetters ["value"] (defScope sIsLetters) := ⟨rfl, rfl, rfl, by decide +kernel, rfl, by decide +kernel, by decide +kernel⟩
def leS (i j : Str) : Bool := !decide (j.cps.toList < i.cps.toList)
def smF : PyData → Bool
  | .str y => leS "a" y && leS y "z"
  | _ => false
def riF (z : Str) : PyData → Bool
  | .int i => match atI z.cps.toList (i - 1), atI z.cps.toList i with
    | some a, some b => decide ([a] < [b])
    | _, _ => false
  | _ => false
def isLetS (z : Str) : Bool := decide ((1 : Int) ≤ z.length) && decide ((z.length : Int) ≤ 4) && (decide (((((sgns z).filter smF).map id).length : Int) = z.length) && decide (((((rngD 1 ((z.length : Int) - 1).toNat).filter (riF z)).map id).length : Int) = (z.length : Int) - 1))
def isLettersD : PyData → Bool
  | .str z => isLetS z
  | _ => false
abbrev spIsLetters (K : PySem.W.Frag) : Sp := spP K (fun ds => ∃ d, ds = [d] ∧ Tx d) (one fun d => .bool (isLettersD d))
theorem c_is_letters (D : Df K mg "is_letters" sIsLetters) (hb : Bl mg) (hm : Gn mg "MOST_LETTERS" 4) : Cl P w K mg base 1 "is_letters" (spIsLetters K) [] := by
  refine cl_of D sc_is_letters (len_sp fun ds ⟨d, h, _⟩ => by rw [h]; rfl) (fun _ _ _ _ _ _ us hl => match us, hl with | [_], _ => rfl) fun f cdv A outer s H vs Q E hr h => ?_
  obtain ⟨ds, hd, ⟨d, rfl, ht⟩, q⟩ := h
  obtain ⟨v, rfl, h0⟩ := dp1 hd
  refine ⟨_, pss_cons (ps_if (pw_or (pt_not (pt_val (pe_isi (x := "str") (T := "str") hb (pv 0)))) (pw_or1 (pt_not (pt_chain op_le op_le pe_int (pe_lenS hb (pv 0)) (pe_gn hm))))).pt (pss_one (ps_ret pe_bl)) pss_nil)
    (pss_cons (ps_setLcn (i := 1) 3 sc_is_letters.nd (pi_str (pv 0)) (fun _ _ _ _ _ => pts_one (pt_chain op_le_str op_le_str pe_str (pv 3) pe_str)) (fun _ _ _ _ _ => pv 3) (fun _ _ _ _ _ => pg_name sc_is_letters.nd rfl (.inl rfl)) (blkOk_by (N := nIsLetters) (sc := defScope sIsLetters) (own := [("letter", 3)]) (by decide +kernel)) rfl rfl rfl (sw_true rfl rfl rfl (by decide +kernel)))
    (pss_cons (ps_setLcn (i := 2) 4 sc_is_letters.nd (pi_range2 (by rfl) (hb _ (by decide +kernel)) (pa_cons pe_int (pa_cons (pe_lenS hb (pv 0)) pa_nil))) (fun _ _ _ _ _ => pts_one (pt_cmpR op_lt_str (pe_ix ix_str (pv 0) (pe_op op_sub (pv 4) pe_int) (fun _ _ => rfl)) (pe_ix ix_str (pv 0) (pv 4) (fun _ _ => rfl)) (nomark _))) (fun _ _ _ _ _ => pv 4) (fun _ _ _ _ _ => pg_name sc_is_letters.nd rfl (.inl rfl)) (blkOk_by (N := nIsLetters) (sc := defScope sIsLetters) (own := [("at", 4)]) (by decide +kernel)) rfl rfl rfl (sw_true rfl rfl rfl (by decide +kernel)))
    (pss_one (ps_ret (pe_and (pe_cmpR op_eq (pe_lenQ hb (pv 1)) (pe_lenS hb (pv 0)) (nomark _)) (pe_one (pe_cmpR op_eq (pe_lenQ hb (pv 2)) (pe_op op_sub (pe_lenS hb (pv 0)) pe_int) (nomark _)))))))), ?_⟩
  have a0 : At K (start nIsLetters [v]) H 0 d := ⟨_, rfl, h0⟩
  by_cases hs : isD "str" d = true
  · obtain ⟨z, rfl⟩ := isD_str hs
    have hz : z.length ≤ 40000 := ht z rfl
    have hz1 : z.length ≤ 100000 := by omega
    refine Evl.q_when (b := !(isD "str" (.str z)) || !(decide ((1 : Int) ≤ z.length) && decide ((z.length : Int) ≤ 4))) (Evl.et_or (Evl.et_not (t_ofB (d_isD (d_var a0)))) fun _ => Evl.et_not (t_ofD (d_chI (g1 := fun i j => decide (i ≤ j)) (g2 := fun i j => decide (i ≤ j)) d_int (d_lenS (d_var a0) hz1) fun _ => d_int))) (fun hb1 H1 e1 => AsKit.s_ret (K := K) d_bl fun u H2 e2 hu => q u H2 (e1.trans e2) ?_) fun hb1 H1 e1 => ?_
    · have : isLettersD (.str z) = false := by
        rw [hs, Bool.not_true, Bool.false_or, Bool.not_eq_true'] at hb1
        show isLetS z = false
        unfold isLetS
        rw [hb1, Bool.false_and]
      show Dp K H2 u (.bool (isLettersD (.str z)))
      rw [this]
      exact hu
    · rw [hs, Bool.not_true, Bool.false_or] at hb1
      have hb2 : (decide ((1 : Int) ≤ z.length) && decide ((z.length : Int) ≤ 4)) = true := by simpa using hb1
      have hz4 : z.length ≤ 4 ∧ 1 ≤ z.length := by
        simp only [Bool.and_eq_true, decide_eq_true_eq] at hb2
        omega
      refine AsKit.q_asg (d_lcS (z := z) smF id (d_var (a0.mono e1)) (by omega) (fun d hd hf => ?_) fun c hc x H2 e2 hx k hk => hk _ rfl (t_ofD (K := K) ?_) fun _ => d_var ⟨_, rfl, hx⟩) fun v1 H2 e2 h1 => ?_
      · obtain ⟨c, _, rfl⟩ := List.mem_map.mp hd
        rfl
      · exact d_chS (g1 := leS) (g2 := leS) d_str (d_var ⟨_, rfl, hx⟩) d_str
      have b0 : At K ((start nIsLetters [v]).set 1 (some v1)) H2 0 (.str z) := ⟨_, rfl, dp_ex (e1.trans e2) h0⟩
      refine AsKit.q_asg (d_lcR2 (lo := 1) (hi := z.length) (riF z) id (ds_cons d_int (ds_cons (d_lenS (d_var b0) hz1) ds_nil)) (by omega) (fun d hd hf => ?_) fun i hi x H3 e3 hx k hk => hk _ rfl (t_ofD (K := K) ?_) fun _ => d_var ⟨_, rfl, hx⟩) fun v2 H3 e3 h2 => ?_
      · obtain ⟨c, _, rfl⟩ := List.mem_map.mp hd
        rfl
      · have hl : z.cps.toList.length = z.length := Array.length_toList
        have hA : ∀ n : Nat, n < z.length → ∃ c, atI z.cps.toList (n : Int) = some c := fun n hn => ⟨_, atI_nat (List.getElem?_eq_getElem (by omega))⟩
        obtain ⟨p1, q1⟩ := hA i (by omega)
        obtain ⟨p2, q2⟩ := hA (i + 1) (by omega)
        have x1 : (1 : Int) + (i : Int) - 1 = (i : Int) := by omega
        have x2 : (1 : Int) + (i : Int) = ((i + 1 : Nat) : Int) := by omega
        have r : riF z (.int (1 + i)) = decide ([p1] < [p2]) := by
          show (match atI z.cps.toList (1 + (i : Int) - 1), atI z.cps.toList (1 + (i : Int)) with
            | some a, some b => decide ([a] < [b])
            | _, _ => false) = _
          rw [x1, x2, q1, q2]
        rw [r]
        have c0 : At K ((wipe (((start nIsLetters [v]).set 1 (some v1))) [4]).set 4 (some x)) H3 0 (.str z) := ⟨_, rfl, dp_ex ((e1.trans e2).trans e3) h0⟩
        have c4 : At K ((wipe (((start nIsLetters [v]).set 1 (some v1))) [4]).set 4 (some x)) H3 4 (.int (1 + i)) := ⟨_, rfl, hx⟩
        exact d_cmpS (g := fun i j => decide (i.cps.toList < j.cps.toList)) (d_ixS (c := p1) (d_var c0) (d_arI (g := fun i j => i - j) (d_var c4) d_int) hz1 (by rw [x1]; exact q1)) (d_ixS (c := p2) (d_var c0) (d_var c4) hz1 (by rw [x2]; exact q2))
      have c0 : At K (((start nIsLetters [v]).set 1 (some v1)).set 2 (some v2)) H3 0 (.str z) := ⟨_, rfl, dp_ex ((e1.trans e2).trans e3) h0⟩
      have c1 : At K (((start nIsLetters [v]).set 1 (some v1)).set 2 (some v2)) H3 1 _ := ⟨_, rfl, dp_ex e3 h1⟩
      have c2 : At K (((start nIsLetters [v]).set 1 (some v1)).set 2 (some v2)) H3 2 _ := ⟨_, rfl, h2⟩
      refine AsKit.s_ret (K := K) (d_and (d_eqI (d_lenL (d_var c1)) (d_lenS (d_var c0) hz1)) fun _ => d_eqI (d_lenL (d_var c2)) (d_arI (g := fun i j => i - j) (d_lenS (d_var c0) hz1) d_int)) fun u H4 e4 hu => q u H4 (((e1.trans e2).trans e3).trans e4) ?_
      show Dp K H4 u (.bool (isLettersD (.str z)))
      show Dp K H4 u (.bool (isLetS z))
      unfold isLetS
      rw [hb2, Bool.true_and]
      exact hu
  · have hs : isD "str" d = false := by simpa using hs
    refine Evl.q_when (b := !(isD "str" d) || false) (Evl.et_or (Evl.et_not (t_ofB (d_isD (d_var a0)))) fun h => by rw [hs] at h; cases h) (fun hb1 H1 e1 => AsKit.s_ret (K := K) d_bl fun u H2 e2 hu => q u H2 (e1.trans e2) ?_) fun hb1 => by rw [hs] at hb1; cases hb1
    have : isLettersD d = false := by
      cases d with
      | str z => rw [isD_str1] at hs; cases hs
      | _ => rfl
    show Dp K H2 u (.bool (isLettersD d))
    rw [this]
    exact hu
abbrev nIsText : List Str := ["letters", "value", "letter"]
theorem sc_is_text : FnScope nIsText ["letters", "value"] (defScope sIsText) := ⟨rfl, rfl, rfl, by decide +kernel, rfl, by decide +kernel, by decide +kernel⟩
def allIn (y z : Str) : Bool := z.cps.toList.all fun c => decide (c ∈ y.cps.toList)
def isTextD : PyData → PyData → Bool
  | .str y, .str z => allIn y z
  | _, _ => false
theorem isTextD_no {l d : PyData} (h : isD "str" d = false) : isTextD l d = false := by
  cases d with
  | str z => rw [isD_str1] at h; cases h
  | _ => cases l <;> rfl
abbrev spIsText (K : PySem.W.Frag) : Sp := spP K (fun ds => ∃ y d, ds = [.str y, d] ∧ Tx d) (two fun l d => .bool (isTextD l d))
theorem c_is_text (D : Df K mg "is_text" sIsText) (hb : Bl mg) : Cl P w K mg base 1 "is_text" (spIsText K) [] := by
  refine cl_of D sc_is_text (len_sp fun ds ⟨y, d, h, _⟩ => by rw [h]; rfl) (fun _ _ _ _ _ _ us hl => match us, hl with | [_, _], _ => rfl) fun f cdv A outer s H vs Q E hr h => ?_
  obtain ⟨ds, hd, ⟨y, d, rfl, ht⟩, q⟩ := h
  obtain ⟨v, v2, rfl, h0, h1⟩ := dp2 hd
  refine ⟨_, pss_one (ps_ret (pe_and (pe_isi (x := "str") (T := "str") hb (pv 1)) (pe_one (pe_allL rfl hb (pe_lcn 2 sc_is_text.nd (pi_str (pv 1)) (fun _ _ _ _ _ => pts_nil) (fun _ _ _ _ _ => pe_cmpR op_inS (pv 2) (pv 0) rfl) (fun _ _ _ _ _ => pg_name sc_is_text.nd rfl (.inl rfl)) (blkOk_by (N := nIsText) (sc := defScope sIsText) (own := [("letter", 2)]) (by decide +kernel)) rfl))))), ?_⟩
  have a0 : At K (start nIsText [v, v2]) H 0 (.str y) := ⟨_, rfl, h0⟩
  have a1 : At K (start nIsText [v, v2]) H 1 d := ⟨_, rfl, h1⟩
  by_cases hs : isD "str" d = true
  · obtain ⟨z, rfl⟩ := isD_str hs
    have hz : z.length ≤ 40000 := ht z rfl
    refine AsKit.s_ret (K := K) (d_and (b := allIn y z) (d_isD (d_var a1)) fun _ => ?_) fun u H2 e2 hu => q u H2 e2 ?_
    · have e : (((sgns z).filter fun _ => true).map fun d => PyData.bool (match d with | .str ⟨#[c]⟩ => decide (c ∈ y.cps.toList) | _ => false)) = (z.cps.toList.map fun c => decide (c ∈ y.cps.toList)).map PyData.bool := by
        rw [List.filter_eq_self.mpr fun _ _ => rfl]
        unfold sgns
        rw [List.map_map, List.map_map]
        rfl
      refine d_eqTo (d_all (bs := z.cps.toList.map fun c => decide (c ∈ y.cps.toList)) (d_eqTo (d_lcS (z := z) (fun _ => true) (fun d => PyData.bool (match d with | .str ⟨#[c]⟩ => decide (c ∈ y.cps.toList) | _ => false)) (d_var a1) (by omega) (fun _ _ _ => rfl) fun c hc x H2 e2 hx k hk => hk _ rfl (fun H3 e3 Q q => q H3 (Ex.refl H3)) fun _ => ?_) (congrArg PyData.list e))) ?_
      · exact d_inS (d_var ⟨_, rfl, hx⟩) (d_var ⟨_, rfl, dp_ex e2 h0⟩)
      · unfold allIn
        rw [List.all_map]
        rfl
    · show Dp K H2 u (.bool (allIn y z))
      rw [hs, Bool.true_and] at hu
      exact hu
  · have hs : isD "str" d = false := by simpa using hs
    refine AsKit.s_ret (K := K) (d_and (b := true) (d_isD (d_var a1)) fun h => by rw [hs] at h; cases h) fun u H2 e2 hu => q u H2 e2 ?_
    show Dp K H2 u (.bool (isTextD (.str y) d))
    rw [isTextD_no hs]
    rw [hs, Bool.false_and] at hu
    exact hu
abbrev nIsTextWithin : List Str := ["letters", "value", "longest"]
theorem sc_is_text_within : FnScope nIsTextWithin ["letters", "value", "longest"] (defScope sIsTextWithin) := ⟨rfl, rfl, rfl, by decide +kernel, rfl, by decide +kernel, by decide +kernel⟩
def withinS (y z : Str) (n : Int) : Bool := decide ((z.length : Int) ≤ n) && allIn y z
def withinD (y : Str) (n : Int) : PyData → Bool
  | .str z => withinS y z n
  | _ => false
theorem withinD_no {y : Str} {n : Int} {d : PyData} (h : isD "str" d = false) : withinD y n d = false := by
  cases d with
  | str z => rw [isD_str1] at h; cases h
  | _ => rfl
def tw3 : PyData → PyData → PyData → PyData
  | .str y, d, .int n => .bool (withinD y n d)
  | _, _, _ => .none
abbrev spIsTextWithin (K : PySem.W.Frag) : Sp := spP K (fun ds => ∃ y d n, ds = [.str y, d, .int n] ∧ Tx d) (three tw3)
theorem c_is_text_within (D : Df K mg "is_text_within" sIsTextWithin) (hb : Bl mg) (C1 : Cl P w K mg base 1 "is_text" (spIsText K) []) : Cl P w K mg base 2 "is_text_within" (spIsTextWithin K) [] := by
  refine cl_of D sc_is_text_within (len_sp fun ds ⟨y, d, n, h, _⟩ => by rw [h]; rfl) (fun _ _ _ _ _ _ us hl => match us, hl with | [_, _, _], _ => rfl) fun f cdv A outer s H vs Q E hr h => ?_
  obtain ⟨ds, hd, ⟨y, d, n, rfl, ht⟩, q⟩ := h
  obtain ⟨v, v2, v3, rfl, h0, h1, h2⟩ := dp3 hd
  refine ⟨_, pss_one (ps_ret (pe_and (pe_isi (x := "str") (T := "str") hb (pv 1)) (pe_and (pe_cmpR op_le (pe_lenS hb (pv 1)) (pv 2) (nomark _)) (pe_one (C8.pe_c C1 hr (by decide) (by rfl) (pa_cons (pv 0) (pa_cons (pv 1) pa_nil))))))), ?_⟩
  have a0 : At K (start nIsTextWithin [v, v2, v3]) H 0 (.str y) := ⟨_, rfl, h0⟩
  have a1 : At K (start nIsTextWithin [v, v2, v3]) H 1 d := ⟨_, rfl, h1⟩
  have a2 : At K (start nIsTextWithin [v, v2, v3]) H 2 (.int n) := ⟨_, rfl, h2⟩
  by_cases hs : isD "str" d = true
  · obtain ⟨z, rfl⟩ := isD_str hs
    have hz : z.length ≤ 40000 := ht z rfl
    refine AsKit.s_ret (K := K) (d_and (b := withinS y z n) (d_isD (d_var a1)) fun _ => d_and (d_cmpI (g := fun i j => decide (i ≤ j)) (d_lenS (d_var a1) (by omega)) (d_var a2)) fun _ => d_call (ds_cons (d_var a0) (ds_cons (d_var a1) ds_nil)) ⟨y, .str z, rfl, ht⟩) fun u H2 e2 hu => q u H2 e2 ?_
    show Dp K H2 u (.bool (withinS y z n))
    rw [hs, Bool.true_and] at hu
    exact hu
  · have hs : isD "str" d = false := by simpa using hs
    refine AsKit.s_ret (K := K) (d_and (b := true) (d_isD (d_var a1)) fun h => by rw [hs] at h; cases h) fun u H2 e2 hu => q u H2 e2 ?_
    show Dp K H2 u (.bool (withinD y n d))
    rw [withinD_no hs]
    rw [hs, Bool.false_and] at hu
    exact hu
theorem two_of : ∀ {es : List PyData}, es.length = 2 → ∃ a b, es = [a, b]
  | [a, b], _ => ⟨a, b, rfl⟩
abbrev nIsKind : List Str := ["letters", "value", "left", "right"]
theorem sc_is_kind : FnScope nIsKind ["letters", "value"] (defScope sIsKind) := ⟨rfl, rfl, rfl, by decide +kernel, rfl, by decide +kernel, by decide +kernel⟩
def neS : PyData → PyData → Bool
  | .str a, .str b => !decide (a = b)
  | _, _ => false
def kindD (y : Str) : PyData → Bool
  | .tuple [a, b] => (withinD y 3 a && withinD y 1 b) && neS a b
  | _ => false
theorem kindD_no {y : Str} {d : PyData} (h : isD "tuple" d = false) : kindD y d = false := by
  cases d with
  | tuple z => rw [isD_tup1] at h; cases h
  | _ => rfl
theorem kindD_len {y : Str} {ds : List PyData} (h : ds.length ≠ 2) : kindD y (.tuple ds) = false := by
  match ds, h with
  | [], _ => rfl
  | [_], _ => rfl
  | [_, _], h => exact (h rfl).elim
  | _ :: _ :: _ :: _, _ => rfl
/-- the items' texts are of a length that can be told -/
def TxK (d : PyData) : Prop := ∀ ds, d = .tuple ds → ∀ e ∈ ds, Tx e
def kd2 : PyData → PyData → PyData
  | .str y, d => .bool (kindD y d)
  | _, _ => .none
abbrev spIsKind (K : PySem.W.Frag) : Sp := spP K (fun ds => ∃ y d, ds = [.str y, d] ∧ TxK d) (two kd2)
theorem withinD_str {y : Str} {n : Int} {d : PyData} (h : withinD y n d = true) : ∃ z, d = .str z := by
  cases d with
  | str z => exact ⟨z, rfl⟩
  | _ => cases h
theorem c_is_kind (D : Df K mg "is_kind" sIsKind) (hb : Bl mg) (g3 : Gn mg "LONGEST_LEFT" 3) (g1 : Gn mg "LONGEST_RIGHT" 1) (C1 : Cl P w K mg base 2 "is_text_within" (spIsTextWithin K) []) : Cl P w K mg base 3 "is_kind" (spIsKind K) [] := by
  refine cl_of D sc_is_kind (len_sp fun ds ⟨y, d, h, _⟩ => by rw [h]; rfl) (fun _ _ _ _ _ _ us hl => match us, hl with | [_, _], _ => rfl) fun f cdv A outer s H vs Q E hr h => ?_
  obtain ⟨ds, hd, ⟨y, d, rfl, ht⟩, q⟩ := h
  obtain ⟨v, v2, rfl, h0, h1⟩ := dp2 hd
  refine ⟨_, pss_cons (ps_if (pw_or (pt_not (pt_val (pe_isi (x := "tuple") (T := "tuple") hb (pv 1)))) (pw_or1 (pt_cmpR op_ne (pe_lenQ hb (pv 1)) pe_int (nomark _)))).pt (pss_one (ps_ret pe_bl)) pss_nil)
    (pss_cons (ps_asg (pv 1) (pg_tup rfl (pgs_cons (pg_name (i := 2) sc_is_kind.nd rfl (.inl rfl)) (pgs_cons (pg_name (i := 3) sc_is_kind.nd rfl (.inl rfl)) pgs_nil))))
    (pss_cons (ps_if (pw_or (pt_not (pt_val (C8.pe_c C1 hr (by decide) (by rfl) (pa_cons (pv 0) (pa_cons (pv 2) (pa_cons (pe_gn g3) pa_nil)))))) (pw_or1 (pt_not (pt_val (C8.pe_c C1 hr (by decide) (by rfl) (pa_cons (pv 0) (pa_cons (pv 3) (pa_cons (pe_gn g1) pa_nil)))))))).pt (pss_one (ps_ret pe_bl)) pss_nil)
    (pss_one (ps_ret (pe_cmpR op_ne (pv 2) (pv 3) (nomark _)))))), ?_⟩
  have a0 : At K (start nIsKind [v, v2]) H 0 (.str y) := ⟨_, rfl, h0⟩
  have a1 : At K (start nIsKind [v, v2]) H 1 d := ⟨_, rfl, h1⟩
  by_cases hs : isD "tuple" d = true
  · obtain ⟨es, rfl⟩ := isD_tup hs
    refine Evl.q_when (b := !(isD "tuple" (.tuple es)) || !decide ((es.length : Int) = 2)) (Evl.et_or (Evl.et_not (t_ofB (d_isD (d_var a1)))) fun _ => t_ofD (d_neI (d_lenT (d_var a1)) d_int)) (fun hb1 H1 e1 => AsKit.s_ret (K := K) d_bl fun u H2 e2 hu => q u H2 (e1.trans e2) ?_) fun hb1 H1 e1 => ?_
    · rw [hs, Bool.not_true, Bool.false_or] at hb1
      have hl : es.length ≠ 2 := fun z => by rw [z] at hb1; cases hb1
      show Dp K H2 u (.bool (kindD y (.tuple es)))
      rw [kindD_len hl]
      exact hu
    · rw [hs, Bool.not_true, Bool.false_or] at hb1
      have hl : es.length = 2 := by
        have z := of_decide_eq_true (by simpa using hb1 : decide ((es.length : Int) = 2) = true)
        omega
      obtain ⟨a, b, rfl⟩ := two_of hl
      have ta : Tx a := ht _ rfl a (by simp)
      have tb : Tx b := ht _ rfl b (by simp)
      refine ⟨v2, rfl, g_two (dp_ex e1 h1) fun va vb ha hb2 => ?_⟩
      have c0 : At K (((start nIsKind [v, v2]).set 2 (some va)).set 3 (some vb)) H1 0 (.str y) := ⟨_, rfl, dp_ex e1 h0⟩
      have c2 : At K (((start nIsKind [v, v2]).set 2 (some va)).set 3 (some vb)) H1 2 a := ⟨_, rfl, ha⟩
      have c3 : At K (((start nIsKind [v, v2]).set 2 (some va)).set 3 (some vb)) H1 3 b := ⟨_, rfl, hb2⟩
      dsimp only
      refine Evl.q_when (b := !(withinD y 3 a) || !(withinD y 1 b)) (Evl.et_or (Evl.et_not (t_ofB (d_call (ds_cons (d_var c0) (ds_cons (d_var c2) (ds_cons d_int ds_nil))) ⟨y, a, 3, rfl, ta⟩))) fun _ => Evl.et_not (t_ofB (d_call (ds_cons (d_var c0) (ds_cons (d_var c3) (ds_cons d_int ds_nil))) ⟨y, b, 1, rfl, tb⟩)))
        (fun hb3 H2 e2 => AsKit.s_ret (K := K) d_bl fun u H3 e3 hu => q u H3 ((e1.trans e2).trans e3) ?_) fun hb3 H2 e2 => ?_
      · have z : (withinD y 3 a && withinD y 1 b) = false := by rw [← Bool.not_and] at hb3; exact (Bool.not_eq_true' _).mp hb3
        show Dp K H3 u (.bool ((withinD y 3 a && withinD y 1 b) && neS a b))
        rw [z, Bool.false_and]
        exact hu
      · have z : withinD y 3 a = true ∧ withinD y 1 b = true := by simpa using hb3
        obtain ⟨xa, rfl⟩ := withinD_str z.1
        obtain ⟨xb, rfl⟩ := withinD_str z.2
        refine AsKit.s_ret (K := K) (d_neS (d_var (c2.mono e2)) (d_var (c3.mono e2))) fun u H3 e3 hu => q u H3 ((e1.trans e2).trans e3) ?_
        show Dp K H3 u (.bool ((withinD y 3 (.str xa) && withinD y 1 (.str xb)) && !decide (xa = xb)))
        rw [z.1, z.2, Bool.true_and, Bool.true_and]
        exact hu
  · have hs : isD "tuple" d = false := by simpa using hs
    refine Evl.q_when (b := !(isD "tuple" d) || false) (Evl.et_or (Evl.et_not (t_ofB (d_isD (d_var a1)))) fun h => by rw [hs] at h; cases h) (fun hb1 H1 e1 => AsKit.s_ret (K := K) d_bl fun u H2 e2 hu => q u H2 (e1.trans e2) ?_) fun hb1 => by rw [hs] at hb1; cases hb1
    show Dp K H2 u (.bool (kindD y d))
    rw [kindD_no hs]
    exact hu
abbrev nIsLot : List Str := ["letters", "value", "kind"]
theorem sc_is_lot : FnScope nIsLot ["letters", "value"] (defScope sIsLot) := ⟨rfl, rfl, rfl, by decide +kernel, rfl, by decide +kernel, by decide +kernel⟩
def pairOf : PyData → Str × Str
  | .tuple [.str a, .str b] => (a, b)
  | _ => ("", "")
theorem kD_pair {y : Str} {d : PyData} (h : kindD y d = true) : d = kD (pairOf d) := by
  match d, h with
  | .tuple [a, b], h =>
    have h2 : ((withinD y 3 a && withinD y 1 b) && neS a b) = true := h
    simp only [Bool.and_eq_true] at h2
    obtain ⟨xa, rfl⟩ := withinD_str h2.1.1
    obtain ⟨xb, rfl⟩ := withinD_str h2.1.2
    rfl
def lotL (y : Str) (ds : List PyData) : Bool := decide (ds.length ≤ 12) && (ds.all (kindD y) && decide (ds.map pairOf).Nodup)
def lotD (y : Str) : PyData → Bool
  | .tuple ds => lotL y ds
  | _ => false
theorem lotD_no {y : Str} {d : PyData} (h : isD "tuple" d = false) : lotD y d = false := by
  cases d with
  | tuple z => rw [isD_tup1] at h; cases h
  | _ => rfl
def TxL (d : PyData) : Prop := ∀ ds, d = .tuple ds → ∀ e ∈ ds, TxK e
def lt2 : PyData → PyData → PyData
  | .str y, d => .bool (lotD y d)
  | _, _ => .none
abbrev spIsLot (K : PySem.W.Frag) : Sp := spP K (fun ds => ∃ y d, ds = [.str y, d] ∧ TxL d) (two lt2)
theorem c_is_lot (D : Df K mg "is_lot" sIsLot) (hb : Bl mg) (g12 : Gn mg "MOST_KINDS" 12) (C1 : Cl P w K mg base 3 "is_kind" (spIsKind K) []) : Cl P w K mg base 4 "is_lot" (spIsLot K) [] := by
  refine cl_of D sc_is_lot (len_sp fun ds ⟨y, d, h, _⟩ => by rw [h]; rfl) (fun _ _ _ _ _ _ us hl => match us, hl with | [_, _], _ => rfl) fun f cdv A outer s H vs Q E hr h => ?_
  obtain ⟨ds, hd, ⟨y, d, rfl, ht⟩, q⟩ := h
  obtain ⟨v, v2, rfl, h0, h1⟩ := dp2 hd
  refine ⟨_, pss_cons (ps_if (pw_or (pt_not (pt_val (pe_isi (x := "tuple") (T := "tuple") hb (pv 1)))) (pw_or1 (pt_cmpR op_gt (pe_lenQ hb (pv 1)) (pe_gn g12) (nomark _)))).pt (pss_one (ps_ret pe_bl)) pss_nil)
    (pss_one (ps_ret (pe_and (pe_allL rfl hb (pe_lcn 2 sc_is_lot.nd (pi_tup (pv 1)) (fun _ _ _ _ _ => pts_nil) (fun s2 H2 C cl fp => C8.pe_c C1 hr (by decide) (by rfl) (pa_cons (pv 0) (pa_cons (pv 2) pa_nil))) (fun _ _ _ _ _ => pg_name sc_is_lot.nd rfl (.inl rfl)) (blkOk_by (N := nIsLot) (sc := defScope sIsLot) (own := [("kind", 2)]) (by decide +kernel)) rfl))
      (pe_one (pe_cmpR op_eq (AsSet.pe_lenSet hr (by rfl) (hb _ (by decide +kernel)) (by rfl) (hb _ (by decide +kernel)) (pv 1)) (pe_lenQ hb (pv 1)) (nomark _)))))), ?_⟩
  have a0 : At K (start nIsLot [v, v2]) H 0 (.str y) := ⟨_, rfl, h0⟩
  have a1 : At K (start nIsLot [v, v2]) H 1 d := ⟨_, rfl, h1⟩
  by_cases hs : isD "tuple" d = true
  · obtain ⟨es, rfl⟩ := isD_tup hs
    refine Evl.q_when (b := !(isD "tuple" (.tuple es)) || decide ((12 : Int) < (es.length : Int))) (Evl.et_or (Evl.et_not (t_ofB (d_isD (d_var a1)))) fun _ => t_ofD (d_cmpI (g := fun i j => decide (j < i)) (d_lenT (d_var a1)) d_int)) (fun hb1 H1 e1 => AsKit.s_ret (K := K) d_bl fun u H2 e2 hu => q u H2 (e1.trans e2) ?_) fun hb1 H1 e1 => ?_
    · rw [hs, Bool.not_true, Bool.false_or] at hb1
      have hl : ¬ es.length ≤ 12 := fun z => by have := of_decide_eq_true hb1; omega
      show Dp K H2 u (.bool (lotL y es))
      unfold lotL
      rw [decide_eq_false hl, Bool.false_and]
      exact hu
    · rw [hs, Bool.not_true, Bool.false_or] at hb1
      have hl : es.length ≤ 12 := by have := of_decide_eq_false hb1; omega
      refine AsKit.s_ret (K := K) (d_and (a := es.all (kindD y)) (b := decide (es.map pairOf).Nodup) ?_ fun hk => ?_) fun u H2 e2 hu => q u H2 (e1.trans e2) ?_
      · have e : ((es.filter fun _ => true).map fun d => PyData.bool (kindD y d)) = (es.map (kindD y)).map PyData.bool := by
          rw [List.filter_eq_self.mpr fun _ _ => rfl, List.map_map]
          rfl
        refine d_eqTo (d_all (bs := es.map (kindD y)) (d_eqTo (d_lcT (fun _ => true) (fun d => PyData.bool (kindD y d)) (d_var (a1.mono e1)) (by omega) (fun _ _ _ => rfl) fun d hd x H2 e2 hx k hk => hk _ rfl (fun H3 e3 Q q => q H3 (Ex.refl H3)) fun _ => ?_) (congrArg PyData.list e))) ?_
        · exact d_call (ds_cons (d_var ⟨_, rfl, dp_ex (e1.trans e2) h0⟩) (ds_cons (d_var ⟨_, rfl, hx⟩) ds_nil)) ⟨y, d, rfl, ht _ rfl d hd⟩
        · rw [List.all_map]
          rfl
      · have e : es = (es.map pairOf).map kD := by
          rw [List.map_map]
          refine (List.map_id'' (fun _ => rfl) es).symm.trans (List.map_congr_left fun d hd => ?_)
          exact kD_pair (List.all_eq_true.mp hk d hd)
        refine d_lenSetEq (d_eqTo (d_var (a1.mono e1)) (congrArg PyData.tuple e)) (by rw [List.length_map]; omega)
      · show Dp K H2 u (.bool (lotL y es))
        unfold lotL
        rw [decide_eq_true hl, Bool.true_and]
        exact hu
  · have hs : isD "tuple" d = false := by simpa using hs
    refine Evl.q_when (b := !(isD "tuple" d) || false) (Evl.et_or (Evl.et_not (t_ofB (d_isD (d_var a1)))) fun h => by rw [hs] at h; cases h) (fun hb1 H1 e1 => AsKit.s_ret (K := K) d_bl fun u H2 e2 hu => q u H2 (e1.trans e2) ?_) fun hb1 => by rw [hs] at hb1; cases hb1
    show Dp K H2 u (.bool (lotD y d))
    rw [lotD_no hs]
    exact hu
end
end K26

set_option maxHeartbeats 4000000
set_option autoImplicit false
namespace K26
open PySem PySem.Spec PyProof.Rows L2 AsSort AsKit
open Evl (Ex Ev EvT EvA)
abbrev sTextOrder : Stmt := top 29
abbrev sKindOrder : Stmt := top 31
abbrev sDeedsOn : Stmt := top 32
abbrev sTextBehind : Stmt := top 33
section
variable {P : Program} {w : World} {K : PySem.W.Frag} {mg : Str → Option Value} {base : Heap}
theorem sc_check_letters : FnScope ["letters"] ["letters"] (defScope sCheckLetters) := ⟨rfl, rfl, rfl, by decide +kernel, rfl, by decide +kernel, by decide +kernel⟩
abbrev non1 : List PyData → PyData := fun _ => .none
abbrev spCheckLetters (K : PySem.W.Frag) : Sp := spP K (fun ds => ∃ d, ds = [d] ∧ Tx d ∧ isLettersD d = true) non1
theorem c_check_letters (D : Df K mg "check_letters" sCheckLetters) (C1 : Cl P w K mg base 1 "is_letters" (spIsLetters K) []) : Cl P w K mg base 2 "check_letters" (spCheckLetters K) [] := by
  refine cl_of D sc_check_letters (len_sp fun ds ⟨d, h, _⟩ => by rw [h]; rfl) (fun _ _ _ _ _ _ us hl => match us, hl with | [_], _ => rfl) fun f cdv A outer s H vs Q E hr h => ?_
  obtain ⟨ds, hd, ⟨d, rfl, ht, hk⟩, q⟩ := h
  obtain ⟨v, rfl, h0⟩ := dp1 hd
  refine ⟨_, pss_one (ps_if (pt_not (pt_val (C8.pe_c C1 hr (by decide) (by rfl) (pa_cons (pv 0) pa_nil)))) pss_never pss_nil), ?_⟩
  exact Evl.s_if (b := !(isLettersD d)) (Evl.et_not (t_ofB (d_call (ds_cons (d_var ⟨_, rfl, h0⟩) ds_nil) ⟨d, rfl, ht⟩))) (fun hb1 => by rw [hk] at hb1; cases hb1) fun _ H1 e1 => q .non H1 e1 .non
theorem sc_check_text : FnScope ["letters", "text"] ["letters", "text"] (defScope sCheckText) := ⟨rfl, rfl, rfl, by decide +kernel, rfl, by decide +kernel, by decide +kernel⟩
abbrev spCheckText (K : PySem.W.Frag) : Sp := spP K (fun ds => ∃ y d, ds = [.str y, d] ∧ Tx d ∧ withinD y 40 d = true) non1
theorem c_check_text (D : Df K mg "check_text" sCheckText) (g40 : Gn mg "LONGEST_TEXT" 40) (C1 : Cl P w K mg base 2 "is_text_within" (spIsTextWithin K) []) : Cl P w K mg base 3 "check_text" (spCheckText K) [] := by
  refine cl_of D sc_check_text (len_sp fun ds ⟨y, d, h, _⟩ => by rw [h]; rfl) (fun _ _ _ _ _ _ us hl => match us, hl with | [_, _], _ => rfl) fun f cdv A outer s H vs Q E hr h => ?_
  obtain ⟨ds, hd, ⟨y, d, rfl, ht, hk⟩, q⟩ := h
  obtain ⟨v, v2, rfl, h0, h1⟩ := dp2 hd
  refine ⟨_, pss_one (ps_if (pt_not (pt_val (C8.pe_c C1 hr (by decide) (by rfl) (pa_cons (pv 0) (pa_cons (pv 1) (pa_cons (pe_gn g40) pa_nil)))))) pss_never pss_nil), ?_⟩
  exact Evl.s_if (b := !(withinD y 40 d)) (Evl.et_not (t_ofB (d_call (ds_cons (d_var ⟨_, rfl, h0⟩) (ds_cons (d_var ⟨_, rfl, h1⟩) (ds_cons d_int ds_nil))) ⟨y, d, 40, rfl, ht⟩))) (fun hb1 => by rw [hk] at hb1; cases hb1) fun _ H1 e1 => q .non H1 e1 .non
theorem sc_check_kinds : FnScope ["letters", "kinds"] ["letters", "kinds"] (defScope sCheckKinds) := ⟨rfl, rfl, rfl, by decide +kernel, rfl, by decide +kernel, by decide +kernel⟩
abbrev spCheckKinds (K : PySem.W.Frag) : Sp := spP K (fun ds => ∃ y d, ds = [.str y, d] ∧ TxL d ∧ lotD y d = true) non1
theorem c_check_kinds (D : Df K mg "check_kinds" sCheckKinds) (C1 : Cl P w K mg base 4 "is_lot" (spIsLot K) []) : Cl P w K mg base 5 "check_kinds" (spCheckKinds K) [] := by
  refine cl_of D sc_check_kinds (len_sp fun ds ⟨y, d, h, _⟩ => by rw [h]; rfl) (fun _ _ _ _ _ _ us hl => match us, hl with | [_, _], _ => rfl) fun f cdv A outer s H vs Q E hr h => ?_
  obtain ⟨ds, hd, ⟨y, d, rfl, ht, hk⟩, q⟩ := h
  obtain ⟨v, v2, rfl, h0, h1⟩ := dp2 hd
  refine ⟨_, pss_one (ps_if (pt_not (pt_val (C8.pe_c C1 hr (by decide) (by rfl) (pa_cons (pv 0) (pa_cons (pv 1) pa_nil))))) pss_never pss_nil), ?_⟩
  exact Evl.s_if (b := !(lotD y d)) (Evl.et_not (t_ofB (d_call (ds_cons (d_var ⟨_, rfl, h0⟩) (ds_cons (d_var ⟨_, rfl, h1⟩) ds_nil)) ⟨y, d, rfl, ht⟩))) (fun hb1 => by rw [hk] at hb1; cases hb1) fun _ H1 e1 => q .non H1 e1 .non
/-- letters, kinds, a text, as they should be -/
def Okay (l k t : PyData) : Prop := ∃ (y z : Str) (ps : List (Str × Str)), l = .str y ∧ k = .tuple (ps.map kD) ∧ t = .str z ∧ PyData.strOk y = true ∧ y.length ≤ 40000 ∧ isLetS y = true ∧ z.length ≤ 40 ∧ allIn y z = true ∧ ps.length ≤ 12 ∧ ps.Nodup ∧
  ∀ p ∈ ps, p.1.length ≤ 3 ∧ p.2.length ≤ 1 ∧ allIn y p.1 = true ∧ allIn y p.2 = true ∧ p.1 ≠ p.2
theorem pair_kD (p : Str × Str) : pairOf (kD p) = p := rfl
theorem lot_ok {y : Str} {ps : List (Str × Str)} (h1 : ps.length ≤ 12) (h2 : ps.Nodup) (h3 : ∀ p ∈ ps, p.1.length ≤ 3 ∧ p.2.length ≤ 1 ∧ allIn y p.1 = true ∧ allIn y p.2 = true ∧ p.1 ≠ p.2) : lotD y (.tuple (ps.map kD)) = true := by
  show lotL y (ps.map kD) = true
  unfold lotL
  rw [List.length_map, decide_eq_true h1, Bool.true_and, List.map_map]
  have e : ps.map (pairOf ∘ kD) = ps := (List.map_congr_left fun p _ => pair_kD p).trans (List.map_id' ps)
  rw [e, decide_eq_true h2, Bool.and_true, List.all_map]
  refine List.all_eq_true.mpr fun p hp => ?_
  obtain ⟨a, b, c, d, n⟩ := h3 p hp
  show ((withinS y p.1 3 && withinS y p.2 1) && !decide (p.1 = p.2)) = true
  unfold withinS
  rw [c, d, decide_eq_false n, decide_eq_true (by omega : (p.1.length : Int) ≤ 3), decide_eq_true (by omega : (p.2.length : Int) ≤ 1)]
  rfl
theorem tx_kinds {ps : List (Str × Str)} (h3 : ∀ p ∈ ps, p.1.length ≤ 3 ∧ p.2.length ≤ 1) : TxL (.tuple (ps.map kD)) := fun ds e d hd es e2 u hu => by
  cases e
  obtain ⟨p, hp, rfl⟩ := List.mem_map.mp hd
  have z := h3 p hp
  cases e2
  intro x hx
  rcases List.mem_cons.mp hu with rfl | hu
  · cases hx
    omega
  · rcases List.mem_cons.mp hu with rfl | hu
    · cases hx
      omega
    · cases hu
abbrev spCheckDeedsOf (K : PySem.W.Frag) : Sp := spP K (fun ds => ∃ l k t, ds = [l, k, t] ∧ Okay l k t) non1
theorem sc_text_order : FnScope ["text"] ["text"] (defScope sTextOrder) := ⟨rfl, rfl, rfl, by decide +kernel, rfl, by decide +kernel, by decide +kernel⟩
def oT (z : Str) : PyData := .tuple [.int (z.length : Int), .str z]
def ordT : PyData → PyData
  | .str z => oT z
  | _ => .none
abbrev spTextOrder (K : PySem.W.Frag) : Sp := spP K (fun ds => ∃ z, ds = [.str z] ∧ z.length ≤ 40000) (one ordT)
theorem c_text_order (D : Df K mg "text_order" sTextOrder) (hb : Bl mg) : Kl P w K mg base 1 "text_order" ["text"] (spTextOrder K) := by
  refine kl_of D sc_text_order (len_sp fun ds ⟨z, h, _⟩ => by rw [h]; rfl) (fun _ _ _ _ _ _ us hl => match us, hl with | [_], _ => rfl) fun f cdv A outer s H vs Q E hr h => ?_
  obtain ⟨ds, hd, ⟨z, rfl, hz⟩, q⟩ := h
  obtain ⟨v, rfl, h0⟩ := dp1 hd
  have a0 : At K (start ["text"] [v]) H 0 (.str z) := ⟨_, rfl, h0⟩
  exact ⟨_, pss_one (ps_ret (pe_tup (pa_cons (pe_lenS hb (pv 0)) (pa_cons (pv 0) pa_nil)))), AsKit.s_ret (K := K) (d_tup (ds_cons (d_lenS (d_var a0) (by omega)) (ds_cons (d_var a0) ds_nil)) (by show 2 ≤ 100000; decide)) q⟩
abbrev nKindOrder : List Str := ["kind", "left", "right"]
theorem sc_kind_order : FnScope nKindOrder ["kind"] (defScope sKindOrder) := ⟨rfl, rfl, rfl, by decide +kernel, rfl, by decide +kernel, by decide +kernel⟩
def oK (p : Str × Str) : PyData := .tuple [oT p.1, oT p.2]
def ordK (d : PyData) : PyData := oK (pairOf d)
abbrev spKindOrder (K : PySem.W.Frag) : Sp := spP K (fun ds => ∃ p : Str × Str, ds = [kD p] ∧ p.1.length ≤ 40000 ∧ p.2.length ≤ 40000) (one ordK)
theorem c_kind_order (D : Df K mg "kind_order" sKindOrder) (C1 : Kl P w K mg base 1 "text_order" ["text"] (spTextOrder K)) : Kl P w K mg base 2 "kind_order" ["kind"] (spKindOrder K) := by
  refine kl_of D sc_kind_order (len_sp fun ds ⟨z, h, _⟩ => by rw [h]; rfl) (fun _ _ _ _ _ _ us hl => match us, hl with | [_], _ => rfl) fun f cdv A outer s H vs Q E hr h => ?_
  obtain ⟨ds, hd, ⟨p, rfl, hz1, hz2⟩, q⟩ := h
  obtain ⟨v, rfl, h0⟩ := dp1 hd
  refine ⟨_, pss_cons (ps_asg (pv 0) (pg_tup rfl (pgs_cons (pg_name (i := 1) sc_kind_order.nd rfl (.inl rfl)) (pgs_cons (pg_name (i := 2) sc_kind_order.nd rfl (.inl rfl)) pgs_nil))))
    (pss_one (ps_ret (pe_tup (pa_cons (C8.pe_c C1.cl hr (by decide) (by rfl) (pa_cons (pv 1) pa_nil)) (pa_cons (C8.pe_c C1.cl hr (by decide) (by rfl) (pa_cons (pv 2) pa_nil)) pa_nil))))), ?_⟩
  refine ⟨v, rfl, g_two h0 fun va vb ha hb2 => ?_⟩
  have c1 : At K (((start nKindOrder [v]).set 1 (some va)).set 2 (some vb)) H 1 (.str p.1) := ⟨_, rfl, ha⟩
  have c2 : At K (((start nKindOrder [v]).set 1 (some va)).set 2 (some vb)) H 2 (.str p.2) := ⟨_, rfl, hb2⟩
  exact AsKit.s_ret (K := K) (d_tup (ds_cons (d_call (ds_cons (d_var c1) ds_nil) ⟨p.1, rfl, hz1⟩) (ds_cons (d_call (ds_cons (d_var c2) ds_nil) ⟨p.2, rfl, hz2⟩) ds_nil)) (by show 2 ≤ 100000; decide)) q
end
end K26

set_option maxHeartbeats 4000000
set_option autoImplicit false
/-! the order of kinds, sorted and chosen from. -/
namespace K26
open PySem PySem.Spec PyProof.Rows L2 AsSort AsKit PySem.W
theorem len_eqS {a b : Str} (h : a.cps.toList = b.cps.toList) : a = b := PySem.W.str_of_cps h
/-- the flat key of the law's lambda -/
def fK (p : Str × Str) : PyData := .tuple [.int (p.1.length : Int), .str p.1, .int (p.2.length : Int), .str p.2]
theorem toks_oK (p : Str × Str) : keyToks (oK p) = [.inl 1, .inl 1, .inl (p.1.length : Int), .inl 1, .inr p.1.cps.toList, .inl 0, .inl 1, .inl 1, .inl (p.2.length : Int), .inl 1, .inr p.2.cps.toList, .inl 0, .inl 0] := by
  simp [oK, oT, keyToks, keyToksAll]
theorem toks_fK (p : Str × Str) : keyToks (fK p) = [.inl 1, .inl (p.1.length : Int), .inl 1, .inr p.1.cps.toList, .inl 1, .inl (p.2.length : Int), .inl 1, .inr p.2.cps.toList, .inl 0] := by
  simp [fK, keyToks, keyToksAll]
theorem lex_cong {x y : Int ⊕ List Nat} {l m l' m' : List (Int ⊕ List Nat)} (h : lexLt itemOrd l m = lexLt itemOrd l' m') : lexLt itemOrd (x :: l) (y :: m) = lexLt itemOrd (x :: l') (y :: m') := by
  by_cases e : x = y
  · subst e
    exact (lex_self (O := itemOrd) x l m).trans (h.trans (lex_self (O := itemOrd) x l' m').symm)
  · exact (lex_diff (O := itemOrd) e).trans (lex_diff (O := itemOrd) e).symm
theorem lexL {x : Int ⊕ List Nat} {l m l' m' : List (Int ⊕ List Nat)} (h : lexLt itemOrd l m = lexLt itemOrd l' m') : lexLt itemOrd (x :: l) (x :: m) = lexLt itemOrd l' m' := (lex_self (O := itemOrd) x l m).trans h
theorem lexR {x : Int ⊕ List Nat} {l m l' m' : List (Int ⊕ List Nat)} (h : lexLt itemOrd l m = lexLt itemOrd l' m') : lexLt itemOrd l m = lexLt itemOrd (x :: l') (x :: m') := h.trans (lex_self (O := itemOrd) x l' m').symm
theorem lt_same (p q : Str × Str) : dataLt (oK p) (oK q) = dataLt (fK p) (fK q) := by
  unfold dataLt
  rw [toks_oK, toks_oK, toks_fK, toks_fK]
  refine lexL (lex_cong (lex_cong (lex_cong (lex_cong (lexL (lexL ?_))))))
  exact lex_cong (lex_cong (lex_cong (lex_cong (lexL rfl))))
/-- the order of kinds -/
def leO (p q : Str × Str) : Bool := !dataLt (oK q) (oK p)
theorem toks_inj {p q : Str × Str} (h : keyToks (oK p) = keyToks (oK q)) : p = q := by
  rw [toks_oK, toks_oK] at h
  simp only [List.cons.injEq, Sum.inl.injEq, Sum.inr.injEq, true_and, and_true] at h
  exact Prod.ext (len_eqS h.2.1) (len_eqS h.2.2.2)
theorem leO_total (p q : Str × Str) : (leO p q || leO q p) = true := by
  unfold leO
  cases h1 : dataLt (oK q) (oK p) with
  | false => rfl
  | true =>
    cases h2 : dataLt (oK p) (oK q) with
    | false => rfl
    | true =>
      have z : lexLt itemOrd (keyToks (oK p)) (keyToks (oK p)) = true := lex_trans (O := itemOrd) _ _ _ h2 h1
      rw [lex_irrefl (O := itemOrd)] at z
      cases z
theorem leO_anti {p q : Str × Str} (h1 : leO p q = true) (h2 : leO q p = true) : p = q := by
  unfold leO at h1 h2
  exact toks_inj (lex_total (O := itemOrd) _ _ ((Bool.not_eq_true' _).mp h2) ((Bool.not_eq_true' _).mp h1))
theorem leO_trans (p q r : Str × Str) (h1 : leO p q = true) (h2 : leO q r = true) : leO p r = true := by
  unfold leO at h1 h2 ⊢
  rw [Bool.not_eq_true'] at h1 h2 ⊢
  cases h : dataLt (oK r) (oK p) with
  | false => rfl
  | true =>
    cases h3 : dataLt (oK p) (oK q) with
    | true =>
      have z : dataLt (oK r) (oK q) = true := lex_trans (O := itemOrd) _ _ _ h h3
      rw [h2] at z
      cases z
    | false =>
      have e := toks_inj (lex_total (O := itemOrd) _ _ h1 h3)
      rw [e] at h2
      rw [h] at h2
      cases h2
def sortO (ps : List (Str × Str)) : List (Str × Str) := ps.mergeSort leO
theorem sortO_filter (f : Str × Str → Bool) (ps : List (Str × Str)) : (sortO ps).filter f = sortO (ps.filter f) := by
  unfold sortO
  refine List.Perm.eq_of_pairwise (le := fun a b => leO a b = true) (fun a b _ _ h1 h2 => leO_anti h1 h2) ?_ ?_ ?_
  · exact (List.pairwise_mergeSort (le := leO) leO_trans leO_total ps).filter f
  · exact List.pairwise_mergeSort (le := leO) leO_trans leO_total _
  · exact ((List.mergeSort_perm ps leO).filter f).trans (List.mergeSort_perm (ps.filter f) leO).symm
theorem sortD_kinds (ps : List (Str × Str)) : sortD (fun d => one ordK [d]) (ps.map kD) = (sortO ps).map kD := by
  unfold sortD sortO
  refine (List.map_mergeSort fun a _ b _ => ?_).symm
  rw [dataLe_eq]
  rfl
/-- the flat key, by the pair's data -/
def flatK (d : PyData) : PyData := fK (pairOf d)
theorem sortD_flat (ps : List (Str × Str)) : sortD (fun d => one flatK [d]) (ps.map kD) = (sortO ps).map kD := by
  unfold sortD sortO
  refine (List.map_mergeSort fun a _ b _ => ?_).symm
  rw [dataLe_eq]
  show leO a b = !dataLt (fK b) (fK a)
  unfold leO
  rw [lt_same]
/-- does the kind fit the text at p -/
def hitB (t : Str) (p : Nat) (k : Str × Str) : Bool := decide ((t.cps.toList.drop p).take k.1.length = k.1.cps.toList)
theorem hit_cut (t : Str) (p : Nat) (k : Str × Str) : decide (cutS t (some (p : Int)) (some ((p + k.1.length : Nat) : Int)) = k.1) = hitB t p k := by
  unfold hitB
  rw [← cut_mid]
  by_cases h : cutS t (some (p : Int)) (some ((p + k.1.length : Nat) : Int)) = k.1
  · rw [decide_eq_true h, decide_eq_true (by rw [h])]
  · rw [decide_eq_false h, decide_eq_false fun z => h (len_eqS z)]
theorem hit_starts (t : Str) (p : Nat) (k : Str × Str) : Txt.startswith (cutS t (some (p : Int)) none) k.1 = hitB t p k := by
  have e : (cutS t (some (p : Int)) none).cps.toList.length = (cutS t (some (p : Int)) none).length := Array.length_toList
  have e2 : k.1.cps.toList.length = k.1.length := Array.length_toList
  unfold Txt.startswith hitB
  rw [StrLaws.subAt_eq, cut_from, List.drop_zero]
  rw [cut_from] at e
  by_cases h : (t.cps.toList.drop p).take k.1.length = k.1.cps.toList
  · have hl := congrArg List.length h
    rw [List.length_take] at hl
    rw [decide_eq_true h, h]
    have : decide (0 + k.1.length ≤ (cutS t (some (p : Int)) none).length) = true := decide_eq_true (by omega)
    rw [this]
    simp
  · rw [decide_eq_false h]
    have : ((t.cps.toList.drop p).take k.1.length == k.1.cps.toList) = false := by simpa using h
    rw [this, Bool.and_false]
/-- a deed -/
def dD (p : Nat) (k : Str × Str) : PyData := .tuple [.int (p : Int), .str k.1, .str k.2]
def hits (os : List (Str × Str)) (t : Str) (p : Nat) : List PyData := (os.filter (hitB t p)).map (dD p)
def hitsTo (os : List (Str × Str)) (t : Str) (n : Nat) : List PyData := (List.range n).flatMap (hits os t)
theorem hitsTo_succ (os : List (Str × Str)) (t : Str) (n : Nat) : hitsTo os t (n + 1) = hitsTo os t n ++ hits os t n := by
  unfold hitsTo
  rw [List.range_succ, List.flatMap_append]
  simp
/-- all deeds on a text, by the kinds -/
def deedsL (ps : List (Str × Str)) (t : Str) : List PyData := hitsTo (sortO ps) t (t.length + 1)
theorem hits_len (os : List (Str × Str)) (t : Str) (p : Nat) : (hits os t p).length ≤ os.length := by
  unfold hits
  rw [List.length_map]
  exact List.length_filter_le _ _
theorem hitsTo_len (os : List (Str × Str)) (t : Str) : ∀ n, (hitsTo os t n).length ≤ n * os.length
  | 0 => Nat.zero_le _
  | n + 1 => by
    rw [hitsTo_succ, List.length_append]
    have h1 := hitsTo_len os t n
    have h2 := hits_len os t n
    have h3 : (n + 1) * os.length = n * os.length + os.length := Nat.succ_mul _ _
    omega
theorem sortO_len (ps : List (Str × Str)) : (sortO ps).length = ps.length := List.length_mergeSort ..
theorem sortO_mem {ps : List (Str × Str)} {p : Str × Str} : p ∈ sortO ps ↔ p ∈ ps := (List.mergeSort_perm ps leO).mem_iff
theorem imm_dD (p : Nat) (k : Str × Str) : imm (dD p k) = true := rfl
theorem imm_hits (os : List (Str × Str)) (t : Str) (p : Nat) : immAll (hits os t p) = true := immAll_of fun d h => by
  obtain ⟨k, _, rfl⟩ := List.mem_map.mp h
  rfl
theorem imm_hitsTo (os : List (Str × Str)) (t : Str) (n : Nat) : immAll (hitsTo os t n) = true := immAll_of fun d h => by
  obtain ⟨p, _, h2⟩ := List.mem_flatMap.mp h
  exact imm_all (imm_hits os t p) d h2
/-- what sorted asks of the keys -/
theorem oK_alike (p q : Str × Str) : alike (oK p) (oK q) = true := by simp [oK, oT, alike, alikeAll]
theorem fK_alike (p q : Str × Str) : alike (fK p) (fK q) = true := by simp [fK, alike, alikeAll]
theorem oT_alike (p q : Str) : alike (oT p) (oT q) = true := by simp [oT, alike, alikeAll]
end K26

set_option maxHeartbeats 4000000
set_option autoImplicit false
namespace K26
open PySem PySem.Spec PyProof.Rows L2 AsSort AsKit
open Evl (Ex Ev EvT EvA)
section
variable {P : Program} {w : World} {K : PySem.W.Frag} {mg : Str → Option Value} {base : Heap}
abbrev nDeedsOn : List Str := ["kinds", "text", "ordered", "found", "place", "left", "right"]
theorem sc_deeds_on : FnScope nDeedsOn ["kinds", "text"] (defScope sDeedsOn) := ⟨rfl, rfl, rfl, by decide +kernel, rfl, by decide +kernel, by decide +kernel⟩
def pairsOf : PyData → List (Str × Str)
  | .tuple ds => ds.map pairOf
  | _ => []
def dn2 : PyData → PyData → PyData
  | k, .str t => .tuple (deedsL (pairsOf k) t)
  | _, _ => .none
theorem pairs_map (ps : List (Str × Str)) : pairsOf (.tuple (ps.map kD)) = ps := by
  show (ps.map kD).map pairOf = ps
  rw [List.map_map]
  exact (List.map_congr_left fun p _ => pair_kD p).trans (List.map_id' ps)
/-- kinds and a text that deeds_on takes -/
def Kt (k t : PyData) : Prop := ∃ (ps : List (Str × Str)) (z : Str), k = .tuple (ps.map kD) ∧ t = .str z ∧ z.length ≤ 400 ∧ ps.length ≤ 60 ∧ ∀ p ∈ ps, p.1.length ≤ 40 ∧ p.2.length ≤ 40 ∧ PyData.strOk p.1 = true ∧ PyData.strOk p.2 = true
abbrev spDeedsOn (K : PySem.W.Frag) : Sp := spP K (fun ds => ∃ k t, ds = [k, t] ∧ Kt k t) (two dn2)
theorem c_deeds_on (D : Df K mg "deeds_on" sDeedsOn) (hb : Bl mg) (C1 : Kl P w K mg base 2 "kind_order" ["kind"] (spKindOrder K)) : Cl P w K mg base 5 "deeds_on" (spDeedsOn K) [] := by
  refine cl_of D sc_deeds_on (len_sp fun ds ⟨k, t, h, _⟩ => by rw [h]; rfl) (fun _ _ _ _ _ _ us hl => match us, hl with | [_, _], _ => rfl) fun f cdv A outer s H vs Q E hr h => ?_
  obtain ⟨ds, hd, ⟨k, t, rfl, ps, z, rfl, rfl, hz, hp, hps⟩, q⟩ := h
  obtain ⟨v, v2, rfl, h0, h1⟩ := dp2 hd
  obtain ⟨f1, fd1, F1, hm1, kp1, b1⟩ := C1
  refine ⟨_, pss_cons (ps_set (i := 2) sc_deeds_on.nd rfl (.inl rfl) (pe_callBK (AsSort.cr_sortKey F1 hr b1) (by rfl) (hb _ (by decide +kernel)) (by decide +kernel) (pa_cons (pv 0) pa_nil) (pk_cons (pe_glob (v := .ref f1) (by rfl) hm1 rfl) pk_nil)))
    (pss_cons (ps_set (i := 3) sc_deeds_on.nd rfl (.inl rfl) (pe_lst pa_nil))
    (pss_cons (ps_for PassesOwn.never rfl (pi_range1 (by rfl) (hb _ (by decide +kernel)) (pa_cons (pe_op op_add (pe_lenS hb (pv 1)) pe_int) pa_nil)) (pg_name (i := 4) sc_deeds_on.nd rfl (.inl rfl))
      (pss_one (ps_for PassesOwn.never rfl (pi_list (pv 2)) (pg_tup rfl (pgs_cons (pg_name (i := 5) sc_deeds_on.nd rfl (.inl rfl)) (pgs_cons (pg_name (i := 6) sc_deeds_on.nd rfl (.inl rfl)) pgs_nil)))
        (pss_one (ps_if (pt_cmpR op_eq (pe_slice sl_str (pv 1) (po_some (pv 4)) (po_some (pe_op op_add (pv 4) (pe_lenS hb (pv 5))))) (pv 5) (nomark _))
          (pss_one (ps_expr (pe_bm PySem.F.plainAttrs_list PySem.F.slot_list_append PySem.F.type_list_append mt_append (pv 3) (pa_cons (pe_tup (pa_cons (pv 4) (pa_cons (pv 5) (pa_cons (pv 6) pa_nil)))) pa_nil)))) pss_nil)))))
    (pss_one (ps_ret (pe_tupQ hb (pv 3)))))), ?_⟩
  cases h0 with
  | tup hq hl =>
    rename_i a xs
    refine ⟨.ref a, rfl, ?_⟩
    refine ⟨a, xs, ps.map kD, rfl, rfl, .inr hq, hl, fun d hd => ?_, fun d hd d' hd' => ?_, .inl fun d hd => ?_, ?_, fun d hd => ?_, fun o ys G no eG hG hys => ?_⟩
    · obtain ⟨p, hp1, rfl⟩ := List.mem_map.mp hd
      exact ⟨p, rfl, by have := (hps p hp1).1; omega, by have := (hps p hp1).2.1; omega⟩
    · obtain ⟨x, hx, rfl⟩ := List.mem_map.mp hd
      obtain ⟨y, hy, rfl⟩ := List.mem_map.mp hd'
      exact oK_alike _ _
    · obtain ⟨x, hx, rfl⟩ := List.mem_map.mp hd
      exact ⟨_, _, rfl⟩
    · refine immAll_of fun d hd => ?_
      obtain ⟨x, hx, rfl⟩ := List.mem_map.mp hd
      rfl
    · obtain ⟨x, hx, rfl⟩ := List.mem_map.mp hd
      show (oK (pairOf (kD x))).depth ≤ 50
      simp [oK, oT, PyData.depth, PyData.depthAll]
    rw [sortD_kinds] at hys
    have hO : Dp K G (.ref o) (.list ((sortO ps).map kD)) := .lst (Evl.sq_of hG) hys
    have hz2 : z.cps.toList.length = z.length := Array.length_toList
    -- found = []
    refine ⟨Evl.sz_of (Nat.zero_le _), fun l nl => ?_⟩
    have v2z : v2 = .str z := by cases h1; rfl
    subst v2z
    have a1 : ∀ (x2 x3 x4 x5 x6 : Option V) (H' : Hp), At K [some (.ref a), some (.str z), x2, x3, x4, x5, x6] H' 1 (.str z) := fun _ _ _ _ _ _ => ⟨_, rfl, .str z⟩
    have A0 : Ac K G l [] (upd G l (.lst [])) := ac_new nl (Ex.new nl) upd_same
    have hos := sortO_len ps
    refine Evl.q_forR1 (n := (z.length : Int) + 1) (ds_ev (K := K) (ds_cons (d_arI (g := fun i j => i + j) (d_lenS (d_var (a1 _ _ _ _ _ _)) (by omega)) d_int) ds_nil)) (by omega)
      (fun i σ' H' => ∃ x4 x5 x6, σ' = [some (.ref a), some (.str z), some (.ref o), some (.ref l), x4, x5, x6] ∧ Ac K G l (hitsTo (sortO ps) z i) H') (fun H1 e1 => ⟨_, _, _, rfl, A0.mono e1⟩) (fun i σ' H' hi hW => ?_) fun σ' H' hW => ?_
    · obtain ⟨x4, x5, x6, rfl, hA⟩ := hW
      have hi2 : i ≤ z.length := by omega
      refine s_forLD (K := K) (i := 2) (H0 := G) rfl hO hA.2.1 (fun j σ' H' => ∃ x5 x6, σ' = [some (.ref a), some (.str z), some (.ref o), some (.ref l), some (.int (i : Int)), x5, x6] ∧ Ac K G l (hitsTo (sortO ps) z i ++ (((sortO ps).take j).filter (hitB z i)).map (dD i)) H') ⟨_, _, rfl, by rw [List.take_zero]; show Ac K G l (_ ++ []) _; rw [List.append_nil]; exact hA⟩ (fun j σ' H' ⟨_, _, _, p⟩ => p.2.1) (fun j d x σ' H' hj hx hW => ?_) fun σ' H' hW => ?_
      · obtain ⟨y5, y6, rfl, hB⟩ := hW
        rw [List.getElem?_map] at hj
        cases hk : (sortO ps)[j]? with
        | none => rw [hk] at hj; cases hj
        | some kk =>
          rw [hk] at hj
          cases hj
          have hmem : kk ∈ ps := sortO_mem.mp (List.mem_of_getElem? hk)
          have hkl0 := hps kk hmem
          have hkl : kk.1.length ≤ 40 ∧ kk.2.length ≤ 40 := ⟨hkl0.1, hkl0.2.1⟩
          have ek : (sortO ps).take (j + 1) = (sortO ps).take j ++ [kk] := by rw [List.take_add_one, hk]; simp
          refine g_two hx fun va vb ha hb2 => ?_
          have c1 : At K [some (.ref a), some (.str z), some (.ref o), some (.ref l), some (.int (i : Int)), some va, some vb] H' 1 (.str z) := ⟨_, rfl, .str z⟩
          have c4 : At K [some (.ref a), some (.str z), some (.ref o), some (.ref l), some (.int (i : Int)), some va, some vb] H' 4 (.int (i : Int)) := ⟨_, rfl, .int _⟩
          have c5 : At K [some (.ref a), some (.str z), some (.ref o), some (.ref l), some (.int (i : Int)), some va, some vb] H' 5 (.str kk.1) := ⟨_, rfl, ha⟩
          have c6 : At K [some (.ref a), some (.str z), some (.ref o), some (.ref l), some (.int (i : Int)), some va, some vb] H' 6 (.str kk.2) := ⟨_, rfl, hb2⟩
          refine Evl.s_if (b := hitB z i kk) (Evl.et_is (t_ofD (K := K) (d_eqS (d_slS (lo := some (i : Int)) (hi := some (((i + kk.1.length : Nat) : Int))) (d_var c1) (p_some (d_var c4)) (p_some (d_eqTo (d_arI (g := fun i j => i + j) (d_var c4) (d_lenS (d_var c5) (by omega))) (by rw [Int.natCast_add]))) (by omega)) (d_var c5))) (hit_cut z i kk)) (fun hh H1 e1 => ?_) fun hh H1 e1 => ?_
          · refine s_appD (K := K) (i := 3) (H0 := G) rfl (hB.mono e1) (d := dD i kk) (d_tup (ds_cons (d_var (c4.mono e1)) (ds_cons (d_var (c5.mono e1)) (ds_cons (d_var (c6.mono e1)) ds_nil))) (by show 3 ≤ 100000; decide)) ?_ rfl ?_ fun H2 hC => ⟨_, _, rfl, ?_⟩
            · refine immAll_of fun d hd => ?_
              rcases List.mem_append.mp hd with hd | hd
              · exact imm_all (imm_hitsTo _ _ _) d hd
              · obtain ⟨x, _, rfl⟩ := List.mem_map.mp hd
                rfl
            · rw [List.length_append, List.length_map]
              have l1 := hitsTo_len (sortO ps) z i
              have l2 := List.length_filter_le (hitB z i) ((sortO ps).take j)
              have l3 := List.length_take_le' j (sortO ps)
              have l4 : i * (sortO ps).length ≤ 400 * 60 := Nat.mul_le_mul (by omega) (by omega)
              omega
            · rw [ek, List.filter_append, List.filter_cons, if_pos hh, List.map_append, ← List.append_assoc]
              exact hC
          · refine ⟨_, _, rfl, ?_⟩
            rw [ek, List.filter_append, List.filter_cons, if_neg (by rw [hh]; decide), List.map_append]
            show Ac K G l (_ ++ (_ ++ [])) H1
            rw [List.append_nil]
            exact hB.mono e1
      · obtain ⟨y5, y6, rfl, hB⟩ := hW
        rw [List.length_map, List.take_length] at hB
        refine ⟨_, _, _, rfl, ?_⟩
        rw [hitsTo_succ]
        exact hB
    · obtain ⟨x4, x5, x6, rfl, hA⟩ := hW
      have en : ((z.length : Int) + 1).toNat = z.length + 1 := by omega
      rw [en] at hA
      refine AsKit.s_ret (K := K) (d_tupOf (d_var ⟨_, rfl, ac_dp hA⟩)) fun u H2 e2 hu => q u H2 (eG.trans (hA.2.1.trans e2)) ?_
      show Dp K H2 u (.tuple (deedsL (pairsOf (.tuple (ps.map kD))) z))
      rw [pairs_map]
      exact hu
end
end K26

set_option maxHeartbeats 4000000
set_option autoImplicit false
namespace AsKit
open PySem PySem.Spec PyProof.Rows L2 AsSort
open Evl (Ex Ev EvT EvA)
section
variable {X : Cx}
/-- x in a tuple of data -/
def rInT (K : PySem.W.Frag) : R2 := fun x y H Q => ∃ d ds, Dp K H x d ∧ Dp K H y (.tuple ds) ∧ SeqAt.shaped d = true ∧ PyData.canLayAll0 ds = true ∧ Q (.bl (ds.any fun z => PyData.eqv z d)) H
theorem op_inT (hu : X.A.units + 65 < cLine) : OpR X (compareOp .In) (rInT X.K) := by
  intro pins s σ H x y v u Q I rx ry h
  obtain ⟨d, ds, hd, he, sd, se, q⟩ := h
  obtain ⟨as, r1⟩ := Dp.reads I d x v hd rx
  obtain ⟨bs, r2⟩ := Dp.reads I (.tuple ds) y u he ry
  exact SeqAt.in_tuple_reads r2 r1 se (SeqAt.canLay_of_shaped sd) (room_in_shaped sd hu) ⟨.bl _, H, I, rfl, q⟩
/-- x not in a tuple of data -/
def rNotInT (K : PySem.W.Frag) : R2 := fun x y H Q => ∃ d ds, Dp K H x d ∧ Dp K H y (.tuple ds) ∧ SeqAt.shaped d = true ∧ PyData.canLayAll0 ds = true ∧ Q (.bl (!(ds.any fun z => PyData.eqv z d))) H
theorem op_notInT (hu : X.A.units + 65 < cLine) : OpR X (compareOp .NotIn) (rNotInT X.K) := by
  intro pins s σ H x y v u Q I rx ry h
  obtain ⟨d, ds, hd, he, sd, se, q⟩ := h
  obtain ⟨as, r1⟩ := Dp.reads I d x v hd rx
  obtain ⟨bs, r2⟩ := Dp.reads I (.tuple ds) y u he ry
  exact SeqAt.notIn_tuple_reads r2 r1 se (SeqAt.canLay_of_shaped sd) (room_in_shaped sd hu) ⟨.bl _, H, I, rfl, q⟩
end
section
variable {K : PySem.W.Frag} {σ : L2.St} {H : Hp} {ta tb : TE} {d : PyData} {ds : List PyData}
theorem d_notInT (h : EvD K ta σ H d) (h2 : EvD K tb σ H (.tuple ds)) (sd : SeqAt.shaped d = true) (se : PyData.canLayAll0 ds = true) : EvD K (tOp (rNotInT K) ta tb) σ H (.bool (!(ds.any fun z => PyData.eqv z d))) := fun H1 a Q q =>
  h H1 a _ fun v H2 u hd => h2 H2 (a.trans u) _ fun w H3 y he => ⟨d, ds, dp_ex y hd, he, sd, se, q _ H3 (u.trans y) (.bl _)⟩
theorem d_inT (h : EvD K ta σ H d) (h2 : EvD K tb σ H (.tuple ds)) (sd : SeqAt.shaped d = true) (se : PyData.canLayAll0 ds = true) : EvD K (tOp (rInT K) ta tb) σ H (.bool (ds.any fun z => PyData.eqv z d)) := fun H1 a Q q =>
  h H1 a _ fun v H2 u hd => h2 H2 (a.trans u) _ fun w H3 y he => ⟨d, ds, dp_ex y hd, he, sd, se, q _ H3 (u.trans y) (.bl _)⟩
end
end AsKit
namespace K26
open PySem PySem.Spec PyProof.Rows L2 AsSort AsKit
open Evl (Ex Ev EvT EvA)
section
variable {P : Program} {w : World} {K : PySem.W.Frag} {mg : Str → Option Value} {base : Heap}
abbrev nTextBehind : List Str := ["text", "deed", "place", "left", "right"]
theorem sc_text_behind : FnScope nTextBehind ["text", "deed"] (defScope sTextBehind) := ⟨rfl, rfl, rfl, by decide +kernel, rfl, by decide +kernel, by decide +kernel⟩
def bhS (z : Str) (p : Nat) (k : Str × Str) : Str := (cutS z none (some (p : Int)) ++ k.2) ++ cutS z (some ((p + k.1.length : Nat) : Int)) none
def dOf : PyData → Nat × (Str × Str)
  | .tuple [.int p, .str l, .str r] => (p.toNat, (l, r))
  | _ => (0, ("", ""))
theorem dOf_dD (p : Nat) (k : Str × Str) : dOf (dD p k) = (p, k) := rfl
def bh2 : PyData → PyData → PyData
  | .str z, d => .str (bhS z (dOf d).1 (dOf d).2)
  | _, _ => .none
abbrev spTextBehind (K : PySem.W.Frag) : Sp := spP K (fun ds => ∃ z p k, ds = [.str z, dD p k] ∧ z.length ≤ 40000 ∧ k.1.length ≤ 40 ∧ k.2.length ≤ 40) (two bh2)
theorem c_text_behind (D : Df K mg "text_behind" sTextBehind) (hb : Bl mg) : Cl P w K mg base 1 "text_behind" (spTextBehind K) [] := by
  refine cl_of D sc_text_behind (len_sp fun ds ⟨z, p, k, h, _⟩ => by rw [h]; rfl) (fun _ _ _ _ _ _ us hl => match us, hl with | [_, _], _ => rfl) fun f cdv A outer s H vs Q E hr h => ?_
  obtain ⟨ds, hd, ⟨z, p, k, rfl, hz, hk1, hk2⟩, q⟩ := h
  obtain ⟨v, v2, rfl, h0, h1⟩ := dp2 hd
  refine ⟨_, pss_cons (ps_asg (pv 1) (pg_tup rfl (pgs_cons (pg_name (i := 2) sc_text_behind.nd rfl (.inl rfl)) (pgs_cons (pg_name (i := 3) sc_text_behind.nd rfl (.inl rfl)) (pgs_cons (pg_name (i := 4) sc_text_behind.nd rfl (.inl rfl)) pgs_nil)))))
    (pss_one (ps_ret (pe_op op_add_str (pe_op op_add_str (pe_slice sl_str (pv 0) po_none (po_some (pv 2))) (pv 4)) (pe_slice sl_str (pv 0) (po_some (pe_op op_add (pv 2) (pe_lenS hb (pv 3)))) po_none)))), ?_⟩
  refine ⟨v2, rfl, g_three h1 fun va vb vc ha hb2 hc => ?_⟩
  have c0 : At K ((((start nTextBehind [v, v2]).set 2 (some va)).set 3 (some vb)).set 4 (some vc)) H 0 (.str z) := ⟨_, rfl, h0⟩
  have c2 : At K ((((start nTextBehind [v, v2]).set 2 (some va)).set 3 (some vb)).set 4 (some vc)) H 2 (.int (p : Int)) := ⟨_, rfl, ha⟩
  have c3 : At K ((((start nTextBehind [v, v2]).set 2 (some va)).set 3 (some vb)).set 4 (some vc)) H 3 (.str k.1) := ⟨_, rfl, hb2⟩
  have c4 : At K ((((start nTextBehind [v, v2]).set 2 (some va)).set 3 (some vb)).set 4 (some vc)) H 4 (.str k.2) := ⟨_, rfl, hc⟩
  have l1 := cut_len z none (some (p : Int))
  have l2 := cut_len z (some ((p + k.1.length : Nat) : Int)) none
  refine AsKit.s_ret (K := K) (d_addS (x := cutS z none (some (p : Int)) ++ k.2) (y := cutS z (some ((p + k.1.length : Nat) : Int)) none) (d_addS (d_slS (d_var c0) p_none (p_some (d_var c2)) (by omega)) (d_var c4) (by omega))
    (d_slS (d_var c0) (p_some (d_eqTo (d_arI (g := fun i j => i + j) (d_var c2) (d_lenS (d_var c3) (by omega))) (by rw [Int.natCast_add]))) p_none (by omega)) (by rw [add_len]; omega)) q
abbrev nIsDeed : List Str := ["kinds", "text", "value", "place", "left", "right"]
def dinD (k : PyData) (t : Str) (d : PyData) : Bool := (deedsL (pairsOf k) t).any fun e => PyData.eqv e d
def deedD (k : PyData) (t : Str) : PyData → Bool
  | .tuple [a, b, c] => isIntD a && dinD k t (.tuple [a, b, c])
  | _ => false
theorem deedD_no {k : PyData} {t : Str} {d : PyData} (h : isD "tuple" d = false) : deedD k t d = false := by
  cases d with
  | tuple z => rw [isD_tup1] at h; cases h
  | _ => rfl
theorem deedD_len {k : PyData} {t : Str} {ds : List PyData} (h : ds.length ≠ 3) : deedD k t (.tuple ds) = false := by
  match ds, h with
  | [], _ => rfl
  | [_], _ => rfl
  | [_, _], _ => rfl
  | [_, _, _], h => exact (h rfl).elim
  | _ :: _ :: _ :: _ :: _, _ => rfl
theorem three_of : ∀ {es : List PyData}, es.length = 3 → ∃ a b c, es = [a, b, c]
  | [a, b, c], _ => ⟨a, b, c, rfl⟩
def ido3 : PyData → PyData → PyData → PyData
  | k, .str t, d => .bool (deedD k t d)
  | _, _, _ => .none
theorem lay_deeds (ps : List (Str × Str)) (t : Str) (hps : ∀ p ∈ ps, PyData.strOk p.1 = true ∧ PyData.strOk p.2 = true) : PyData.canLayAll0 (deedsL ps t) = true := by
  have h : ∀ ds : List PyData, (∀ d ∈ ds, d.canLay0 = true) → PyData.canLayAll0 ds = true := by
    intro ds
    induction ds with
    | nil => intro _; simp [PyData.canLayAll0]
    | cons d ds ih =>
      intro h
      simp [PyData.canLayAll0, h d (List.mem_cons_self ..), ih fun z hz => h z (List.mem_cons_of_mem _ hz)]
  refine h _ fun d hd => ?_
  obtain ⟨p, _, h2⟩ := List.mem_flatMap.mp hd
  obtain ⟨k, hk, rfl⟩ := List.mem_map.mp h2
  have z := hps k (sortO_mem.mp ((List.mem_filter.mp hk).1))
  simp [dD, PyData.canLay0, PyData.canLayAll0, z.1, z.2]
abbrev spIsDeedOn (K : PySem.W.Frag) : Sp := spP K (fun ds => ∃ k t d, ds = [k, t, d] ∧ Kt k t ∧ SeqAt.shaped d = true) (three ido3)
theorem lay_kindsD (ps : List (Str × Str)) (hps : ∀ p ∈ ps, PyData.strOk p.1 = true ∧ PyData.strOk p.2 = true) : PyData.canLayAll0 (ps.map kD) = true := by
  induction ps with
  | nil => simp [PyData.canLayAll0]
  | cons p ps ih =>
    have z := hps p (List.mem_cons_self ..)
    rw [List.map_cons]
    simp [PyData.canLayAll0, ih fun q hq => hps q (List.mem_cons_of_mem _ hq), kD, PyData.canLay0, z.1, z.2]
theorem shaped_tail {a b c : PyData} (h : SeqAt.shaped (.tuple [a, b, c]) = true) : SeqAt.shaped (.tuple [b, c]) = true := by
  have h1 := SeqAt.canLay_of_shaped h
  have h2 := SeqAt.depth_of_shaped h
  unfold SeqAt.shaped
  have e1 : PyData.canLay0 (.tuple [a, b, c]) = (a.canLay0 && PyData.canLay0 (.tuple [b, c])) := by simp [PyData.canLay0, PyData.canLayAll0]
  have e2 : PyData.depth (.tuple [b, c]) ≤ PyData.depth (.tuple [a, b, c]) := by
    simp only [PyData.depth, PyData.depthAll]
    omega
  rw [e1] at h1
  rw [(Bool.and_eq_true_iff.mp h1).2, decide_eq_true (by omega)]
  rfl
theorem eqv_tup (xs ys : List PyData) : PyData.eqv (.tuple xs) (.tuple ys) = PyData.eqvAll xs ys := by rw [PyData.eqv]
theorem eqv_cons (x y : PyData) (xs ys : List PyData) : PyData.eqvAll (x :: xs) (y :: ys) = (PyData.eqv x y && PyData.eqvAll xs ys) := by rw [PyData.eqvAll]
theorem eqv_nil : PyData.eqvAll [] [] = true := by rw [PyData.eqvAll]
theorem eqv_strL {x : Str} {d : PyData} (h : PyData.eqv (.str x) d = true) : d = .str x := by
  cases d with
  | str y =>
    have e : PyData.eqv (.str x) (.str y) = (x == y) := by rw [PyData.eqv]
    rw [e] at h
    rw [eq_of_beq h]
  | _ => rw [PyData.eqv] at h; cases h
theorem eqv_strs (x : Str) : PyData.eqv (.str x) (.str x) = true := by
  have e : PyData.eqv (.str x) (.str x) = (x == x) := by rw [PyData.eqv]
  rw [e]
  exact beq_self_eq_true x
theorem eqv_ints (i j : Int) : PyData.eqv (.int i) (.int j) = (i == j) := by rw [PyData.eqv]
/-- the pair is one of the kinds -/
def memD (ps : List (Str × Str)) (b c : PyData) : Bool := (ps.map kD).any fun z => PyData.eqv z (.tuple [b, c])
theorem memD_pair {ps : List (Str × Str)} {b c : PyData} (h : memD ps b c = true) : ∃ p ∈ ps, b = .str p.1 ∧ c = .str p.2 := by
  obtain ⟨z, hz, e⟩ := List.any_eq_true.mp h
  obtain ⟨p, hp, rfl⟩ := List.mem_map.mp hz
  unfold kD at e
  rw [eqv_tup, eqv_cons, eqv_cons, eqv_nil, Bool.and_true, Bool.and_eq_true] at e
  exact ⟨p, hp, eqv_strL e.1, eqv_strL e.2⟩
theorem memD_iff {ps : List (Str × Str)} {p : Str × Str} : memD ps (.str p.1) (.str p.2) = true ↔ p ∈ ps := by
  constructor
  · intro h
    obtain ⟨q, hq, e1, e2⟩ := memD_pair h
    injection e1 with e1
    injection e2 with e2
    have : q = p := Prod.ext e1.symm e2.symm
    exact this ▸ hq
  · intro h
    refine List.any_eq_true.mpr ⟨kD p, List.mem_map.mpr ⟨p, h, rfl⟩, ?_⟩
    unfold kD
    rw [eqv_tup, eqv_cons, eqv_cons, eqv_nil, eqv_strs, eqv_strs]
    rfl
/-- what the program asks of a triple -/
def tripD (ps : List (Str × Str)) (t : Str) (a b c : PyData) : Bool := match a, b, c with
  | .int p, .str l, .str r => (decide (0 ≤ p) && decide (p ≤ (t.length : Int))) && (memD ps (.str l) (.str r) && hitB t p.toNat (l, r))
  | _, _, _ => false
theorem dinD_trip {ps : List (Str × Str)} {t : Str} {a b c : PyData} : (isIntD a && dinD (.tuple (ps.map kD)) t (.tuple [a, b, c])) = (isIntD a && tripD ps t a b c) := by
  by_cases ha : isIntD a = true
  · obtain ⟨p, rfl⟩ : ∃ p, a = .int p := by
      unfold isIntD at ha
      rw [Bool.and_eq_true] at ha
      have hn : ∀ y ∈ names7, y ≠ "int" → y ≠ "bool" → kitB y "int" = some false := by decide +kernel
      have hbb : isD "bool" (.bool true) = true := by decide +kernel
      cases a with
      | int p => exact ⟨p, rfl⟩
      | bool b => have := ha.2; simp only [isD, tyName] at this hbb; rw [hbb] at this; cases this
      | _ => exact absurd ha.1 (by unfold isD; rw [hn _ (ty7 _) (by show _ ≠ _; simp only [tyName]; decide) (by show _ ≠ _; simp only [tyName]; decide)]; decide)
    rw [ha, Bool.true_and, Bool.true_and]
    unfold dinD
    rw [pairs_map]
    rw [Bool.eq_iff_iff]
    constructor
    · intro h
      obtain ⟨e, he, q⟩ := List.any_eq_true.mp h
      obtain ⟨n, hn, h2⟩ := List.mem_flatMap.mp he
      obtain ⟨k, hk, rfl⟩ := List.mem_map.mp h2
      obtain ⟨k1, k2⟩ := List.mem_filter.mp hk
      have k3 := sortO_mem.mp k1
      have k4 := List.mem_range.mp hn
      unfold dD at q
      rw [eqv_tup, eqv_cons, eqv_cons, eqv_cons, eqv_nil, Bool.and_true, Bool.and_eq_true, Bool.and_eq_true, eqv_ints] at q
      obtain ⟨q1, q2, q3⟩ := q
      have q1 : (n : Int) = p := by simpa using q1
      subst q1
      rw [eqv_strL q2, eqv_strL q3]
      unfold tripD
      simp only [Bool.and_eq_true, decide_eq_true_eq]
      refine ⟨⟨by omega, by omega⟩, memD_iff.mpr k3, ?_⟩
      rw [Int.toNat_natCast]
      exact k2
    · intro h
      unfold tripD at h
      split at h
      · rename_i l r e0
        simp only [Bool.and_eq_true, decide_eq_true_eq] at h
        obtain ⟨⟨h1, h2⟩, h3, h4⟩ := h
        have e0' := e0
        cases e0'
        obtain ⟨n, rfl⟩ := Int.eq_ofNat_of_zero_le h1
        refine List.any_eq_true.mpr ⟨dD n (l, r), List.mem_flatMap.mpr ⟨n, List.mem_range.mpr (by omega), List.mem_map.mpr ⟨(l, r), List.mem_filter.mpr ⟨sortO_mem.mpr (memD_iff (p := (l, r)) |>.mp h3), ?_⟩, rfl⟩⟩, ?_⟩
        · simpa using h4
        · unfold dD
          rw [eqv_tup, eqv_cons, eqv_cons, eqv_cons, eqv_nil, eqv_ints, eqv_strs, eqv_strs]
          simp
      · cases h
  · rw [Bool.not_eq_true] at ha
    rw [ha]
    rfl
theorem isIntD_int {a : PyData} (ha : isIntD a = true) : ∃ p, a = .int p := by
  unfold isIntD at ha
  rw [Bool.and_eq_true] at ha
  have hn : ∀ y ∈ names7, y ≠ "int" → y ≠ "bool" → kitB y "int" = some false := by decide +kernel
  have hbb : isD "bool" (.bool true) = true := by decide +kernel
  cases a with
  | int p => exact ⟨p, rfl⟩
  | bool b => have := ha.2; simp only [isD, tyName] at this hbb; rw [hbb] at this; cases this
  | _ => exact absurd ha.1 (by unfold isD; rw [hn _ (ty7 _) (by show _ ≠ _; simp only [tyName]; decide) (by show _ ≠ _; simp only [tyName]; decide)]; decide)
theorem strOk_in {y z : Str} (h : PyData.strOk y = true) (h2 : allIn y z = true) : PyData.strOk z = true := by
  unfold PyData.strOk at h ⊢
  unfold allIn at h2
  rw [← Array.all_toList] at h ⊢
  refine List.all_eq_true.mpr fun c hc => ?_
  have hm : c ∈ y.cps.toList := of_decide_eq_true (List.all_eq_true.mp h2 c hc)
  exact List.all_eq_true.mp h c hm
theorem okay_kt {l k t : PyData} (h : Okay l k t) : Kt k t := by
  obtain ⟨y, z, ps, rfl, rfl, rfl, o0, o1, o2, o3, o4, o5, o6, o7⟩ := h
  refine ⟨ps, z, rfl, rfl, by omega, by omega, fun p hp => ?_⟩
  obtain ⟨a, b, c, d, e⟩ := o7 p hp
  exact ⟨by omega, by omega, strOk_in o0 c, strOk_in o0 d⟩
def ds3 : PyData → PyData → PyData → PyData
  | _, k, t => dn2 k t
abbrev spDeeds (K : PySem.W.Frag) : Sp := spP K (fun ds => ∃ l k t, ds = [l, k, t] ∧ Okay l k t) (three ds3)
abbrev nDone : List Str := ["letters", "kinds", "text", "deed", "behind"]
def do4 : PyData → PyData → PyData → PyData → PyData
  | _, _, t, d => bh2 t d
/-- a deed that can be done -/
def Deed (k t d : PyData) : Prop := ∃ (ps : List (Str × Str)) (z : Str) (p : Nat) (kk : Str × Str), k = .tuple (ps.map kD) ∧ t = .str z ∧ d = dD p kk ∧ dD p kk ∈ deedsL ps z ∧ kk ∈ ps ∧ (bhS z p kk).length ≤ 40
abbrev spDone (K : PySem.W.Frag) : Sp := spP K (fun ds => ∃ l k t d, ds = [l, k, t, d] ∧ Okay l k t ∧ Deed k t d) (four do4)
end
end K26

set_option maxHeartbeats 4000000
set_option autoImplicit false
/-! dicts whose values are all True: made by a comprehension or key by key; their keys as data. -/
namespace AsKit
open PySem PySem.Spec PyProof.Rows L2 AsSort
open Evl (Ex Ev EvT EvA)
section
variable {X : Cx}
theorem sw_dict {kx vx : Expr} {gs : List Comprehension} {scope : Scope} {pos py : Pos} {y : Str} {l : Nat} {env : Env} (hk : env.scope.kind = .function) (hy : env.scope.names.lookup y = some .local) (hl : (py.line == pos.line) = true)
    (ha : (scope.names.any fun (n, k) => n == y && (k == .local || k == .cell)) = false) : swapsWith (.DictComp kx vx gs scope pos) (some (.Name y py)) l env = pure true := by
  have k1 : env.kindOf y = some .local := hy
  have k2 : env.blockKind = .function := by simp only [Env.blockKind, hk]; rfl
  simp only [swapsWith, k2, k1, ha, Expr.pos, hl]; rfl
theorem ps_setDc {i : Nat} {y : Str} {py : Pos} {kx vx tg iter : Expr} {ifs : List Expr} {scope : Scope} {own : List (Str × Nat)} {pos spos : Pos} {wi : TI} {g : TG} {tt : TT} {tk tv : TE} (hc : X.calm = true) (hN : X.N.Nodup) (hy : X.N[i]? = some y) (hyl : X.env.scope.names.lookup y = some .local)
    (hsw : swapsWith (.DictComp kx vx [⟨tg, iter, ifs, 0⟩] scope pos) (some (.Name y py)) spos.line X.env = pure true) (hi : PI X tg iter wi) (ok : BlkOk X.N X.env.scope scope own)
    (hg : ∀ (s : Shared) (H : Hp) (C : Addr) (cl : List (Str × Addr)) (fp : List Addr), PG (X.blk s H scope (compEnvC scope cl C X.env) fp) tg g) (ht : ∀ (s : Shared) (H : Hp) (C : Addr) (cl : List (Str × Addr)) (fp : List Addr), PTs (X.blk s H scope (compEnvC scope cl C X.env) fp) ifs tt)
    (hk : ∀ (s : Shared) (H : Hp) (C : Addr) (cl : List (Str × Addr)) (fp : List Addr), PE (X.blk s H scope (compEnvC scope cl C X.env) fp) kx tk)
    (he : ∀ (s : Shared) (H : Hp) (C : Addr) (cl : List (Str × Addr)) (fp : List Addr), PE (X.blk s H scope (compEnvC scope cl C X.env) fp) vx tv) (hs : ∀ x, foldedSetIterable iter X.env x = pure x := by intro _; rfl) :
    PS X (.Assign [.Name y py] (.DictComp kx vx [⟨tg, iter, ifs, 0⟩] scope pos) spos) (tAsg (tDc wi g tt tk tv (own.map (·.2))) (gName i)) := by
  refine ⟨fun pins s σ H D I hw => ?_⟩
  rw [exec_Assign_Name_used _ _ _ _ hsw]
  apply wpAny_bind; apply wpAny_standAt; apply wpAny_bind
  show wpAny _ X.A (do let _ ← comprehension (.DictComp kx vx [⟨tg, iter, ifs, 0⟩] scope pos) scope X.env (firstIterPos [⟨tg, iter, ifs, 0⟩] pos) newDict false (eval iter X.env) (some (assign (.Name y py) X.env))) _ _ s
  have hw : tDc wi g tt tk tv (own.map (·.2)) σ H (fun x H1 => gName i x σ H1 D.nx) := hw
  refine wpAny_bind (thn (dc_core (Qf := fun _ s' => SP X pins D .next s') hc hN I hi ok hg ht hk he hs hw fun L C s' m H' J q hn f => ?_) fun _ s' hq => wpAny_pure (wpAny_pure hq))
  show wpAny _ _ (assign (.Name y py) X.env (.ref L)) _ _ _
  refine wpAny_assign_Name (store_ok2 (v := V.ref L) J hN hy (.inl hyl) rfl (fun s2 J2 ⟨a, sb, ha⟩ => ?_) (.inr hyl))
  obtain ⟨f0, f1, f2, f3, f4, f5⟩ := f
  have ne : C ≠ a := ha.elim (fun z => by rw [z]; exact f1) fun z e => f4 y a z e.symm
  exact ⟨m, hn.sameBut sb ne, fun h3 sb3 => ⟨_, H', J2.turned (t' := s2.toks) (fun b o hb e => (sb3.2 b hb).trans e) f0 f1 f3 f4 f5, q⟩⟩
end
abbrev Kvs := List (Key × V)
def putT (kvs : Kvs) (s : Str) : Kvs := putK kvs (.inr s) (.bl true)
def putsT (ss : List Str) : Kvs := ss.foldl putT []
theorem putsT_snoc (ss : List Str) (s : Str) : putsT (ss ++ [s]) = putT (putsT ss) s := by
  unfold putsT
  rw [List.foldl_append]
  rfl
theorem putT_len (kvs : Kvs) (s : Str) : (putT kvs s).length ≤ kvs.length + 1 := length_putK kvs _ _
theorem putT_mem {kvs : Kvs} {s : Str} {kv : Key × V} (h : kv ∈ putT kvs s) : kv.1 = .inr s ∨ ∃ kw ∈ kvs, kw.1 = kv.1 := by
  unfold putT putK at h
  split at h
  · obtain ⟨kw, h1, h2⟩ := List.mem_map.mp h
    split at h2
    · rw [← h2]
      exact .inr ⟨kw, h1, rfl⟩
    · rw [← h2]
      exact .inr ⟨kw, h1, rfl⟩
  · rcases List.mem_append.mp h with h | h
    · exact .inr ⟨kv, h, rfl⟩
    · rw [List.mem_singleton.mp h]
      exact .inl rfl
/-- all keys are texts of ss -/
def KeysIn (ss : List Str) (kvs : Kvs) : Prop := ∀ kv ∈ kvs, ∃ s ∈ ss, kv.1 = .inr s
theorem fold_in (ss : List Str) : ∀ (ts : List Str) (kvs : Kvs), (∀ t ∈ ts, t ∈ ss) → KeysIn ss kvs → KeysIn ss (ts.foldl putT kvs)
  | [], _, _, h => h
  | t :: ts, kvs, ht, h => fold_in ss ts (putT kvs t) (fun u hu => ht u (List.mem_cons_of_mem _ hu)) fun kv hkv => by
    rcases putT_mem hkv with e | ⟨kw, h1, h2⟩
    · exact ⟨t, ht t (List.mem_cons_self ..), e⟩
    · obtain ⟨s, hs, e⟩ := h kw h1
      exact ⟨s, hs, h2 ▸ e⟩
theorem putsT_in (ss : List Str) : KeysIn ss (putsT ss) := fold_in ss ss [] (fun _ h => h) fun _ h => nomatch h
theorem fold_len : ∀ (ts : List Str) (kvs : Kvs), (ts.foldl putT kvs).length ≤ kvs.length + ts.length
  | [], _ => Nat.le_refl _
  | t :: ts, kvs => by
    have h1 := fold_len ts (putT kvs t)
    have h2 := putT_len kvs t
    show (ts.foldl putT (putT kvs t)).length ≤ kvs.length + (ts.length + 1)
    omega
theorem putsT_len (ss : List Str) : (putsT ss).length ≤ ss.length := by
  exact Nat.le_trans (fold_len ss []) (Nat.le_of_eq (Nat.zero_add _))
def keyS : Key → Str
  | .inr s => s
  | .inl _ => ""
def strsOf (kvs : Kvs) : List Str := kvs.map fun kv => keyS kv.1
theorem keyS_of {ss : List Str} {kvs : Kvs} (h : KeysIn ss kvs) {kv : Key × V} (hkv : kv ∈ kvs) : kV kv.1 = .str (keyS kv.1) ∧ keyS kv.1 ∈ ss := by
  obtain ⟨s, hs, e⟩ := h kv hkv
  rw [e]
  exact ⟨rfl, hs⟩
theorem strs_in {ss : List Str} {kvs : Kvs} (h : KeysIn ss kvs) : ∀ s ∈ strsOf kvs, s ∈ ss := fun s hs => by
  obtain ⟨kv, h1, rfl⟩ := List.mem_map.mp hs
  exact (keyS_of h h1).2
theorem keysV {ss : List Str} {kvs : Kvs} (h : KeysIn ss kvs) : (kvs.map fun kv => kV kv.1) = (strsOf kvs).map V.str := by
  unfold strsOf
  rw [List.map_map]
  exact List.map_congr_left fun kv hkv => (keyS_of h hkv).1
theorem dp_strs {K : PySem.W.Frag} {H : Hp} : ∀ ss : List Str, DpAll K H (ss.map V.str) (ss.map PyData.str)
  | [] => .nil
  | s :: ss => .cons (.str s) (dp_strs ss)
theorem lc_keys {d : Addr} {o : Obj} {kvs : Kvs} {g : TG} {tt : TT} {te : TE} {vs : List Nat} {σ : L2.St} {H1 : Hp} {D : Addr} {Qd : Hp → Prop} (Pv : Nat → Hp → Prop) (h0 : Pv 0 (upd H1 D (.lst []))) (hl : ∀ i H, Pv i H → H d = some (.frz o (.dK kvs)))
    (hs : ∀ i k v H, kvs[i]? = some (k, v) → Pv i H → g (kV k) (wipe σ vs) H fun σ2 H2 => wipe σ2 vs = wipe σ vs ∧ tt σ2 H2 fun b H3 =>
      if b = true then te σ2 H3 fun y H4 => ∃ acc, H4 D = some (.lst acc) ∧ acc.length < sizeLine ∧ Pv (i + 1) (upd H4 D (.lst (acc ++ [y]))) else Pv (i + 1) H3) (hd : ∀ H, Pv kvs.length H → Qd H) :
    ∃ W : Nat → Nat → Hp → Prop, (∃ m, W 0 m (upd H1 D (.lst []))) ∧ ∀ i m H, W i m H →
      ((Itk d o kvs).stop i H ∧ Qd H) ∨ ((Itk d o kvs).go i H ∧ ∃ Nx : Hp → Prop, (∀ H', Nx H' → ∃ m', m' < m ∧ W (i + 1) m' H') ∧ ∀ x H', (Itk d o kvs).yld i H x H' → g x (wipe σ vs) H' fun σ2 H2 => wipe σ2 vs = wipe σ vs ∧ tt σ2 H2 fun b H3 =>
        if b = true then te σ2 H3 fun y H4 => ∃ acc, H4 D = some (.lst acc) ∧ acc.length < sizeLine ∧ Nx (upd H4 D (.lst (acc ++ [y]))) else Nx H3) := by
  refine ⟨fun i m H => m = kvs.length - i ∧ i ≤ kvs.length ∧ Pv i H, ⟨kvs.length, by simp, Nat.zero_le _, h0⟩, ?_⟩
  rintro i m H ⟨rfl, hi, p⟩
  have q := hl i H p
  by_cases hlt : i < kvs.length
  · refine .inr ⟨⟨q, hlt⟩, Pv (i + 1), fun H' p' => ⟨kvs.length - (i + 1), by omega, rfl, hlt, p'⟩, fun x H' z => ?_⟩
    obtain ⟨e, k, v, hc, rfl⟩ := z
    subst e
    exact hs i k v _ hc p
  · have e : i = kvs.length := by omega
    subst e
    exact .inl ⟨⟨q, Nat.le_refl _⟩, hd H p⟩
section
variable {K : PySem.W.Frag} {σ : L2.St} {H : Hp} {te tl tk : TE}
/-- [e for x in d], d a dict of texts -/
theorem d_lcK {i j : Nat} {d : Addr} {kvs : Kvs} {ss : List Str} (g : Str → PyData) (hσ : σ[i]? = some (some (.ref d))) (hd : H d = some (.dK kvs)) (hk : KeysIn ss kvs) (hz : kvs.length ≤ 50000) (hw : ∀ x, wipe ((wipe σ [j]).set j (some x)) [j] = wipe σ [j]) (him : ∀ s ∈ ss, imm (g s) = true)
    (ht : ∀ s ∈ ss, ∀ H1, EvD K te ((wipe σ [j]).set j (some (.str s))) H1 (g s)) : EvD K (tLockE (tLc (iKeys (tVar i)) (gName j) tYes te [j])) σ H (.list ((strsOf kvs).map g)) := fun H1 a Q q => by
  have hd1 : H1 d = some (.dK kvs) := a _ _ hd
  refine ⟨d, .dK kvs, hd1, True.intro, fun od => ?_⟩
  obtain ⟨G, eG⟩ : ∃ G, G = upd H1 d (.frz od (.dK kvs)) := ⟨_, rfl⟩
  have gd : G d = some (.frz od (.dK kvs)) := by rw [eG, upd_same]
  rw [← eG]
  refine ⟨_, hσ, d, od, rfl, .inl ⟨kvs, gd, fun D hD => ?_⟩⟩
  have hDd : D ≠ d := fun e => by rw [e, gd] at hD; cases hD
  let ds : List PyData := (strsOf kvs).map PyData.str
  let g' : PyData → PyData := fun x => match x with | .str s => g s | _ => .none
  have hl : ds.length = kvs.length := by show ((strsOf kvs).map PyData.str).length = _; unfold strsOf; rw [List.length_map, List.length_map]
  have him' : ∀ x ∈ ds, (fun _ => true) x = true → imm (g' x) = true := fun x hx _ => by
    obtain ⟨s, hs, rfl⟩ := List.mem_map.mp hx
    exact him s (strs_in hk s hs)
  refine lc_keys (Cd K G ds (fun _ => true) g' D) (cd_start hD) (fun i H' p => p.2.1 _ _ gd) (fun i k v H' hi p => ?_) fun H' p => ?_
  · have hm : (k, v) ∈ kvs := List.mem_of_getElem? hi
    have hks := keyS_of hk hm
    have hks1 : kV k = .str (keyS k) := hks.1
    have hds : ds[i]? = some (.str (keyS k)) := by show ((strsOf kvs).map PyData.str)[i]? = _; unfold strsOf; rw [List.getElem?_map, List.getElem?_map, hi]; rfl
    rw [hks1]
    exact ⟨hw _, cd_turn him' p hds (by omega) (fun H3 _ Q q => q H3 (Ex.refl H3)) fun _ => ht _ hks.2 _⟩
  · have z := cd_end2 hl p
    obtain ⟨z1, z2⟩ := z
    have e : (ds.filter fun _ => true).map g' = (strsOf kvs).map g := by
      rw [List.filter_eq_self.mpr fun _ _ => rfl]
      show ((strsOf kvs).map PyData.str).map g' = _
      rw [List.map_map]
      rfl
    rw [e] at z2
    obtain ⟨p1, p2, acc, p3, p4⟩ := p
    have p5 : DpAll K H' acc ((strsOf kvs).map g) := by
      rw [← e]
      rw [List.take_of_length_le (by omega)] at p4
      exact p4
    refine ⟨z1 _ _ gd, q _ _ (fun b o hb => ?_) (.lst (Evl.sq_of ((upd_ne hDd).trans p3)) (dpAll_tu (tu_rd fun b xs h => ?_) (immAll_of fun x hx => ?_) p5))⟩
    · by_cases hbd : b = d
      · rw [hbd, upd_same]
        rw [hbd, hd1] at hb
        exact hb
      · rw [upd_ne hbd]
        exact z1 b o (by rw [eG, upd_ne hbd]; exact hb)
    · have hbd : b ≠ d := fun w => by
        rw [w] at h
        have y := z1 _ _ gd
        rcases h with h | ⟨o, h⟩
        · rw [y] at h; cases h
        · rw [y] at h; cases h
      rcases h with h | ⟨o, h⟩
      · exact .inl ((upd_ne hbd).trans h)
      · exact .inr ⟨o, (upd_ne hbd).trans h⟩
    · obtain ⟨s, hs, rfl⟩ := List.mem_map.mp hx
      exact him s (strs_in hk s hs)
/-- list(d) -/
theorem d_listD {d : Addr} {kvs : Kvs} {ss : List Str} {i : Nat} (hσ : σ[i]? = some (some (.ref d))) (hd : H d = some (.dK kvs)) (hk : KeysIn ss kvs) : EvD K (tCB rListD (tCons (tVar i) tNil)) σ H (.list ((strsOf kvs).map PyData.str)) := fun H1 a Q q =>
  ⟨_, hσ, d, kvs, rfl, a _ _ hd, fun p hp => q _ _ (Ex.new hp) (.lst (Evl.sq_of upd_same) (by rw [keysV hk]; exact dp_strs _))⟩
/-- {e: True for x in t} -/
theorem e_dcT {j : Nat} {ds : List PyData} (g : PyData → Str) (h : EvD K tl σ H (.tuple ds)) (hz : ds.length ≤ 50000) (hw : ∀ x, wipe ((wipe σ [j]).set j (some x)) [j] = wipe σ [j])
    (ht : ∀ d ∈ ds, ∀ x H1, Ex H H1 → Dp K H1 x d → EvD K tk ((wipe σ [j]).set j (some x)) H1 (.str (g d))) (H1 : Hp) (a : Ex H H1) (Q : VK) (q : ∀ p H2, H1 p = none → Ex H1 H2 → H2 p = some (.dK (putsT (ds.map g))) → Q (.ref p) H2) :
    tDc (iTup K tl) (gName j) tYes tk (tC (.bl true)) [j] σ H1 Q := h H1 a _ fun v H2 x hd => by
  cases hd with
  | tup hs hx =>
    refine ⟨_, rfl, ⟨_, hs⟩, fun D hD => dc_tup (fun i H' => Ex H2 H' ∧ H' D = some (.dK (putsT ((ds.take i).map g)))) ⟨Ex.new hD, upd_same⟩ (fun i H' _ p => Evl.ex_t p.1 hs) (fun i y H' hi p => ?_) fun H' p => ?_⟩
    · have hi2 : i < ds.length := by rw [← dpAll_len hx]; exact (List.getElem?_eq_some_iff.mp hi).1
      have hd : ds[i]? = some ds[i] := List.getElem?_eq_getElem hi2
      refine ⟨hw y, ?_⟩
      show tk _ H' fun y H4 => _
      refine ht ds[i] (List.getElem_mem hi2) y H' (a.trans (x.trans p.1)) (dp_ex p.1 (dpAll_get hx hi hd)) H' (Ex.refl H') _ fun u H4 e4 hu => ?_
      cases hu
      have hp4 := e4 _ _ p.2
      have hl : (putsT ((ds.take i).map g)).length ≤ 50000 := by
        have h1 := putsT_len ((ds.take i).map g)
        have h2 := List.length_take_le' i ds
        rw [List.length_map] at h1
        omega
      refine ⟨_, .inr (g ds[i]), rfl, hp4, Evl.sz_lt (by omega), Ex.mut (p.1.trans e4) hD, ?_⟩
      rw [upd_same, List.take_add_one, hd]
      show _ = some (HO.dK (putsT ((ds.take i ++ [ds[i]]).map g)))
      rw [List.map_append, List.map_singleton, putsT_snoc]
      rfl
    · rw [dpAll_len hx, List.take_length] at p
      exact q D H' (Evl.fresh_back x hD) (x.trans p.1) p.2
theorem q_dcT {D : Ends} {tz : TS} {i j : Nat} {vs : List Nat} {ds : List PyData} (g : PyData → Str) (hvs : vs = [j]) (h : EvD K tl σ H (.tuple ds)) (hz : ds.length ≤ 50000) (hw : ∀ x, wipe ((wipe σ [j]).set j (some x)) [j] = wipe σ [j])
    (ht : ∀ d ∈ ds, ∀ x H1, Ex H H1 → Dp K H1 x d → EvD K tk ((wipe σ [j]).set j (some x)) H1 (.str (g d))) (q : ∀ p H2, H p = none → Ex H H2 → H2 p = some (.dK (putsT (ds.map g))) → tz D (σ.set i (some (.ref p))) H2) :
    tSeq (tAsg (tDc (iTup K tl) (gName j) tYes tk (tC (.bl true)) vs) (gName i)) tz D σ H := by
  subst hvs
  exact e_dcT g h hz hw ht H (Ex.refl H) (fun x H1 => gName i x σ H1 fun σ2 H2 => tz D σ2 H2) q
end
end AsKit

set_option maxHeartbeats 4000000
set_option autoImplicit false
namespace AsKit
open PySem PySem.Spec PyProof.Rows L2 AsSort
open Evl (Ex Ev EvT EvA)
section
variable {K : PySem.W.Frag} {σ : L2.St} {H : Hp} {te : TE} {ds : List PyData}
/-- sorted(xs, key=f) -/
theorem d_sortL {f : Addr} {pre : List PyData → Prop} {g : List PyData → PyData} (h : EvD K te σ H (.list ds)) (hp : ∀ d ∈ ds, pre [d]) (ha : PySem.W.AllAlike (ds.map fun d => g [d])) (hs : PySem.W.Sortable (ds.map fun d => g [d])) (hi : immAll (ds.map fun d => g [d]) = true) (hd : ∀ d ∈ ds, (g [d]).depth ≤ 50) :
    EvD K (tCKw (rSortKey K f pre g) (tCons te tNil) (tCons (tC (.ref f)) tNil)) σ H (.list (sortD (fun d => g [d]) ds)) := fun H1 a Q q =>
  h H1 a _ fun v H2 x hv => by
    cases hv with
    | lst hq hx => exact ⟨_, _, ds, rfl, rfl, .inl hq, hx, hp, ha, hs, hi, hd, fun p ys G np e hG hys => q _ G (x.trans e) (.lst (Evl.sq_of hG) hys)⟩
end
end AsKit
namespace K26
open PySem PySem.Spec PyProof.Rows L2 AsSort AsKit
open Evl (Ex Ev EvT EvA)
section
variable {P : Program} {w : World} {K : PySem.W.Frag} {mg : Str → Option Value} {base : Heap}
abbrev nCopies : List Str := ["letters", "kinds", "text", "behind", "deed", "copy"]
/-- the texts behind all deeds -/
def behinds (ps : List (Str × Str)) (z : Str) : List Str := (deedsL ps z).map fun d => bhS z (dOf d).1 (dOf d).2
def copiesL (ps : List (Str × Str)) (z : Str) : List PyData := sortD (fun d => one ordT [d]) ((strsOf (putsT (behinds ps z))).map PyData.str)
def cp3 : PyData → PyData → PyData → PyData
  | _, k, .str z => .tuple (copiesL (pairsOf k) z)
  | _, _, _ => .none
theorem deeds_mem {ps : List (Str × Str)} {z : Str} {d : PyData} (h : d ∈ deedsL ps z) : ∃ p kk, d = dD p kk ∧ kk ∈ ps ∧ p ≤ z.length := by
  obtain ⟨p, h1, h2⟩ := List.mem_flatMap.mp h
  obtain ⟨k, hk, rfl⟩ := List.mem_map.mp h2
  exact ⟨p, k, rfl, sortO_mem.mp (List.mem_filter.mp hk).1, Nat.lt_succ_iff.mp (List.mem_range.mp h1)⟩
theorem deedsL_len {ps : List (Str × Str)} {z : Str} (h1 : z.length ≤ 400) (h2 : ps.length ≤ 60) : (deedsL ps z).length ≤ 30000 := by
  have l1 := hitsTo_len (sortO ps) z (z.length + 1)
  have l2 := sortO_len ps
  have l3 : (z.length + 1) * (sortO ps).length ≤ 401 * 60 := Nat.mul_le_mul (by omega) (by omega)
  unfold deedsL
  omega
/-- sorted texts: what is asked -/
theorem ordT_ok (ss : List Str) (h : ∀ s ∈ ss, s.length ≤ 40000) : (∀ d ∈ ss.map PyData.str, ∃ z, [d] = [PyData.str z] ∧ z.length ≤ 40000) ∧ PySem.W.AllAlike ((ss.map PyData.str).map fun d => one ordT [d]) ∧ PySem.W.Sortable ((ss.map PyData.str).map fun d => one ordT [d]) ∧
    immAll ((ss.map PyData.str).map fun d => one ordT [d]) = true ∧ ∀ d ∈ ss.map PyData.str, (one ordT [d]).depth ≤ 50 := by
  have hm : ∀ d ∈ (ss.map PyData.str).map fun d => one ordT [d], ∃ s, d = oT s := fun d hd => by
    obtain ⟨x, hx, rfl⟩ := List.mem_map.mp hd
    obtain ⟨s, hs, rfl⟩ := List.mem_map.mp hx
    exact ⟨s, rfl⟩
  refine ⟨fun d hd => ?_, fun d hd d' hd' => ?_, .inl fun d hd => ?_, immAll_of fun d hd => ?_, fun d hd => ?_⟩
  · obtain ⟨s, hs, rfl⟩ := List.mem_map.mp hd
    exact ⟨s, rfl, h s hs⟩
  · obtain ⟨x, rfl⟩ := hm d hd
    obtain ⟨y, rfl⟩ := hm d' hd'
    exact oT_alike x y
  · obtain ⟨x, rfl⟩ := hm d hd
    exact ⟨_, _, rfl⟩
  · obtain ⟨x, rfl⟩ := hm d hd
    rfl
  · obtain ⟨s, hs, rfl⟩ := List.mem_map.mp hd
    show (oT s).depth ≤ 50
    simp [oT, PyData.depth, PyData.depthAll]
abbrev spCopies (K : PySem.W.Frag) : Sp := spP K (fun ds => ∃ l k t, ds = [l, k, t] ∧ Okay l k t ∧ ∃ ps z, k = .tuple (ps.map kD) ∧ t = .str z ∧ ∀ s ∈ behinds ps z, s.length ≤ 40) (three cp3)
end
end K26

set_option maxHeartbeats 4000000
set_option autoImplicit false
namespace K26
open PySem PySem.Spec PyProof.Rows L2 AsSort AsKit
open Evl (Ex Ev EvT EvA)
abbrev sTaken : Stmt := top 50
abbrev sPick : Stmt := top 51
abbrev sLetters : Stmt := top 52
abbrev sText : Stmt := top 53
abbrev sKinds : Stmt := top 54
abbrev sLaw : Stmt := top 57
section
variable {P : Program} {w : World} {K : PySem.W.Frag} {mg : Str → Option Value} {base : Heap}
/-- all but r is as it was -/
def Bt (r : Addr) (H H' : Hp) : Prop := ∀ x o, x ≠ r → H x = some o → H' x = some o
theorem Bt.refl (r : Addr) (H : Hp) : Bt r H H := fun _ _ _ h => h
theorem Bt.trans {r : Addr} {H H1 H2 : Hp} (a : Bt r H H1) (b : Bt r H1 H2) : Bt r H H2 := fun x o n h => b x o n (a x o n h)
theorem bt_ex {r : Addr} {H H1 : Hp} (e : Ex H H1) : Bt r H H1 := fun x o _ h => e x o h
theorem bt_upd {r : Addr} {H : Hp} {o : HO} : Bt r H (upd H r o) := fun x u n h => (upd_ne n).trans h
/-- the row of the law: the script, how far, the drawn number, what is left of a great one -/
def SqS (K : PySem.W.Frag) (H : Hp) (r scr : Addr) (xs : List V) : Prop := ∀ H', Bt r H H' → SqL K H' scr xs
def RowS (K : PySem.W.Frag) (H : Hp) (r : Addr) (scr : Addr) (ns : List Int) (a b c : Int) : Prop := H r = some (.lst [.ref scr, .int a, .int b, .int c]) ∧ True ∧ SqS K H r scr (ns.map V.int) ∧ 0 ≤ a ∧ 0 ≤ b ∧ b < 2147483647
def Row (K : PySem.W.Frag) (S : Addr × List Int) (H : Hp) (r : Addr) : Prop := ∃ a b c, RowS K H r S.1 S.2 a b c
theorem seq_bt {r x : Addr} {H H1 : Hp} {xs : List V} (h : Bt r H H1) (n : x ≠ r) (s : SqL K H x xs) : SqL K H1 x xs := by
  rcases s with (s | ⟨o, s⟩) | s
  · exact .inl (.inl (h x _ n s))
  · exact .inl (.inr ⟨o, h x _ n s⟩)
  · exact .inr s
theorem RowS.ex {H H1 : Hp} {r scr : Addr} {ns : List Int} {a b c : Int} (e : Ex H H1) (h : RowS K H r scr ns a b c) : RowS K H1 r scr ns a b c := ⟨e _ _ h.1, h.2.1, fun H' b => h.2.2.1 H' ((bt_ex e).trans b), h.2.2.2⟩
theorem RowS.put {H : Hp} {r scr : Addr} {ns : List Int} {a b c a' b' c' : Int} (h : RowS K H r scr ns a b c) (h1 : 0 ≤ a') (h2 : 0 ≤ b') (h3 : b' < 2147483647) : RowS K (upd H r (.lst [.ref scr, .int a', .int b', .int c'])) r scr ns a' b' c' :=
  ⟨upd_same, h.2.1, fun H' b => h.2.2.1 H' (bt_upd.trans b), h1, h2, h3⟩
theorem RowS.dp {H : Hp} {r scr : Addr} {ns : List Int} {a b c : Int} (h : RowS K H r scr ns a b c) : Dp K H (.ref r) (.list [.list (ns.map PyData.int), .int a, .int b, .int c]) :=
  .lst (Evl.sq_of h.1) (.cons (.lst (h.2.2.1 H (Bt.refl r H)) (dp_ints ns)) (.cons (.int a) (.cons (.int b) (.cons (.int c) .nil))))
theorem Row.ex {S : Addr × List Int} {H H1 : Hp} {r : Addr} (e : Ex H H1) (h : Row K S H r) : Row K S H1 r := let ⟨a, b, c, z⟩ := h; ⟨a, b, c, z.ex e⟩
theorem row_new {S : Addr × List Int} {H : Hp} {r p : Addr} {o : HO} (h : Row K S H r) (np : H p = none) : p ≠ r ∧ Row K S (upd H p o) r ∧ Bt r H (upd H p o) := by
  obtain ⟨a, b, c, z⟩ := h
  have n : p ≠ r := fun e => by rw [e, z.1] at np; cases np
  exact ⟨n, ⟨a, b, c, z.ex (Ex.new np)⟩, bt_ex (Ex.new np)⟩
/-- an object that was not there ahead may change -/
theorem row_keep {S : Addr × List Int} {H1 H2 : Hp} {r D : Addr} {o : HO} (h1 : Row K S H1 r) (hD : H1 D = none) (b : Bt r H1 H2) (h2 : Row K S H2 r) : Row K S (upd H2 D o) r ∧ Bt r H1 (upd H2 D o) := by
  obtain ⟨x, y, z, k1⟩ := h1
  obtain ⟨a, b', c, k2⟩ := h2
  have n : r ≠ D := fun e => by rw [← e, k1.1] at hD; cases hD
  have hb : Bt r H1 (upd H2 D o) := fun w u nw hw => by
    rw [upd_ne fun e => by rw [e, hD] at hw; cases hw]
    exact b w u nw hw
  exact ⟨⟨a, b', c, (upd_ne n).trans k2.1, k2.2.1, fun H' b' => k1.2.2.1 H' (hb.trans b'), k2.2.2.2⟩, hb⟩
abbrev nTaken : List Str := ["row", "many", "found", "cell"]
theorem sc_taken : FnScope nTaken ["row", "many"] (defScope sTaken) := ⟨rfl, rfl, rfl, by decide +kernel, rfl, by decide +kernel, by decide +kernel⟩
def spTaken (K : PySem.W.Frag) : Sp := fun vs H Q _ => ∃ (r : Addr) (S : Addr × List Int) (many : Int), vs = [.ref r, .int many] ∧ Row K S H r ∧ 0 < many ∧ many < 1000000 ∧ ∀ (k : Nat) H', (k : Int) < many → Bt r H H' → Row K S H' r → Q (.int (k : Int)) H'
theorem c_taken (D : Df K mg "_law_taken" sTaken) (hb : Bl mg) : Cl P w K mg base 1 "_law_taken" (spTaken K) [] := by
  refine cl_of D sc_taken (fun vs H Q E ⟨r, S, m, h, _⟩ => by rw [h]; rfl) (fun _ _ _ _ _ _ us hl => match us, hl with | [_, _], _ => rfl) fun f cdv A outer s H vs Q E hr h => ?_
  obtain ⟨r, ⟨scr, ns⟩, many, rfl, ⟨a, b, c, hR⟩, hm, hm2, q⟩ := h
  refine ⟨_, pss_cons (ps_if (pt_cmpR op_gt (pe_ix ix_list (pv 0) pe_int (fun _ _ => rfl)) pe_int (nomark _))
      (pss_cons (ps_set (i := 2) sc_taken.nd rfl (.inl rfl) (pe_op op_mod (pe_int1 hb (pe_ix ix_list (pv 0) pe_int (fun _ _ => rfl))) (pv 1)))
      (pss_cons (ps_asg (pe_op op_fdiv (pe_ix ix_list (pv 0) pe_int (fun _ _ => rfl)) (pv 1)) (pg_sub (pv 0) pe_int set_list)) (pss_one (ps_ret (pv 2))))) pss_nil)
    (pss_cons (ps_asg (pe_op op_add (pe_ix ix_list (pv 0) pe_int (fun _ _ => rfl)) pe_int) (pg_sub (pv 0) pe_int set_list))
    (pss_cons (ps_if (pt_cmpR op_gt (pe_ix ix_list (pv 0) pe_int (fun _ _ => rfl)) (pe_lenQ hb (pe_ix ix_list (pv 0) pe_int (fun _ _ => rfl))) (nomark _))
      (pss_cons (ps_asg (pe_op op_mod (pe_int1 hb (pe_op op_add (pe_op op_mul (pe_ix ix_list (pv 0) pe_int (fun _ _ => rfl)) pe_int) pe_int)) pe_int) (pg_sub (pv 0) pe_int set_list))
      (pss_one (ps_ret (pe_op op_mod (pe_int1 hb (pe_op op_fdiv (pe_ix ix_list (pv 0) pe_int (fun _ _ => rfl)) pe_int)) (pv 1))))) pss_nil)
    (pss_cons (ps_set (i := 3) sc_taken.nd rfl (.inl rfl) (pe_ix ix_list (pe_ix ix_list (pv 0) pe_int (fun _ _ => rfl)) (pe_op op_sub (pe_ix ix_list (pv 0) pe_int (fun _ _ => rfl)) pe_int) (fun _ _ => rfl)))
    (pss_cons (ps_asg (pe_op op_mod (pe_int1 hb (pe_op op_add (pe_op op_add (pe_op op_mul (pe_ix ix_list (pv 0) pe_int (fun _ _ => rfl)) pe_int) (pv 3)) pe_int)) pe_int) (pg_sub (pv 0) pe_int set_list))
    (pss_cons (ps_if (pt_cmpR op_ge (pv 3) (pe_op op_pow pe_int pe_int) (nomark _)) (pss_one (ps_asg (pe_op op_fdiv (pv 3) (pv 1)) (pg_sub (pv 0) pe_int set_list))) pss_nil)
    (pss_one (ps_ret (pe_op op_mod (pe_int1 hb (pv 3)) (pv 1))))))))), ?_⟩
  -- what the slots hold
  have a0 : ∀ {x2 x3 : Option V} {G : Hp} {a b c : Int}, RowS K G r scr ns a b c → At K [some (.ref r), some (.int many), x2, x3] G 0 (.list [.list (ns.map PyData.int), .int a, .int b, .int c]) := fun h => ⟨_, rfl, h.dp⟩
  have a1 : ∀ {x2 x3 : Option V} {G : Hp}, At K [some (.ref r), some (.int many), x2, x3] G 1 (.int many) := ⟨_, rfl, .int _⟩
  have ix : ∀ {x2 x3 : Option V} {G : Hp} {a b c : Int} (j : Nat) (d : PyData), RowS K G r scr ns a b c → [PyData.list (ns.map PyData.int), .int a, .int b, .int c][j]? = some d → EvD K (tOp (rIxL K) (tVar 0) (tC (.int (j : Int)))) [some (.ref r), some (.int many), x2, x3] G d := fun j d h e => d_ixL (d_var (a0 h)) d_int (atI_nat e)
  have fin : ∀ (i : Int) (G : Hp), Bt r H G → Row K (scr, ns) G r → Q (.int (i % many)) G := fun i G h1 h2 => by
    have z1 := Int.emod_nonneg i (show many ≠ 0 by omega)
    have z2 := Int.emod_lt_of_pos i hm
    have z := q (i % many).toNat G (by omega) h1 h2
    rw [show (((i % many).toNat : Nat) : Int) = i % many by omega] at z
    exact z
  refine Evl.q_when (b := decide ((0 : Int) < c)) (t_ofD (d_cmpI (g := fun i j => decide (j < i)) (ix 3 _ hR rfl) d_int)) (fun hc H1 e1 => ?_) fun hc H1 e1 => ?_
  · refine AsKit.q_asg (K := K) (d_opC (C := fun _ j => 0 < j) (g := fun i j => i % j) (d_int1 (ix 3 _ (hR.ex e1) rfl)) (d_var a1) hm) fun v2 H2 e2 hv => ?_
    have hR2 := (hR.ex e1).ex e2
    refine q_setI (K := K) (j := 3) rfl hR2.1 (d_opC (C := CDiv) (g := fun i j => i / j) (ix 3 _ hR2 rfl) (d_var a1) ⟨hm, by omega⟩) d_int (by show 3 < 4; decide) fun H3 e3 => ?_
    cases hv
    have hR3 := hR2.ex e3
    refine AsKit.s_ret (K := K) (d_var ⟨_, rfl, .int _⟩) fun u H4 e4 hu => ?_
    cases hu
    exact fin c H4 ((bt_ex (e1.trans (e2.trans e3))).trans (bt_upd.trans (bt_ex e4))) ⟨a, b, _, (hR3.put (c' := c / many) hR.2.2.2.1 hR.2.2.2.2.1 hR.2.2.2.2.2).ex e4⟩
  · have hR1 := hR.ex e1
    refine q_setI (K := K) (j := 1) rfl hR1.1 (d_arI (g := fun i j => i + j) (ix 1 _ hR1 rfl) d_int) d_int (by show 1 < 4; decide) fun H2 e2 => ?_
    have hR2 := (hR1.ex e2).put (a' := a + 1) (b' := b) (c' := c) (by have := hR.2.2.2.1; omega) hR.2.2.2.2.1 hR.2.2.2.2.2
    have b2 : Bt r H (upd H2 r (.lst [.ref scr, .int (a + 1), .int b, .int c])) := (bt_ex (e1.trans e2)).trans bt_upd
    have hb1 := hR.2.2.2.2.1
    have hb2 := hR.2.2.2.2.2
    have ha1 := hR.2.2.2.1
    obtain ⟨G, eG⟩ : ∃ G, G = upd H2 r (.lst [.ref scr, .int (a + 1), .int b, .int c]) := ⟨_, rfl⟩
    show tSeq (tIfS _ _ tNext) _ _ [some (.ref r), some (.int many), none, none] (upd H2 r (.lst [.ref scr, .int (a + 1), .int b, .int c]))
    rw [← eG] at hR2 b2 ⊢
    have len : ∀ {x2 x3 : Option V} {G : Hp} {a b c : Int}, RowS K G r scr ns a b c → EvD K (tCB (rLenQ K) (tCons (tOp (rIxL K) (tVar 0) (tC (.int 0))) tNil)) [some (.ref r), some (.int many), x2, x3] G (.int (ns.length : Int)) := fun h => d_eqTo (d_lenL (ix 0 _ h rfl)) (by rw [List.length_map])
    refine Evl.q_when (b := decide ((ns.length : Int) < a + 1)) (t_ofD (d_cmpI (g := fun i j => decide (j < i)) (ix 1 _ hR2 rfl) (len hR2))) (fun hc H3 e3 => ?_) fun hc H3 e3 => ?_
    · have hR3 := hR2.ex e3
      refine q_setI (K := K) (j := 2) rfl hR3.1 (d_opC (C := fun _ j => 0 < j) (g := fun i j => i % j) (d_int1 (d_arI (g := fun i j => i + j) (d_opC (C := CMul) (g := fun i j => i * j) (ix 2 _ hR3 rfl) d_int (.inl ⟨by omega, by omega⟩)) d_int)) d_int (by decide)) d_int (by show 2 < 4; decide) fun H4 e4 => ?_
      have hR4 := (hR3.ex e4).put (a' := a + 1) (b' := (b * 48271 + 11) % 2147483647) (c' := c) (by omega) (Int.emod_nonneg _ (by decide)) (Int.emod_lt_of_pos _ (by decide))
      refine AsKit.s_ret (K := K) (d_opC (C := fun _ j => 0 < j) (g := fun i j => i % j) (d_int1 (d_opC (C := CDiv) (g := fun i j => i / j) (ix 2 _ hR4 rfl) d_int ⟨by decide, by decide⟩)) (d_var a1) hm) fun u H5 e5 hu => ?_
      cases hu
      exact fin _ H5 (b2.trans ((bt_ex (e3.trans e4)).trans (bt_upd.trans (bt_ex e5)))) ⟨_, _, _, hR4.ex e5⟩
    · have hlt : a.toNat < ns.length := by have := of_decide_eq_false hc; omega
      have hR3 := hR2.ex e3
      have hcell : ns[a.toNat]? = some ns[a.toNat] := List.getElem?_eq_getElem hlt
      refine AsKit.q_asg (K := K) (d := .int ns[a.toNat]) (d_ixL (ds := ns.map PyData.int) (i := (a + 1) - 1) (ix 0 _ hR3 rfl) (d_arI (g := fun i j => i - j) (ix 1 _ hR3 rfl) d_int) ?_) fun v3 H4 e4 hv => ?_
      · rw [show a + 1 - 1 = ((a.toNat : Nat) : Int) by omega]
        exact atI_nat (by rw [List.getElem?_map, hcell]; rfl)
      cases hv
      have hR4 := hR3.ex e4
      have a3 : ∀ {G : Hp}, At K [some (.ref r), some (.int many), none, some (.int ns[a.toNat])] G 3 (.int ns[a.toNat]) := ⟨_, rfl, .int _⟩
      refine q_setI (K := K) (j := 2) rfl hR4.1 (d_opC (C := fun _ j => 0 < j) (g := fun i j => i % j) (d_int1 (d_arI (g := fun i j => i + j) (d_arI (g := fun i j => i + j) (d_opC (C := CMul) (g := fun i j => i * j) (ix 2 _ hR4 rfl) d_int (.inl ⟨by omega, by omega⟩)) (d_var a3)) d_int)) d_int (by decide)) d_int (by show 2 < 4; decide) fun H5 e5 => ?_
      have hR5 := (hR4.ex e5).put (a' := a + 1) (b' := (b * 48271 + ns[a.toNat] + 11) % 2147483647) (c' := c) (by omega) (Int.emod_nonneg _ (by decide)) (Int.emod_lt_of_pos _ (by decide))
      have b5 : Bt r H (upd H5 r (.lst [.ref scr, .int (a + 1), .int ((b * 48271 + ns[a.toNat] + 11) % 2147483647), .int c])) := b2.trans ((bt_ex (e3.trans (e4.trans e5))).trans bt_upd)
      have last : ∀ G, Bt r H G → Row K (scr, ns) G r → tRet (tOp (rI (fun _ j => 0 < j) fun i j => .int (i % j)) (tCB rInt1 (tCons (tVar 3) tNil)) (tVar 1)) { nx := fun _ H' => Q .non H', rt := Q } [some (.ref r), some (.int many), none, some (.int ns[a.toNat])] G := fun G h1 ⟨x, y, z, h2⟩ =>
        AsKit.s_ret (K := K) (d_opC (C := fun _ j => 0 < j) (g := fun i j => i % j) (d_int1 (d_var a3)) (d_var a1) hm) fun u H6 e6 hu => by
          cases hu
          exact fin _ H6 (h1.trans (bt_ex e6)) ⟨x, y, z, h2.ex e6⟩
      refine Evl.q_when (b := decide ((10 : Int) ^ (18 : Int).toNat ≤ ns[a.toNat])) (t_ofD (K := K) (d_cmpI (g := fun i j => decide (j ≤ i)) (d_var a3) (d_opC (C := CPow) (g := fun i j => i ^ j.toNat) d_int d_int ?_))) (fun hc H6 e6 => ?_) fun hc H6 e6 => ?_
      · exact ⟨by decide, by decide, by decide⟩
      · have hR6 := hR5.ex e6
        refine s_setI (K := K) (j := 3) rfl hR6.1 (d_opC (C := CDiv) (g := fun i j => i / j) (d_var a3) (d_var a1) ⟨hm, by omega⟩) d_int (by show 3 < 4; decide) fun H7 e7 => ?_
        exact last _ (b5.trans ((bt_ex (e6.trans e7)).trans bt_upd)) ⟨_, _, _, (hR6.ex e7).put (a' := a + 1) (b' := (b * 48271 + ns[a.toNat] + 11) % 2147483647) (c' := ns[a.toNat] / many) (by omega) (Int.emod_nonneg _ (by decide)) (Int.emod_lt_of_pos _ (by decide))⟩
      · exact last H6 (b5.trans (bt_ex e6)) ⟨_, _, _, hR5.ex e6⟩
end
end K26

set_option maxHeartbeats 4000000
set_option autoImplicit false
namespace AsKit
open PySem PySem.Spec PyProof.Rows L2 AsSort
open Evl (Ex Ev EvT EvA)
/-- the text of these signs -/
def ones (cs : List Nat) : List Str := cs.map fun c => (⟨#[c]⟩ : Str)
theorem joinL_ones : ∀ cs : List Nat, TL.joinL [] (cs.map fun c => [c]) = cs
  | [] => rfl
  | [c] => rfl
  | c :: d :: r => by
    show [c] ++ ([] ++ TL.joinL [] ([d] :: r.map fun c => [c])) = _
    rw [show ([d] :: r.map fun c => [c]) = (d :: r).map fun c => [c] from rfl, joinL_ones (d :: r)]
    rfl
theorem joined1 (cs : List Nat) : (Txt.join "" (ones cs)).cps.toList = cs := by
  show TL.tl (Txt.join "" (ones cs)) = cs
  unfold Txt.join
  rw [StrLaws.glued_eq_join, TL.tl_join]
  have e1 : TL.tl ("" : Str) = [] := by decide +kernel
  have e2 : (ones cs).map TL.tl = cs.map fun c => [c] := by
    unfold ones
    rw [List.map_map]
    rfl
  rw [e1, e2]
  exact joinL_ones cs
section
variable {X : Cx}
/-- list(s), s a text -/
def rListS1 : List V → Hp → VK → Prop := fun xs H Q => ∃ z, xs = [.str z] ∧ z.length ≤ sizeLine ∧ ∀ p, H p = none → Q (.ref p) (upd H p (.lst (z.cps.toList.map fun c => V.str ⟨#[c]⟩)))
theorem call_listS1 (hc : X.calm = true) : CallR X (.type "list") rListS1 := by
  intro pins s σ H xs us Q I r h
  obtain ⟨z, rfl, hz, q⟩ := h
  obtain ⟨u, rfl, rx⟩ := vals1 r
  obtain ⟨t, rfl⟩ := rx
  have hl : z.cps.toList.length = z.cps.size := Array.length_toList
  refine call_list_str (I.ok.hd hc) z t (hn := hz) fun h' tk acc c hk hS hacc => ?_
  refine ⟨.ref s.heap.objs.size, _, I.laid (t' := tk) hk (Nat.le_refl _) (show ObjOk X.prog X.w _ h' _ (.lst (z.cps.toList.map fun c => V.str ⟨#[c]⟩)) from ⟨by rw [List.length_map, hl]; exact hz, acc.toList, c, ?_, ?_⟩), rfl, q _ (I.hok.fresh (Nat.le_refl _))⟩
  · have el : acc.toList.length = acc.size := Array.length_toList
    refine vals_of_at (by rw [List.length_map, el, hacc.1, hl]) fun j x w h1 h2 => ?_
    obtain ⟨d, u, hd, rfl⟩ := hacc.2 j w (by rw [← Array.getElem?_toList]; exact h2)
    rw [List.getElem?_map, Array.getElem?_toList, hd] at h1
    cases h1
    exact ⟨u, rfl⟩
  · rw [Array.toArray_toList]
    exact hS
end
end AsKit
namespace K26
open PySem PySem.Spec PyProof.Rows L2 AsSort AsKit
open Evl (Ex Ev EvT EvA)
section
variable {P : Program} {w : World} {K : PySem.W.Frag} {mg : Str → Option Value} {base : Heap}
theorem sc_pick : FnScope ["row", "things"] ["row", "things"] (defScope sPick) := ⟨rfl, rfl, rfl, by decide +kernel, rfl, by decide +kernel, by decide +kernel⟩
def spPick (K : PySem.W.Frag) : Sp := fun vs H Q _ => ∃ (r : Addr) (S : Addr × List Int) (t : Addr) (xs : List V), vs = [.ref r, .ref t] ∧ Row K S H r ∧ t ≠ r ∧ SqL K H t xs ∧ xs ≠ [] ∧ xs.length < 1000000 ∧ ∀ x H', x ∈ xs → Bt r H H' → Row K S H' r → Q x H'
theorem c_pick (D : Df K mg "_law_pick" sPick) (hb : Bl mg) (C1 : Cl P w K mg base 1 "_law_taken" (spTaken K) []) : Cl P w K mg base 2 "_law_pick" (spPick K) [] := by
  refine cl_of D sc_pick (fun vs H Q E ⟨r, S, t, xs, h, _⟩ => by rw [h]; rfl) (fun _ _ _ _ _ _ us hl => match us, hl with | [_, _], _ => rfl) fun f cdv A outer s H vs Q E hr h => ?_
  obtain ⟨r, S, t, xs, rfl, hR, ht, hs, hn, hz, q⟩ := h
  refine ⟨_, pss_one (ps_ret (pe_ix ix_list (pv 1) (C8.pe_c C1 hr (by decide) (by rfl) (pa_cons (pv 0) (pa_cons (pe_lenQ hb (pv 1)) pa_nil))) (fun _ _ => rfl))), ?_⟩
  have hp : 0 < xs.length := List.length_pos_iff.mpr hn
  refine ⟨.ref t, rfl, .ref r, rfl, .ref t, rfl, t, xs, rfl, .inl hs, r, S, (xs.length : Int), rfl, hR, by omega, by omega, fun k H' hk hb2 hR2 => ?_⟩
  have hk2 : k < xs.length := by omega
  exact ⟨t, xs, (k : Int), xs[k], rfl, rfl, seq_bt hb2 ht hs, atI_nat (List.getElem?_eq_getElem hk2), q _ H' (List.getElem_mem hk2) hb2 hR2⟩
theorem sc_letters : FnScope ["row"] ["row"] (defScope sLetters) := ⟨rfl, rfl, rfl, by decide +kernel, rfl, by decide +kernel, by decide +kernel⟩
def seven : List Str := ["a", "ab", "ab", "ab", "bz", "abc", "cdx"]
def spLetters (K : PySem.W.Frag) : Sp := fun vs H Q _ => ∃ (r : Addr) (S : Addr × List Int), vs = [.ref r] ∧ Row K S H r ∧ ∀ z H', z ∈ seven → Bt r H H' → Row K S H' r → Q (.str z) H'
theorem c_letters (D : Df K mg "_law_letters" sLetters) (C1 : Cl P w K mg base 2 "_law_pick" (spPick K) []) : Cl P w K mg base 3 "_law_letters" (spLetters K) [] := by
  refine cl_of D sc_letters (fun vs H Q E ⟨r, S, h, _⟩ => by rw [h]; rfl) (fun _ _ _ _ _ _ us hl => match us, hl with | [_], _ => rfl) fun f cdv A outer s H vs Q E hr h => ?_
  obtain ⟨r, S, rfl, hR, q⟩ := h
  refine ⟨_, pss_one (ps_ret (C8.pe_c C1 hr (by decide) (by rfl) (pa_cons (pv 0) (pa_cons (pe_lst (pa_cons pe_str (pa_cons pe_str (pa_cons pe_str (pa_cons pe_str (pa_cons pe_str (pa_cons pe_str (pa_cons pe_str pa_nil)))))))) pa_nil)))), ?_⟩
  refine ⟨.ref r, rfl, by show 7 ≤ sizeLine; decide, fun p np => ?_⟩
  have z := row_new (o := .lst (seven.map V.str)) hR np
  refine ⟨r, S, p, seven.map V.str, rfl, z.2.1, z.1, Evl.sq_of upd_same, by decide, by decide, fun x H' hx hb hR' => ?_⟩
  obtain ⟨y, hy, rfl⟩ := List.mem_map.mp hx
  exact q y H' hy (z.2.2.trans hb) hR'
abbrev nText : List Str := ["row", "letters", "most", "turn"]
theorem sc_text : FnScope nText ["row", "letters", "most"] (defScope sText) := ⟨rfl, rfl, rfl, by decide +kernel, rfl, by decide +kernel, by decide +kernel⟩
def spText (K : PySem.W.Frag) : Sp := fun vs H Q _ => ∃ (r : Addr) (S : Addr × List Int) (y : Str) (m : Nat), vs = [.ref r, .str y, .int (m : Int)] ∧ Row K S H r ∧ 0 < y.length ∧ y.length ≤ 1000 ∧ m ≤ 1000 ∧ ∀ (z : Str) H', z.length ≤ m → allIn y z = true → Bt r H H' → Row K S H' r → Q (.str z) H'
theorem c_text (D : Df K mg "_law_text" sText) (hb : Bl mg) (C1 : Cl P w K mg base 1 "_law_taken" (spTaken K) []) (C2 : Cl P w K mg base 2 "_law_pick" (spPick K) []) : Cl P w K mg base 3 "_law_text" (spText K) [] := by
  refine cl_of D sc_text (fun vs H Q E ⟨r, S, y, m, h, _⟩ => by rw [h]; rfl) (fun _ _ _ _ _ _ us hl => match us, hl with | [_, _, _], _ => rfl) fun f cdv A outer s H vs Q E hr h => ?_
  obtain ⟨r, S, y, m, rfl, hR, hy, hy2, hm, q⟩ := h
  refine ⟨_, pss_one (ps_ret (pe_join pe_str (pe_lcn 3 sc_text.nd (pi_range1 (by rfl) (hb _ (by decide +kernel)) (pa_cons (C8.pe_c C1 hr (by decide) (by rfl) (pa_cons (pv 0) (pa_cons (pe_op op_add (pv 2) pe_int) pa_nil))) pa_nil)) (fun _ _ _ _ _ => pts_nil)
    (fun _ _ _ _ _ => C8.pe_c C2 hr (by decide) (by rfl) (pa_cons (pv 0) (pa_cons (pe_callTy (call_listS1 rfl) (by rfl) (hb _ (by decide +kernel)) (by decide +kernel) (pa_cons (pv 1) pa_nil)) pa_nil))) (fun _ _ _ _ _ => pg_name sc_text.nd rfl (.inl rfl)) (blkOk_by (N := nText) (sc := defScope sText) (own := [("turn", 3)]) (by decide +kernel)) rfl))), ?_⟩
  refine ⟨⟨_, rfl⟩, .ref r, rfl, .int (m : Int), rfl, _, _, rfl, rfl, r, S, (m : Int) + 1, rfl, hR, by omega, by omega, fun k H1 hk hb1 hR1 => ?_⟩
  refine ⟨(k : Int), rfl, by omega, by omega, fun D hD => ?_⟩
  have nD := row_new (o := .lst []) hR1 hD
  have hyl : y.cps.toList.length = y.length := Array.length_toList
  refine lc_range (lo := 0) (n := ((k : Int)).toNat) (fun i H' => Bt r H1 H' ∧ Row K S H' r ∧ ∃ cs : List Nat, H' D = some (.lst ((ones cs).map V.str)) ∧ cs.length = i ∧ ∀ c ∈ cs, c ∈ y.cps.toList) ⟨nD.2.2, nD.2.1, [], upd_same, rfl, fun _ h => nomatch h⟩ (fun i H' hi p => ?_) fun H' p => ?_
  · obtain ⟨p1, p2, cs, p3, p4, p5⟩ := p
    refine ⟨rfl, ?_⟩
    refine ⟨.ref r, rfl, .str y, rfl, y, rfl, Evl.sz_of (by omega), fun t nt => ?_⟩
    have nT := row_new (o := .lst (y.cps.toList.map fun c => V.str ⟨#[c]⟩)) p2 nt
    refine ⟨r, S, t, _, rfl, nT.2.1, nT.1, Evl.sq_of upd_same, ?_, by rw [List.length_map]; omega, fun x H2 hx hb2 hR2 => ?_⟩
    · intro e
      have := congrArg List.length e
      rw [List.length_map, List.length_nil] at this
      omega
    · obtain ⟨c, hc, rfl⟩ := List.mem_map.mp hx
      have tD : D ≠ t := fun e => by rw [e, nt] at p3; cases p3
      have h3 : H2 D = some (.lst ((ones cs).map V.str)) := hb2 D _ nD.1 ((upd_ne tD).trans p3)
      have bb : Bt r H1 H2 := p1.trans (nT.2.2.trans hb2)
      have kk := row_keep (o := .lst ((ones cs).map V.str ++ [.str ⟨#[c]⟩])) hR1 hD bb hR2
      refine ⟨_, h3, Evl.sz_lt (by unfold ones; rw [List.length_map, List.length_map, p4]; omega), kk.2, kk.1, cs ++ [c], ?_, by rw [List.length_append, p4]; rfl, fun d hd => ?_⟩
      · rw [upd_same]
        unfold ones
        rw [List.map_append, List.map_append]
        rfl
      · rcases List.mem_append.mp hd with hd | hd
        · exact p5 d hd
        · rw [List.mem_singleton.mp hd]
          exact hc
  · obtain ⟨p1, p2, cs, p3, p4, p5⟩ := p
    have hj := joined1 cs
    have hl : (Txt.join "" (ones cs)).length = cs.length := by
      have e := congrArg List.length hj
      rw [Array.length_toList] at e
      exact e
    refine ⟨_, D, ones cs, rfl, rfl, .inl (Evl.sq_of p3), ?_, q _ H' (by rw [hl]; omega) ?_ (hb1.trans p1) p2⟩
    · have e1 : (ones cs).map (·.length) = cs.map fun _ => 1 := by
        unfold ones
        rw [List.map_map]
        rfl
      have e2 : ∀ l : List Nat, (l.map fun _ => 1).sum = l.length := fun l => by
        induction l with
        | nil => rfl
        | cons x l ih => rw [List.map_cons, List.sum_cons, ih, List.length_cons]; omega
      rw [e1, e2]
      have e3 : (ones cs).length = cs.length := List.length_map ..
      have e4 : (("" : Str)).length = 0 := by decide +kernel
      rw [e3, e4]
      omega
    · unfold allIn
      rw [hj]
      exact List.all_eq_true.mpr fun c hc => decide_eq_true (p5 c hc)
end
end K26

set_option maxHeartbeats 4000000
set_option autoImplicit false
namespace K26
open PySem PySem.Spec PyProof.Rows L2 AsSort AsKit
open Evl (Ex Ev EvT EvA)
section
variable {P : Program} {w : World} {K : PySem.W.Frag} {mg : Str → Option Value} {base : Heap}
theorem tu_bt {S : Addr × List Int} {H H' : Hp} {r : Addr} (h : Row K S H r) (b : Bt r H H') : Tu K H H' := tu_rd fun a xs q => by
  obtain ⟨x, y, z, h1⟩ := h
  have n : ∀ u, H a = some u → (∀ zs, u ≠ .lst zs) → a ≠ r := fun u e n w => by
    rw [w, h1.1] at e
    exact n _ (Option.some.inj e).symm
  rcases q with q | ⟨o, q⟩
  · exact .inl (b a _ (n _ q fun _ z => nomatch z) q)
  · exact .inr ⟨o, b a _ (n _ q fun _ z => nomatch z) q⟩
/-- a kind that the law draws -/
def Gd (y : Str) (p : Str × Str) : Prop := p.1.length ≤ 3 ∧ p.2.length ≤ 1 ∧ allIn y p.1 = true ∧ allIn y p.2 = true ∧ p.1 ≠ p.2
theorem lay_kinds {y : Str} (hy : PyData.strOk y = true) : ∀ ps : List (Str × Str), (∀ p ∈ ps, allIn y p.1 = true ∧ allIn y p.2 = true) → PyData.canLayAll0 (ps.map kD) = true ∧ PyData.depthAll (ps.map kD) ≤ 2
  | [], _ => by simp [PyData.canLayAll0, PyData.depthAll]
  | p :: ps, h => by
    have z := lay_kinds hy ps fun q hq => h q (List.mem_cons_of_mem _ hq)
    have z1 := h p (List.mem_cons_self ..)
    refine ⟨by simp [kD, PyData.canLay0, PyData.canLayAll0, strOk_in hy z1.1, strOk_in hy z1.2, z.1], ?_⟩
    have e : PyData.depthAll ((p :: ps).map kD) = max (kD p).depth (PyData.depthAll (ps.map kD)) := by simp [PyData.depthAll]
    have e2 : (kD p).depth ≤ 2 := by simp [kD, PyData.depth, PyData.depthAll]
    rw [e]
    have := z.2
    omega
theorem shaped_kinds {y : Str} (hy : PyData.strOk y = true) {ps : List (Str × Str)} (h : ∀ p ∈ ps, allIn y p.1 = true ∧ allIn y p.2 = true) : SeqAt.shaped (.list (ps.map kD)) = true := by
  have z := lay_kinds hy ps h
  unfold SeqAt.shaped
  have e : (PyData.list (ps.map kD)).depth = PyData.depthAll (ps.map kD) + 1 := by simp [PyData.depth, Nat.add_comm]
  rw [e, decide_eq_true (by have := z.2; omega), Bool.and_true]
  simpa [PyData.canLay0] using z.1
theorem shaped_kind {y : Str} (hy : PyData.strOk y = true) {p : Str × Str} (h1 : allIn y p.1 = true) (h2 : allIn y p.2 = true) : SeqAt.shaped (kD p) = true := by
  unfold SeqAt.shaped
  simp [kD, PyData.canLay0, PyData.canLayAll0, PyData.depth, PyData.depthAll, strOk_in hy h1, strOk_in hy h2]
theorem d_notIn {σ : L2.St} {H : Hp} {ta tb : TE} {d : PyData} {ds : List PyData} (h : EvD K ta σ H d) (h2 : EvD K tb σ H (.list ds)) (sd : SeqAt.shaped d = true) (se : SeqAt.shaped (.list ds) = true) : EvD K (tOp (rNotInD K) ta tb) σ H (.bool (!ds.any fun z => PyData.eqv z d)) := fun H1 a Q q =>
  h H1 a _ fun v H2 u hd => h2 H2 (a.trans u) _ fun w H3 y he => ⟨d, ds, dp_ex y hd, he, sd, se, q _ H3 (u.trans y) (.bl _)⟩
abbrev nKinds : List Str := ["row", "letters", "most", "found", "turn", "kind"]
theorem sc_kinds : FnScope nKinds ["row", "letters", "most"] (defScope sKinds) := ⟨rfl, rfl, rfl, by decide +kernel, rfl, by decide +kernel, by decide +kernel⟩
def spKinds (K : PySem.W.Frag) : Sp := fun vs H Q _ => ∃ (r : Addr) (S : Addr × List Int) (y : Str) (m : Nat), vs = [.ref r, .str y, .int (m : Int)] ∧ Row K S H r ∧ PyData.strOk y = true ∧ 0 < y.length ∧ y.length ≤ 1000 ∧ m ≤ 1000 ∧
  ∀ v (ps : List (Str × Str)) H', Dp K H' v (.tuple (ps.map kD)) → ps.Nodup → ps.length ≤ m → (∀ p ∈ ps, Gd y p) → Bt r H H' → Row K S H' r → Q v H'
theorem c_kinds (D : Df K mg "_law_kinds" sKinds) (hb : Bl mg) (C1 : Cl P w K mg base 1 "_law_taken" (spTaken K) []) (C2 : Cl P w K mg base 2 "_law_pick" (spPick K) []) (C3 : Cl P w K mg base 3 "_law_text" (spText K) []) : Cl P w K mg base 4 "_law_kinds" (spKinds K) [] := by
  refine cl_of D sc_kinds (fun vs H Q E ⟨r, S, y, m, h, _⟩ => by rw [h]; rfl) (fun _ _ _ _ _ _ us hl => match us, hl with | [_, _, _], _ => rfl) fun f cdv A outer s H vs Q E hr h => ?_
  obtain ⟨r, S, y, m, rfl, hR, hso, hy, hy2, hm, q⟩ := h
  have hu : (A.deeper (envOfC "_law_kinds" (defScope sKinds) s.heap.objs.size f cdv)).units + 65 < cLine := by have := hr.un; omega
  refine ⟨_, pss_cons (ps_set (i := 3) sc_kinds.nd rfl (.inl rfl) (pe_lst pa_nil))
    (pss_cons (ps_for PassesOwn.never rfl (pi_range1 (by rfl) (hb _ (by decide +kernel)) (pa_cons (C8.pe_c C1 hr (by decide) (by rfl) (pa_cons (pv 0) (pa_cons (pe_op op_add (pv 2) pe_int) pa_nil))) pa_nil)) (pg_name (i := 4) sc_kinds.nd rfl (.inl rfl))
      (pss_cons (ps_set (i := 5) sc_kinds.nd rfl (.inl rfl) (pe_tup (pa_cons (C8.pe_c C3 hr (by decide) (by rfl) (pa_cons (pv 0) (pa_cons (pv 1) (pa_cons (C8.pe_c C2 hr (by decide) (by rfl) (pa_cons (pv 0) (pa_cons (pe_lst (pa_cons pe_int (pa_cons pe_int (pa_cons pe_int (pa_cons pe_int (pa_cons pe_int pa_nil)))))) pa_nil))) pa_nil)))) (pa_cons (C8.pe_c C3 hr (by decide) (by rfl) (pa_cons (pv 0) (pa_cons (pv 1) (pa_cons pe_int pa_nil)))) pa_nil))))
      (pss_one (ps_if (pw_and (pt_cmpR op_ne (pe_ix ix_tup (pv 5) pe_int (fun _ _ => rfl)) (pe_ix ix_tup (pv 5) pe_int (fun _ _ => rfl)) (nomark _)) (pw_and1 (pt_cmpR (op_notInD hu) (pv 5) (pv 3) rfl))).pt
        (pss_one (ps_expr (pe_bm PySem.F.plainAttrs_list PySem.F.slot_list_append PySem.F.type_list_append mt_append (pv 3) (pa_cons (pv 5) pa_nil)))) pss_nil))))
    (pss_one (ps_ret (pe_tupQ hb (pv 3))))), ?_⟩
  refine ⟨Evl.sz_of (Nat.zero_le _), fun l nl => ?_⟩
  have nL := row_new (o := .lst []) hR nl
  refine ⟨.ref r, rfl, .int (m : Int), rfl, _, _, rfl, rfl, r, S, (m : Int) + 1, rfl, nL.2.1, by omega, by omega, fun k H1 hk hb1 hR1 => ?_⟩
  have h1l : H1 l = some (.lst []) := hb1 l _ nL.1 upd_same
  refine ⟨(k : Int), rfl, by omega, by omega, ?_⟩
  refine for_range (lo := 0) (n := ((k : Int)).toNat) (fun i σ' H' => ∃ x4 x5, σ' = [some (.ref r), some (.str y), some (.int (m : Int)), some (.ref l), x4, x5] ∧ Bt r H H' ∧ Row K S H' r ∧ ∃ acc ps, H' l = some (.lst acc) ∧ DpAll K H' acc (ps.map kD) ∧ ps.Nodup ∧ ps.length ≤ i ∧ ∀ p ∈ ps, Gd y p)
    ⟨_, _, rfl, nL.2.2.trans hb1, hR1, [], [], h1l, .nil, List.nodup_nil, Nat.le_refl _, fun _ h => nomatch h⟩ (fun i σ' H' hi p => ?_) fun σ' H' p => ?_
  · obtain ⟨x4, x5, rfl, p1, p2, acc, ps, p3, p4, p5, p6, p7⟩ := p
    have okp : ∀ p ∈ ps, allIn y p.1 = true ∧ allIn y p.2 = true := fun p hp => ⟨(p7 p hp).2.2.1, (p7 p hp).2.2.2.1⟩
    -- kind = (.., ..)
    refine ⟨.ref r, rfl, .str y, rfl, .ref r, rfl, by show 5 ≤ sizeLine; decide, fun t nt => ?_⟩
    have nT := row_new (o := .lst [.int 1, .int 1, .int 2, .int 2, .int 3]) p2 nt
    refine ⟨r, S, t, [.int 1, .int 1, .int 2, .int 2, .int 3], rfl, nT.2.1, nT.1, Evl.sq_of upd_same, by decide, by decide, fun x H2 hx hb2 hR2 => ?_⟩
    have hx2 : ∃ n : Nat, n ≤ 3 ∧ x = .int (n : Int) := by
      simp only [List.mem_cons, List.not_mem_nil, or_false] at hx
      rcases hx with rfl | rfl | rfl | rfl | rfl
      · exact ⟨1, by omega, rfl⟩
      · exact ⟨1, by omega, rfl⟩
      · exact ⟨2, by omega, rfl⟩
      · exact ⟨2, by omega, rfl⟩
      · exact ⟨3, by omega, rfl⟩
    obtain ⟨n, hn, rfl⟩ := hx2
    refine ⟨r, S, y, n, rfl, hR2, hy, hy2, by omega, fun a H3 ha ha2 hb3 hR3 => ?_⟩
    refine ⟨.ref r, rfl, .str y, rfl, r, S, y, 1, rfl, hR3, hy, hy2, by omega, fun b H4 hb' hb2' hb4 hR4 => ?_⟩
    refine ⟨by show 2 ≤ sizeLine; decide, fun c nc => ?_⟩
    have tl : l ≠ t := fun e => by rw [e, nt] at p3; cases p3
    have b04 : Bt r H' H4 := nT.2.2.trans (hb2.trans (hb3.trans hb4))
    have h4l : H4 l = some (.lst acc) := b04 l _ nL.1 p3
    obtain ⟨G, eG⟩ : ∃ G, G = upd H4 c (.tup [.str a, .str b]) := ⟨_, rfl⟩
    have nC := row_new (o := .tup [.str a, .str b]) hR4 nc
    rw [← eG] at nC
    have cl : l ≠ c := fun e => by rw [e, nc] at h4l; cases h4l
    have hGl : G l = some (.lst acc) := by rw [eG, upd_ne cl]; exact h4l
    have bG : Bt r H' G := b04.trans nC.2.2
    have himm : immAll (ps.map kD) = true := immAll_of fun d hd => by
      obtain ⟨p, _, rfl⟩ := List.mem_map.mp hd
      rfl
    have hacc : DpAll K G acc (ps.map kD) := dpAll_tu (tu_bt p2 bG) himm p4
    have hc : Dp K G (.ref c) (kD (a, b)) := .tup (Evl.st_of (by rw [eG, upd_same])) (.cons (.str a) (.cons (.str b) .nil))
    dsimp only [gName]
    rw [← eG]
    have c5 : At K [some (.ref r), some (.str y), some (.int (m : Int)), some (.ref l), some (.int (0 + (i : Nat))), some (.ref c)] G 5 (kD (a, b)) := ⟨_, rfl, hc⟩
    have c3 : At K [some (.ref r), some (.str y), some (.int (m : Int)), some (.ref l), some (.int (0 + (i : Nat))), some (.ref c)] G 3 (.list (ps.map kD)) := ⟨_, rfl, .lst (Evl.sq_of hGl) hacc⟩
    refine Evl.s_if (b := (!decide (a = b)) && !((ps.map kD).any fun z => PyData.eqv z (kD (a, b)))) (Evl.et_and (t_ofD (d_neS (d_ixT (d_var c5) d_int rfl) (d_ixT (d_var c5) d_int rfl))) fun _ => t_ofD (d_notIn (d_var c5) (d_var c3) (shaped_kind hso ha2 hb2') (shaped_kinds hso okp))) (fun hcnd H5 e5 => ?_) fun _ H5 e5 => ?_
    · have hcnd2 : a ≠ b ∧ ¬ ((ps.map kD).any fun z => PyData.eqv z (kD (a, b))) = true := by
        simp only [Bool.and_eq_true, Bool.not_eq_true', decide_eq_false_iff_not] at hcnd
        exact ⟨hcnd.1, by rw [hcnd.2]; decide⟩
      have hnm : (a, b) ∉ ps := fun hmem => hcnd2.2 (List.any_eq_true.mpr ⟨_, List.mem_map_of_mem hmem, SeqAt.eqv_refl _ (SeqAt.canLay_of_shaped (shaped_kind hso ha2 hb2'))⟩)
      refine ⟨_, rfl, .inl ⟨rfl, acc, Evl.sq_of (e5 _ _ hGl)⟩, _, rfl, l, acc, .ref c, rfl, rfl, e5 _ _ hGl, Evl.sz_lt (by rw [dpAll_len p4, List.length_map]; omega), ?_⟩
      have kk := row_keep (o := .lst (acc ++ [.ref c])) hR nl ((p1.trans bG).trans (bt_ex e5)) (nC.2.1.ex e5)
      refine ⟨_, _, rfl, kk.2, kk.1, acc ++ [.ref c], ps ++ [(a, b)], upd_same, ?_, ?_, by rw [List.length_append]; show ps.length + 1 ≤ i + 1; omega, fun p hp => ?_⟩
      · rw [List.map_append]
        exact dpAll_snoc (dp_tu (tu_lst (e5 _ _ hGl)) rfl (dp_ex e5 hc)) (dpAll_tu (tu_lst (e5 _ _ hGl)) himm (dpAll_ex e5 hacc))
      · exact List.nodup_append.mpr ⟨p5, List.nodup_cons.mpr ⟨List.not_mem_nil, List.nodup_nil⟩, fun x hx y' hy' e => by rw [List.mem_singleton.mp hy'] at e; exact hnm (e ▸ hx)⟩
      · rcases List.mem_append.mp hp with hp | hp
        · exact p7 p hp
        · rw [List.mem_singleton.mp hp]
          exact ⟨by show a.length ≤ 3; omega, hb', ha2, hb2', hcnd2.1⟩
    · exact ⟨_, _, rfl, (p1.trans bG).trans (bt_ex e5), nC.2.1.ex e5, acc, ps, e5 _ _ hGl, dpAll_ex e5 hacc, p5, by omega, p7⟩
  · obtain ⟨x4, x5, rfl, p1, p2, acc, ps, p3, p4, p5, p6, p7⟩ := p
    refine AsKit.s_ret (K := K) (d_tupOf (d_var ⟨_, rfl, .lst (Evl.sq_of p3) p4⟩)) fun u H2 e2 hu => q u ps H2 hu p5 (by omega) p7 (p1.trans (bt_ex e2)) (p2.ex e2)
end
end K26

set_option maxHeartbeats 4000000
set_option autoImplicit true
/-! lambdas with parameters and captured names: made, called, handed to sorted. -/
namespace AsLam
open PySem PySem.Spec PyProof.Rows L2 LamX NdefX
open Evl (Ex)

/-- at f stands the lambda F, e its expression -/
def LamO (f : Addr) (F : NF) (e : Expr) : HO := .ext fun h => ∃ (od : Option Addr) (sl : Array (Option Value)) (pm ctv : Value), h.get? f = some (⟨.type "function", od, .func (PySem.W.kla_fn F.name F.qual F.params e F.scope F.cl pm (.ref F.c) ctv), sl⟩ : Obj)
theorem lamO_at {P : Program} {w : World} {H : Hp} {h : Heap} {f : Addr} {F : NF} {e : Expr} (ok : HOk P w H h) (q : H f = some (LamO f F e)) :
    ∃ (od : Option Addr) (sl : Array (Option Value)) (pm ctv : Value), h.get? f = some (⟨.type "function", od, .func (PySem.W.kla_fn F.name F.qual F.params e F.scope F.cl pm (.ref F.c) ctv), sl⟩ : Obj) := (ok f _ q).1

/-- its promise; ws what the captured names hold -/
structure LOk (P : Program) (w : World) (K : PySem.W.Frag) (mg : Str → Option Value) (base : Heap) (CX : CXT) (k : Nat) (f : Addr) (F : NF) (e : Expr) (ps fr : List Str) (sp : List (Option V) → Sp) : Prop where
  len : ∀ ws vs H Q E, sp ws vs H Q E → vs.length = ps.length
  run : ∀ (A : Around) (outer : List Env) (s : Shared) (H : Hp) (us : List Value) (vs : List V) (ws : List (Option V)) (Q : VK) (E : XK), Room k A → Env0 P w K mg base A outer s H → H f = some (LamO f F e) → H F.c = some (CodeO F.c F.qual) →
    CellsAt F.cl fr ws s.heap H → Vals vs us → sp ws vs H Q E → codeAny (model P w) A (.call (.ref f) ⟨us, []⟩) (CR CX outer P w H s Q E) s
section
variable {CX : CXT} {P : Program} {w : World} {K : PySem.W.Frag} {mg : Str → Option Value} {base : Heap} {N ps fr : List Str} {F : NF} {f : Addr} {k : Nat} {e : Expr} {sp : List (Option V) → Sp}
theorem lok_of (S : NScope N ps fr F.scope) (hb : ∀ (pm ctv : Value) (us : List Value), us.length = ps.length → bindArgs (PySem.W.kla_fn F.name F.qual F.params e F.scope F.cl pm (.ref F.c) ctv) ⟨us, []⟩ = pure (ps.zip us)) (len : ∀ ws vs H Q E, sp ws vs H Q E → vs.length = ps.length)
    (body : ∀ (A : Around) (outer : List Env) (s : Shared) (H : Hp) (vs : List V) (ws : List (Option V)) (Q : VK) (E : XK), Room k (A.deeper (envF F f s.heap.objs.size)) → ws.length = fr.length → sp ws vs H Q E →
      ∃ t, PE (ncx CX P w K mg base N F f A outer s H E) e t ∧ t (startF N vs ws) H Q) : LOk P w K mg base CX (k + 1) f F e ps fr sp := by
  refine ⟨len, fun A outer s H us vs ws Q E hr e0 hf hc C r hsp => ?_⟩
  have hl := len _ _ _ _ _ hsp
  have lim : s.heap.NoLimit := e0.mod.nolimit.keeps fun b o q => (e0.bs b o q).1
  obtain ⟨od, sl, pm, ctv, ho⟩ := lamO_at e0.hok hf
  refine PySem.W.kla_callFunE hr.depth ho rfl S.co S.gen rfl (codeO_at e0.hok hc) ?_
  rw [hb pm ctv us (by rw [← r.length]; exact hl)]
  refine wpAny_pure (wpAny_newFunctionEnv S.nocell (fun ⟨n, _⟩ hy => S.par n (List.of_mem_zip hy).1) (fun h1 hns hsb => ⟨lim.fresh _ hsb, ?_⟩) S.kind)
  show codeAny _ _ (.expr e (envF F f s.heap.objs.size)) _ _
  have kp : ∀ b o, s.heap.get? b = some o → h1.get? b = some o := fun b o q => hsb.extBut b o (Nat.ne_of_lt (Heap.lt_size q)) (Heap.get?_push_of_some _ q)
  obtain ⟨t, ht, hq⟩ := body A outer s H vs ws Q E (hr.deeper _) C.len hsp
  have I : Inv (ncx CX P w K mg base N F f A outer s H E) [] (startF N vs ws) H { s with heap := h1, toks := s.toks + (ps.zip us).length } := inv_startN S hr.hd e0 hl r C hns kp
  refine PySem.W.kla_codeExpr (wpAny_mono (ht.run [] _ (startF N vs ws) H _ I hq) (fun v s' hs => ?_) fun e' s' hs => hs)
  obtain ⟨v', H', J, rv, q⟩ := hs
  exact ⟨v', H', J.os, J.bare, J.base, J.hok, rv, q⟩
end

section
variable {X : Cx} {pins : List (Addr × Obj)} {σ : L2.St} {H : Hp} {s : Shared}
theorem inv_lam {F : NF} {e : Expr} {o : Obj} {t' : Nat} {pm ctv : Value} (I : Inv X pins σ H s) (ho : o = { cls := .type "function", data := .func (PySem.W.kla_fn F.name F.qual F.params e F.scope F.cl pm (.ref F.c) ctv) }) :
    Inv X pins σ (upd H s.heap.objs.size (LamO s.heap.objs.size F e)) { s with heap := s.heap.push o, toks := t' } := by
  subst ho
  have z : (s.heap.push ({ cls := .type "function", data := .func (PySem.W.kla_fn F.name F.qual F.params e F.scope F.cl pm (.ref F.c) ctv) } : Obj)).get? s.heap.objs.size = some _ := Heap.get?_push_size _ rfl
  exact I.laid (a := s.heap.objs.size) (fun b u q => Heap.get?_push_of_some _ q) (Nat.le_refl _) ⟨⟨_, _, pm, ctv, z⟩, ⟨_, z⟩, fun h1 h2 ⟨od, sl, p, t, y⟩ st => ⟨od, sl, p, t, st _ y⟩⟩
abbrev lamF (X : Cx) (params : Arguments) (scope : Scope) (c' : Addr) : NF := ⟨"<lambda>", X.env.qual ++ "<lambda>", params, [], scope, cloFrom X.env.cells scope.names [], c'⟩
/-- a lambda is made -/
theorem lam_make {T : List NTab} {nm : Nat → Nat → Str} {c P : Addr} {params : Arguments} {body : Expr} {scope : Scope} {pos : Pos} {E : Value → Shared → Prop} {Q : Value → Shared → Prop} (I : Inv X pins σ H s) (TB : TabB X.base X.mg c P) (hcode : X.env.code = .ref c)
    (hm : (P, nm) ∈ T) (hn : nm pos.line pos.col = X.env.qual ++ "<lambda>") (hu : ∀ p ∈ T, p.1 = P → p.2 = nm) (hT : TabsN T H) (hdef : defaultsOf params X.env = ([], [])) (hfree : ∀ y ∈ scope.names, y.2 = .free → ∃ c, X.env.cells.lookup y.1 = some c)
    (h : ∀ (f c' : Addr) (G : Hp) (z : Shared), Inv X pins σ G z → ExtN H G → (∀ b, G b = none → H b = none) → TabsN T G → H f = none → G f = some (LamO f (lamF X params scope c') body) → G c' = some (CodeO c' (X.env.qual ++ "<lambda>")) → Q (.ref f) z) :
    wpAny (model X.prog X.w) X.A (eval (.Lambda params body scope pos) X.env) Q E s := by
  obtain ⟨ps, hP, ht, ha⟩ := (show TabN H P nm from hT _ hm)
  refine PySem.W.kla_eval hdef ?_
  have bP : s.heap.BuiltinsAt X.mg P := TB.bm.keeps I.bk
  have oP : s.heap.get? P = some { cls := .none, data := .fields ps } := I.hok P _ hP
  cases hc : codeAmong pos ps.toList with
  | some cv =>
    obtain ⟨c', rfl, hco⟩ := ha pos cv hc
    rw [hn] at hco
    refine PySem.W.kla_makeFunctionHit (mg := X.mg) (c := c) (P := P) (ps := ps) (closure_ok hfree) I.ok.glob (I.mod.glob.keeps I.bk) hcode (TB.code.keeps I.bk) oP ht hc bP fun ctv h' tk hx _ => ?_
    have I1 : Inv X pins σ H { s with heap := h', toks := tk } := I.kept hx
    have nF : H h'.objs.size = none := I1.hok.fresh (Nat.le_refl _)
    have I2 := inv_lam (F := lamF X params scope c') (e := body) (t' := tk) (pm := (X.mg "__name__").getD .none) (ctv := ctv) I1 rfl
    exact h h'.objs.size c' _ _ I2 (fun b o e _ => (upd_ne (ne_of_none e nF)).trans e) (fun b e => upd_none e) (hT.ext fun b o e => (upd_ne (ne_of_none e nF)).trans e) nF upd_same ((upd_ne (ne_of_none hco nF)).trans hco)
  | none =>
    refine PySem.W.kla_makeFunction (mg := X.mg) (c := c) (P := P) (ps := ps) (closure_ok hfree) I.ok.glob (I.mod.glob.keeps I.bk) hcode (TB.code.keeps I.bk) oP ht hc TB.gP bP fun c' ctv h' tk hx hge hlt hrec htb => ?_
    obtain ⟨c2, oc, vs, t, e2, hoc, hd, hv⟩ := hrec
    cases e2
    have nC : H c' = none := I.hok.fresh hge
    obtain ⟨more, emore⟩ : ∃ more : Array Value, more = #[rawInt pos.line, rawInt pos.col, .ref c'] := ⟨_, rfl⟩
    rw [← emore] at htb
    obtain ⟨G, eG⟩ : ∃ G, G = upd (upd H P (.tbl (ps ++ more))) c' (CodeO c' (X.env.qual ++ "<lambda>")) := ⟨_, rfl⟩
    have I1 : Inv X pins σ G { s with heap := h', toks := tk } := by
      rw [eG]
      exact inv_table (t' := tk) (more := more) (h' := h') I hP (fun b o hb e => hx b o hb e) htb hge ⟨oc, vs, t, hoc, hd, hv⟩
    have gE : ExtN H G := fun b o e n => by
      rw [eG, upd_ne (ne_of_none e nC), upd_ne (fun z => n ps (Option.some.inj (e.symm.trans (by rw [z]; exact hP))))]
      exact e
    have gN : ∀ b, G b = none → H b = none := fun b e => by
      rw [eG] at e
      exact upd_none (upd_none e)
    have gC : G c' = some (CodeO c' (X.env.qual ++ "<lambda>")) := by rw [eG]; exact upd_same
    have gP : G P = some (.tbl (ps ++ more)) := by rw [eG, upd_ne (ne_of_none hP nC), upd_same]
    have eL : (ps ++ more).toList = ps.toList ++ [rawInt pos.line, rawInt pos.col, .ref c'] := by rw [emore]; simp
    have gT : TabsN T G := fun p hp => by
      by_cases hb : p.1 = P
      · rw [hu p hp hb, hb]
        refine ⟨_, gP, by rw [eL]; exact PySem.TriplesOk_snoc _ _ _ _ ht, fun p' cv hcv => ?_⟩
        rw [eL] at hcv
        rcases among_app2 _ ht hcv with z | ⟨z, z1, z2⟩
        · obtain ⟨c0, e1, e3⟩ := ha p' cv z
          exact ⟨c0, e1, gE _ _ e3 codeO_ne⟩
        · exact ⟨c', z, by rw [← z1, ← z2, hn]; exact gC⟩
      · obtain ⟨ps', a1, a2, a3⟩ := hT p hp
        refine ⟨ps', by rw [eG, upd_ne (ne_of_none a1 nC), upd_ne hb]; exact a1, a2, fun p' cv hcv => ?_⟩
        obtain ⟨c0, e1, e3⟩ := a3 p' cv hcv
        exact ⟨c0, e1, gE _ _ e3 codeO_ne⟩
    have nF : G h'.objs.size = none := I1.hok.fresh (Nat.le_refl _)
    have I2 := inv_lam (F := lamF X params scope c') (e := body) (t' := tk) (pm := (X.mg "__name__").getD .none) (ctv := ctv) I1 rfl
    refine h h'.objs.size c' _ _ I2 (fun b o e n => (upd_ne (ne_of_none (gE b o e n) nF)).trans (gE b o e n)) (fun b e => gN b (upd_none e)) (gT.ext fun b o e => (upd_ne (ne_of_none e nF)).trans e) (gN _ nF) upd_same ((upd_ne (Nat.ne_of_lt hlt)).trans gC)
end

section
variable {X : Cx}
/-- the value of a lambda -/
def tLam (T : List NTab) (mk : Addr → NF) (e : Expr) : TE := fun _ H Q => TabsN T H ∧ ∀ (f c' : Addr) (G : Hp), ExtN H G → (∀ b, G b = none → H b = none) → TabsN T G → H f = none → G f = some (LamO f (mk c') e) → G c' = some (CodeO c' (mk c').qual) → Q (.ref f) G
theorem pe_lam {T : List NTab} {nm : Nat → Nat → Str} {c P : Addr} {params : Arguments} {body : Expr} {scope : Scope} {pos : Pos} (TB : TabB X.base X.mg c P) (hcode : X.env.code = .ref c) (hm : (P, nm) ∈ T) (hn : nm pos.line pos.col = X.env.qual ++ "<lambda>") (hu : ∀ p ∈ T, p.1 = P → p.2 = nm)
    (hfree : ∀ y ∈ scope.names, y.2 = .free → X.env.scope.names.lookup y.1 = some .cell ∨ X.env.scope.names.lookup y.1 = some .free) (hdef : defaultsOf params X.env = ([], []) := by rfl) : PE X (.Lambda params body scope pos) (tLam T (lamF X params scope) body) := by
  refine ⟨fun pins s σ H Q I h => ?_⟩
  obtain ⟨hT, h⟩ := h
  exact lam_make I TB hcode hm hn hu hT hdef (fun y hy e => (hfree y hy e).elim (fun z => I.ok.has _ (.inl z)) fun z => I.ok.has _ (.inr z)) fun f c' G z J e1 e2 e3 e4 e5 e6 => ⟨.ref f, G, J, rfl, h f c' G e1 e2 e3 e4 e5 e6⟩

/-- a lambda without captured names as a key -/
theorem keys_lam {k : Nat} {f : Addr} {F : NF} {e : Expr} {x : Str} {pre : List PyData → Prop} {g : List PyData → PyData} {H : Hp} {xs : List V} {ds : List PyData} (L : LOk X.prog X.w X.K X.mg X.base CX0 k f F e [x] [] (fun _ => AsSort.spP X.K pre g)) (hr : Room (k + 2) X.A)
    (hf : H f = some (LamO f F e)) (hc : H F.c = some (CodeO F.c F.qual)) (hcl : F.cl = []) (hd : DpAll X.K H xs ds) (hp : ∀ d ∈ ds, pre [d]) : AsSort.Keys X (.ref f) H xs (ds.map fun d => g [d]) := by
  intro pins σ G z i v u d I ex hx hk ru
  rw [List.getElem?_map] at hk
  cases hi : ds[i]? with
  | none => rw [hi] at hk; cases hk
  | some d0 =>
    rw [hi] at hk
    have ed : g [d0] = d := Option.some.inj hk
    have hv : Dp X.K G v d0 := AsSort.dp_ex ex (AsSort.dpAll_get hd hx hi)
    have E0' : Env0 X.prog X.w X.K X.mg X.base X.A.in1.in1 X.stack z G := I.env0.in1.in1
    have C : CellsAt F.cl [] [] z.heap G := by
      rw [hcl]
      exact ⟨rfl, fun _ _ q => (nomatch q), fun _ _ _ q => (nomatch q), fun i y q => (nomatch q)⟩
    refine wpAny_call (codeAny_mono (L.run X.A.in1.in1 X.stack z G [u] [v] [] (fun v G' => Ex G G' ∧ Dp X.K G' v d) E0 hr.in1.in1 E0' (ex _ _ hf) (ex _ _ hc) C (.cons ru .nil) ⟨[d0], .cons hv .nil, hp d0 (List.mem_of_getElem? hi), fun w' G' e' h' => ⟨e', by rw [← ed]; exact h'⟩⟩) fun r s' hq => ?_)
    cases r with
    | error e => exact hq.elim
    | ok fl =>
      cases fl with
      | ret u => exact I.after hq
      | next => exact False.elim hq
      | brk => exact False.elim hq
      | cont => exact False.elim hq

/-- sorted(xs, key=f), f a lambda of the kind that mk tells -/
def rSortLam (K : PySem.W.Frag) (mk : Addr → NF) (e : Expr) (pre : List PyData → Prop) (g : List PyData → PyData) : List V → List V → Hp → VK → Prop := fun vs zs H Q => ∃ (l f c' : Addr) (xs : List V) (ds : List PyData), vs = [.ref l] ∧ zs = [.ref f] ∧ H f = some (LamO f (mk c') e) ∧ H c' = some (CodeO c' (mk c').qual) ∧
  (SqL K H l xs ∨ SqT K H l xs) ∧ DpAll K H xs ds ∧ (∀ d ∈ ds, pre [d]) ∧
  PySem.W.AllAlike (ds.map fun d => g [d]) ∧ PySem.W.Sortable (ds.map fun d => g [d]) ∧ AsSort.immAll (ds.map fun d => g [d]) = true ∧ (∀ d ∈ ds, (g [d]).depth ≤ 50) ∧
  ∀ p ys G, H p = none → Ex H G → G p = some (.lst ys) → DpAll K G ys (AsSort.sortD (fun d => g [d]) ds) → Q (.ref p) G
theorem cr_sortLam {k : Nat} {mk : Addr → NF} {e : Expr} {x : Str} {pre : List PyData → Prop} {g : List PyData → PyData} (L : ∀ f c', LOk X.prog X.w X.K X.mg X.base CX0 k f (mk c') e [x] [] (fun _ => AsSort.spP X.K pre g)) (hr : Room (k + 2) X.A) (hcl : ∀ c', (mk c').cl = []) (hc : ∀ c', (mk c').c = c') :
    CallRK X (.builtin "sorted") [Str.ofString "key"] (rSortLam X.K mk e pre g) := by
  intro pins s σ H vs zs us ws Q I r rz h
  obtain ⟨l, f, c', xs, ds, rfl, rfl, hf, hco, hs, hd, hp, hal, hso, him, hdep, q⟩ := h
  obtain rfl := Vals.ref1 r
  obtain ⟨w1, rfl, e1⟩ := vals1 rz
  obtain rfl : w1 = Value.ref f := e1
  refine AsSort.sorted_run (rev := false) I hs (keys_lam (L f c') hr hf (by rw [hc]; exact hco) (hcl c') hd hp) (by rw [List.length_map, AsSort.dpAll_len hd]) him hal hso (fun d hm => ?_) (PyProof.Rows.ksk_s1 _ _) (fun _ => PyProof.Rows.ksk_l1 _ _) (fun a => PyProof.Rows.ksk_t1 f a) fun p G np e => ?_
  · obtain ⟨d0, h0, rfl⟩ := List.mem_map.mp hm
    have h1 := hdep d0 h0
    have h2 := hr.un
    show X.A.units + 1 + 1 + (g [d0]).depth < cLine
    omega
  · exact q p _ G np ((Ex.new np).trans e) (e _ _ upd_same) (AsSort.dpAll_ex ((Ex.new np).trans e) (AsSort.byKey_dp _ hd))
end
end AsLam

set_option maxHeartbeats 4000000
set_option autoImplicit false
namespace AsKit
open PySem PySem.Spec PyProof.Rows L2 AsSort
open Evl (Ex Ev EvT EvA)
open LamX (ExtN)
theorem seq_extN {K : PySem.W.Frag} {H H' : Hp} {a : Addr} {xs : List V} (e : ExtN H H') (s : SqL K H a xs) : SqL K H' a xs := by
  rcases s with (s | ⟨o, s⟩) | s
  · exact .inl (.inl (e _ _ s fun _ z => nomatch z))
  · exact .inl (.inr ⟨o, e _ _ s fun _ z => nomatch z⟩)
  · exact .inr s
theorem tup_extN {K : PySem.W.Frag} {H H' : Hp} {a : Addr} {xs : List V} (e : ExtN H H') (s : SqT K H a xs) : SqT K H' a xs := by
  rcases s with (s | ⟨o, s⟩) | s
  · exact .inl (.inl (e _ _ s fun _ z => nomatch z))
  · exact .inl (.inr ⟨o, e _ _ s fun _ z => nomatch z⟩)
  · exact .inr s
mutual
theorem dp_extN {K : PySem.W.Frag} {G G' : Hp} (e : ExtN G G') : ∀ {v : V} {d : PyData}, Dp K G v d → Dp K G' v d
  | _, _, .non => .non
  | _, _, .bl b => .bl b
  | _, _, .int i => .int i
  | _, _, .str x => .str x
  | _, _, .lst a b => .lst (seq_extN e a) (dpAll_extN e b)
  | _, _, .tup a b => .tup (tup_extN e a) (dpAll_extN e b)
theorem dpAll_extN {K : PySem.W.Frag} {G G' : Hp} (e : ExtN G G') : ∀ {vs : List V} {ds : List PyData}, DpAll K G vs ds → DpAll K G' vs ds
  | _, _, .nil => .nil
  | _, _, .cons a b => .cons (dp_extN e a) (dpAll_extN e b)
end
theorem extN_ex {H H' : Hp} (e : Ex H H') : ExtN H H' := ExtN.of e
/-- a def of the top, its code object at c -/
def Dfc (K : PySem.W.Frag) (mg : Str → Option Value) (x : Str) (st : Stmt) (c : Addr) : Prop := ∃ f fd, FunD K x x (defArgs st) (defBody st) (defScope st) [] [] f fd ∧ mg x = some (.ref f) ∧ fd.code = .ref c
theorem cl_ofC {P : Program} {w : World} {K : PySem.W.Frag} {mg : Str → Option Value} {base : Heap} {x : Str} {st : Stmt} {N ps : List Str} {k : Nat} {sp : Sp} {c : Addr} (D : Dfc K mg x st c) (S : FnScope N ps (defScope st)) (len : ∀ vs H Q E, sp vs H Q E → vs.length = ps.length)
    (hb : ∀ (kV doc pm : Value) (an : Option Addr) (cdv ct : Value) (us : List Value), us.length = ps.length → bindArgs (PySem.W.fnOf x x (defArgs st) (defBody st) (defScope st) .none kV doc pm an cdv ct) ⟨us, []⟩ = pure (ps.zip us))
    (hbody : ∀ (f : Addr) (A : Around) (outer : List Env) (s : Shared) (H : Hp) (vs : List V) (Q : VK) (E : XK), Room k (A.deeper (envOfC x (defScope st) s.heap.objs.size f (.ref c))) → sp vs H Q E →
      ∃ t, PSs (cxOf CX0 P w K mg base N x (defScope st) f (.ref c) A outer s H E).nox (defBody st) t ∧ t { nx := fun _ H' => Q .non H', rt := Q } (start N vs) H) : Cl P w K mg base (k + 1) x sp [] := by
  obtain ⟨f, fd, F, hm, hc⟩ := D
  refine ⟨f, fd, ps, [], ?_, hm, F.kp, F.bindsN hb, .nil⟩
  obtain ⟨oc, od, dV, kV, doc, pm, an, cdv, ct, osl, rfl, lk, hcd, _, _⟩ := F.ex
  have e : cdv = .ref c := hc
  subst e
  refine fn_of lk hcd S len fun A outer s H vs Q E hr h => ?_
  obtain ⟨t, z, q⟩ := hbody f A outer s H vs Q E hr h
  exact ⟨t, z.nox, q⟩
section
variable {K : PySem.W.Frag} {σ : L2.St} {H : Hp} {to te ta tb : TE}
def rSW : V → List V → Hp → VK → Prop := fun x xs H Q => ∃ a b, x = .str a ∧ xs = [.str b] ∧ Q (.bl (Txt.startswith a b)) H
theorem d_sw {a b : Str} (h : EvD K to σ H (.str a)) (h2 : EvD K te σ H (.str b)) : EvD K (tM1 rSW to te) σ H (.bool (Txt.startswith a b)) := fun H1 e Q q =>
  h H1 e _ fun v H2 x hd => by
    cases hd
    exact ⟨⟨a, rfl⟩, h2 H2 (e.trans x) _ fun w H3 y he => by
      cases he
      exact ⟨a, b, rfl, rfl, q _ H3 (x.trans y) (.bl _)⟩⟩
theorem e_lcL {tl : TE} {t : TT} {gt : TG} {vs : List Nat} {ds : List PyData} (f : PyData → Bool) (g : PyData → PyData) (h : EvD K tl σ H (.list ds)) (hz : ds.length ≤ 50000) (him : ∀ d ∈ ds, f d = true → imm (g d) = true) (ht : ∀ d ∈ ds, Turn K gt t te vs σ H d (f d) (g d)) (H1 : Hp) (a : Ex H H1) (Q : VK)
    (q : ∀ p acc H2, H1 p = none → Ex H1 H2 → H2 p = some (.lst acc) → DpAll K H2 acc ((ds.filter f).map g) → Q (.ref p) H2) : tLc (iList K tl) gt t te vs σ H1 Q := h H1 a _ fun v H2 x hd => by
  cases hd with
  | lst hs hx =>
    refine ⟨_, rfl, ⟨_, hs⟩, fun D hD => lc_list (Cd K H2 ds f g D) (cd_start hD) (fun i H' _ p => Evl.ex_l p.2.1 hs) (fun i y H' hi p => ?_) fun H' p => ?_⟩
    · have hi2 : i < ds.length := by rw [← dpAll_len hx]; exact (List.getElem?_eq_some_iff.mp hi).1
      have hd : ds[i]? = some ds[i] := List.getElem?_eq_getElem hi2
      exact ht ds[i] (List.getElem_mem hi2) y H' (a.trans (x.trans p.2.1)) (dp_ex p.2.1 (dpAll_get hx hi hd)) _ fun σ2 w h1 h2 => ⟨w, cd_turn him p hd hz h1 h2⟩
    · rw [dpAll_len hx] at p
      obtain ⟨p1, p2, acc, p3, p4⟩ := p
      rw [List.take_length] at p4
      exact q D acc H' (Evl.fresh_back x p1) (x.trans p2) p3 p4
end
end AsKit

namespace K26
open PySem PySem.Spec PyProof.Rows L2 AsSort AsKit
open Evl (Ex Ev EvT EvA)
open LamX (ExtN TabB)
open NdefX (TabsN NTab NScope nscope_by NF startF)
section
variable {P : Program} {w : World} {K : PySem.W.Frag} {mg : Str → Option Value} {base : Heap}
/-- the lambda of _law_deeds -/
def lamIn (st : Stmt) : Expr := match defBody st with
  | _ :: .For _ _ (_ :: .Assign _ (.Call _ _ (⟨_, e, _⟩ :: _) _) _ :: _) _ _ :: _ => e
  | _ => .Constant .none 0 ⟨0, 0, 0, 0⟩
def lamPar : Expr → Arguments
  | .Lambda p _ _ _ => p
  | _ => ⟨[], [], none, [], [], none, []⟩
def lamBody : Expr → Expr
  | .Lambda _ b _ _ => b
  | e => e
def lamScope : Expr → Scope
  | .Lambda _ _ s _ => s
  | _ => ⟨.function, [], false, false, []⟩
abbrev lamQ : Str := "_law_deeds.<locals>.<lambda>"
abbrev preK (ds : List PyData) : Prop := ∃ p : Str × Str, ds = [kD p] ∧ p.1.length ≤ 40000 ∧ p.2.length ≤ 40000
end
end K26

set_option maxHeartbeats 4000000
set_option autoImplicit false
/-! the law's menders. -/
namespace K26
open PySem PySem.Spec PyProof.Rows L2 AsSort AsKit
open Evl (Ex Ev EvT EvA)
abbrev sMender : Stmt := top 55
section
variable {P : Program} {w : World} {K : PySem.W.Frag} {mg : Str → Option Value} {base : Heap}
theorem allIn_app {y a b : Str} (h1 : allIn y a = true) (h2 : allIn y b = true) : allIn y (a ++ b) = true := by
  unfold allIn at *
  have e : (a ++ b).cps.toList = a.cps.toList ++ b.cps.toList := by
    show (a.cps ++ b.cps).toList = _
    exact Array.toList_append
  rw [e, List.all_append, h1, h2]
  rfl
theorem allIn_one {y : Str} {c : Nat} (h : c ∈ y.cps.toList) : allIn y ⟨#[c]⟩ = true := by
  unfold allIn
  show [c].all _ = true
  simpa using h
theorem allIn_nil (y : Str) : allIn y "" = true := by
  unfold allIn
  rw [show ("" : Str).cps.toList = [] from by decide +kernel]
  rfl
/-- a mender's kind -/
def GdM (y : Str) (p : Str × Str) : Prop := Gd y p ∧ p.2.length < p.1.length
abbrev nMender : List Str := ["row", "letters", "found", "turn", "l", "kind"]
theorem sc_mender : FnScope nMender ["row", "letters"] (defScope sMender) := ⟨rfl, rfl, rfl, by decide +kernel, rfl, by decide +kernel, by decide +kernel⟩
def spMender (K : PySem.W.Frag) : Sp := fun vs H Q _ => ∃ (r : Addr) (S : Addr × List Int) (y : Str), vs = [.ref r, .str y] ∧ Row K S H r ∧ PyData.strOk y = true ∧ 0 < y.length ∧ y.length ≤ 1000 ∧
  ∀ u (ps : List (Str × Str)) H', Dp K H' u (.tuple (ps.map kD)) → ps.Nodup → ps.length ≤ 4 → (∀ p ∈ ps, GdM y p) → Bt r H H' → Row K S H' r → Q u H'
/-- .. as it grows -/
def MdI (K : PySem.W.Frag) (S : Addr × List Int) (r : Addr) (y : Str) (H : Hp) (i : Nat) (σ' : L2.St) (H' : Hp) : Prop := ∃ (l : Addr) (x3 x4 x5 : Option V), σ' = [some (.ref r), some (.str y), some (.ref l), x3, x4, x5] ∧ Bt r H H' ∧ Row K S H' r ∧ l ≠ r ∧ ∃ (acc : List V) (ps : List (Str × Str)), H' l = some (.lst acc) ∧ DpAll K H' acc (ps.map kD) ∧ ps.Nodup ∧ ps.length ≤ i ∧ ∀ p ∈ ps, GdM y p
theorem c_mender (D : Df K mg "_law_mender" sMender) (hb : Bl mg) (C1 : Cl P w K mg base 1 "_law_taken" (spTaken K) []) (C2 : Cl P w K mg base 2 "_law_pick" (spPick K) []) (C3 : Cl P w K mg base 3 "_law_text" (spText K) []) : Cl P w K mg base 4 "_law_mender" (spMender K) [] := by
  refine cl_of D sc_mender (fun vs H Q E ⟨r, S, y, h, _⟩ => by rw [h]; rfl) (fun _ _ _ _ _ _ us hl => match us, hl with | [_, _], _ => rfl) fun f cdv A outer s H vs Q E hr h => ?_
  obtain ⟨r, S, y, rfl, hR, hso, hy, hy2, q⟩ := h
  have hu : (A.deeper (envOfC "_law_mender" (defScope sMender) s.heap.objs.size f cdv)).units + 65 < cLine := by have := hr.un; omega
  refine ⟨_, pss_cons (ps_set (i := 2) sc_mender.nd rfl (.inl rfl) (pe_lst pa_nil))
    (pss_cons (ps_for PassesOwn.never rfl (pi_range1 (by rfl) (hb _ (by decide +kernel)) (pa_cons (pe_op op_add pe_int (C8.pe_c C1 hr (by decide) (by rfl) (pa_cons (pv 0) (pa_cons pe_int pa_nil)))) pa_nil)) (pg_name (i := 3) sc_mender.nd rfl (.inl rfl))
      (pss_cons (ps_set (i := 4) sc_mender.nd rfl (.inl rfl) (pe_op op_add_str (C8.pe_c C3 hr (by decide) (by rfl) (pa_cons (pv 0) (pa_cons (pv 1) (pa_cons pe_int pa_nil)))) (C8.pe_c C2 hr (by decide) (by rfl) (pa_cons (pv 0) (pa_cons (pe_callTy (call_listS1 rfl) (by rfl) (hb _ (by decide +kernel)) (by decide +kernel) (pa_cons (pv 1) pa_nil)) pa_nil)))))
      (pss_cons (ps_set (i := 5) sc_mender.nd rfl (.inl rfl) (pe_tup (pa_cons (pv 4) (pa_cons (pe_ifExp (pt_cmpR op_gt (pe_lenS hb (pv 4)) pe_int (nomark _)) (C8.pe_c C3 hr (by decide) (by rfl) (pa_cons (pv 0) (pa_cons (pv 1) (pa_cons pe_int pa_nil)))) pe_str) pa_nil))))
      (pss_one (ps_set (i := 2) sc_mender.nd rfl (.inl rfl) (pe_op op_cat (pv 2) (pe_op op_rep (pe_lst (pa_cons (pv 5) pa_nil)) (pe_int1 hb (pe_cmpR (op_notInD hu) (pv 5) (pv 2) rfl)))))))))
    (pss_one (ps_ret (pe_tupQ hb (pv 2))))), ?_⟩
  refine ⟨Evl.sz_of (Nat.zero_le _), fun l nl => ?_⟩
  have nL := row_new (o := .lst []) hR nl
  refine ⟨.ref r, rfl, r, S, 4, rfl, nL.2.1, by omega, by omega, fun k H1 hk hb1 hR1 => ?_⟩
  have h1l : H1 l = some (.lst []) := hb1 l _ nL.1 upd_same
  refine ⟨1, (k : Int), rfl, rfl, 1 + (k : Int), rfl, by omega, by omega, ?_⟩
  refine for_range (lo := 0) (n := (1 + (k : Int)).toNat) (fun i σ' H' => MdI K S r y H i σ' H')
    ⟨l, _, _, _, rfl, nL.2.2.trans hb1, hR1, nL.1, [], [], h1l, .nil, List.nodup_nil, Nat.le_refl _, fun _ h => nomatch h⟩ (fun i σ' H' hi p => ?_) fun σ' H' p => ?_
  · obtain ⟨l, x3, x4, x5, rfl, p1, p2, lr, acc, ps, p3, p4, p5, p6, p7⟩ := p
    have okp : ∀ p ∈ ps, allIn y p.1 = true ∧ allIn y p.2 = true := fun p hp => ⟨(p7 p hp).1.2.2.1, (p7 p hp).1.2.2.2.1⟩
    have himm : immAll (ps.map kD) = true := immAll_of fun d hd => by
      obtain ⟨p, _, rfl⟩ := List.mem_map.mp hd
      rfl
    -- l = .. + ..
    refine ⟨.ref r, rfl, .str y, rfl, r, S, y, 2, rfl, p2, hy, hy2, by omega, fun a H2 ha ha2 hb2 hR2 => ?_⟩
    refine ⟨.ref r, rfl, .str y, rfl, y, rfl, Evl.sz_of (by omega), fun t nt => ?_⟩
    have nT := row_new (o := .lst (y.cps.toList.map fun c => V.str ⟨#[c]⟩)) hR2 nt
    have hyl : y.cps.toList.length = y.length := Array.length_toList
    refine ⟨r, S, t, _, rfl, nT.2.1, nT.1, Evl.sq_of upd_same, ?_, by rw [List.length_map]; omega, fun x H3 hx hb3 hR3 => ?_⟩
    · intro e
      have := congrArg List.length e
      rw [List.length_map, List.length_nil] at this
      omega
    obtain ⟨c, hc, rfl⟩ := List.mem_map.mp hx
    have e1 : (⟨#[c]⟩ : Str).length = 1 := rfl
    have hl1 : (a ++ ⟨#[c]⟩ : Str).length ≤ 3 := by rw [add_len, e1]; omega
    have hl2 : allIn y (a ++ ⟨#[c]⟩) = true := allIn_app ha2 (allIn_one hc)
    have hl3 : 0 < (a ++ ⟨#[c]⟩ : Str).length := by rw [add_len, e1]; omega
    refine ⟨a, ⟨#[c]⟩, rfl, rfl, Evl.sz_of (by rw [e1]; omega), ?_⟩
    dsimp only [gName]
    obtain ⟨w, ew⟩ : ∃ w, w = a ++ (⟨#[c]⟩ : Str) := ⟨_, rfl⟩
    rw [← ew] at hl1 hl2 hl3 ⊢
    have b03 : Bt r H' H3 := hb2.trans (nT.2.2.trans hb3)
    -- kind
    have rest : ∀ (b : Str) (H4 : Hp), Bt r H3 H4 → Row K S H4 r → b.length ≤ 1 → allIn y b = true → b.length < w.length → ∀ (Dn : Ends), (∀ σ' H', MdI K S r y H (i + 1) σ' H' → Dn.nx σ' H') →
        ∀ cc, H4 cc = none → tAsg (tOp rCat (tVar 2) (tOp rRep (tLst (tCons (tVar 5) tNil)) (tCB rInt1 (tCons (tOp (rNotInD K) (tVar 5) (tVar 2)) tNil)))) (gName 2) Dn [some (.ref r), some (.str y), some (.ref l), some (.int (0 + (i : Nat))), some (.str w), some (.ref cc)] (upd H4 cc (.tup [.str w, .str b])) := fun b H4 hb4 hR4 l1 l2 l3 Dn fin cc nc => by
      have h4l : H4 l = some (.lst acc) := (b03.trans hb4) l _ lr p3
      obtain ⟨G, eG⟩ : ∃ G, G = upd H4 cc (.tup [.str w, .str b]) := ⟨_, rfl⟩
      have nC := row_new (o := .tup [.str w, .str b]) hR4 nc
      rw [← eG] at nC
      have cl : l ≠ cc := fun e => by rw [e, nc] at h4l; cases h4l
      have hGl : G l = some (.lst acc) := by rw [eG, upd_ne cl]; exact h4l
      have bG : Bt r H' G := (b03.trans hb4).trans nC.2.2
      have hacc : DpAll K G acc (ps.map kD) := dpAll_tu (tu_bt p2 bG) himm p4
      have hcd : Dp K G (.ref cc) (kD (w, b)) := .tup (Evl.st_of (by rw [eG, upd_same])) (.cons (.str w) (.cons (.str b) .nil))
      rw [← eG]
      refine ⟨.ref l, rfl, .ref cc, rfl, Evl.sz_of (by show 1 ≤ 100000; decide), fun t2 nt2 => ?_⟩
      obtain ⟨G2, eG2⟩ : ∃ G2, G2 = upd G t2 (.lst [.ref cc]) := ⟨_, rfl⟩
      rw [← eG2]
      have x2 : Ex G G2 := by rw [eG2]; exact Ex.new nt2
      have hG2 : G2 t2 = some (.lst [.ref cc]) := by rw [eG2, upd_same]
      have c5 : At K [some (.ref r), some (.str y), some (.ref l), some (.int (0 + (i : Nat))), some (.str w), some (.ref cc)] G2 5 (kD (w, b)) := ⟨_, rfl, dp_ex x2 hcd⟩
      have c2 : At K [some (.ref r), some (.str y), some (.ref l), some (.int (0 + (i : Nat))), some (.str w), some (.ref cc)] G2 2 (.list (ps.map kD)) := ⟨_, rfl, .lst (Evl.sq_of (x2 _ _ hGl)) (dpAll_ex x2 hacc)⟩
      refine d_notIn (d_var c5) (d_var c2) (shaped_kind hso hl2 l2) (shaped_kinds hso okp) G2 (Ex.refl _) _ fun v H5 e5 hv => ?_
      cases hv
      obtain ⟨bb, ebb⟩ : ∃ bb, bb = ((ps.map kD).any fun z => PyData.eqv z (kD (w, b))) := ⟨_, rfl⟩
      rw [← ebb]
      refine .inr ⟨!bb, rfl, t2, _, [.ref cc], rfl, rfl, e5 _ _ hG2, by cases bb <;> decide, by cases bb <;> decide, by cases bb <;> exact Evl.sz_of (by show 1 * _ ≤ 100000; decide), fun t3 nt3 => ?_⟩
      have h5l : H5 l = some (.lst acc) := e5 _ _ (x2 _ _ hGl)
      have tl : l ≠ t3 := fun e => by rw [e, nt3] at h5l; cases h5l
      have hn : acc.length ≤ 4 := by
        rw [dpAll_len p4, List.length_map]
        omega
      refine ⟨l, t3, acc, _, rfl, rfl, by rw [upd_ne tl]; exact h5l, upd_same, ?_, fun t4 nt4 => ?_⟩
      · cases bb
        · exact Evl.sz_of (by show acc.length + 1 ≤ 100000; omega)
        · exact Evl.sz_of (by show acc.length + 0 ≤ 100000; omega)
      have x5 : Ex G (upd (upd H5 t3 (.lst (List.replicate (if (!bb) = true then (1 : Int) else 0).toNat [V.ref cc]).flatten)) t4 (.lst (acc ++ (List.replicate (if (!bb) = true then (1 : Int) else 0).toNat [V.ref cc]).flatten))) := ((x2.trans e5).trans (Ex.new nt3)).trans (Ex.new nt4)
      have n4 := row_new (o := .lst (acc ++ (List.replicate (if (!bb) = true then (1 : Int) else 0).toNat [V.ref cc]).flatten)) (((nC.2.1.ex x2).ex e5).ex (Ex.new (o := .lst (List.replicate (if (!bb) = true then (1 : Int) else 0).toNat [V.ref cc]).flatten) nt3)) nt4
      refine fin _ _ ⟨t4, _, _, _, rfl, (p1.trans bG).trans (bt_ex x5), n4.2.1, n4.1, ?_⟩
      have hacc5 := dpAll_ex x5 hacc
      have hcd5 := dp_ex x5 hcd
      cases bb with
      | true => exact ⟨acc ++ [], ps, upd_same, by rw [List.append_nil]; exact hacc5, p5, by omega, p7⟩
      | false =>
        have hnm : (w, b) ∉ ps := fun hmem => by
          have : ((ps.map kD).any fun z => PyData.eqv z (kD (w, b))) = true := List.any_eq_true.mpr ⟨_, List.mem_map_of_mem hmem, SeqAt.eqv_refl (kD (w, b)) (SeqAt.canLay_of_shaped (shaped_kind hso hl2 l2))⟩
          exact Bool.false_ne_true (ebb.trans this)
        refine ⟨acc ++ [.ref cc], ps ++ [(w, b)], upd_same, ?_, ?_, by rw [List.length_append]; show ps.length + 1 ≤ i + 1; omega, fun p hp => ?_⟩
        · rw [List.map_append]
          exact dpAll_snoc hcd5 hacc5
        · exact List.nodup_append.mpr ⟨p5, List.nodup_cons.mpr ⟨List.not_mem_nil, List.nodup_nil⟩, fun x hx y' hy' e => by rw [List.mem_singleton.mp hy'] at e; exact hnm (e ▸ hx)⟩
        · rcases List.mem_append.mp hp with hp | hp
          · exact p7 p hp
          · rw [List.mem_singleton.mp hp]
            refine ⟨⟨hl1, l1, hl2, l2, fun e => ?_⟩, l3⟩
            have e : w = b := e
            rw [e] at l3
            omega
    refine ⟨.str w, rfl, ?_⟩
    have tst := t_ofD (K := K) (σ := [some (.ref r), some (.str y), some (.ref l), some (.int (0 + (i : Nat))), some (.str w), x5]) (H := H3) (d_cmpI (g := fun i j => decide (j < i)) (d_lenS (x := w) (d_var (i := 4) ⟨_, rfl, .str w⟩) (by omega)) (d_int (i := 1)))
    refine tst H3 (Ex.refl _) _ fun H4 e4 => ?_
    by_cases h1 : (1 : Int) < (w.length : Int)
    · rw [if_pos (decide_eq_true h1)]
      refine ⟨.ref r, rfl, .str y, rfl, r, S, y, 1, rfl, hR3.ex e4, hy, hy2, by omega, fun b H5 hb5 hb5' bb5 hR5 => ?_⟩
      refine ⟨Evl.sz_of (by show 2 ≤ 100000; decide), fun cc nc => ?_⟩
      dsimp only
      exact rest b H5 ((bt_ex e4).trans bb5) hR5 hb5 hb5' (by omega) _ (fun _ _ h => h) cc nc
    · rw [if_neg (by simpa using h1)]
      refine ⟨Evl.sz_of (by show 2 ≤ 100000; decide), fun cc nc => ?_⟩
      dsimp only
      exact rest "" H4 (bt_ex e4) (hR3.ex e4) (by decide) (allIn_nil y) (by show 0 < _; exact hl3) _ (fun _ _ h => h) cc nc
  · obtain ⟨l, x3, x4, x5, rfl, p1, p2, lr, acc, ps, p3, p4, p5, p6, p7⟩ := p
    refine AsKit.s_ret (K := K) (d_tupOf (d_var ⟨_, rfl, .lst (Evl.sq_of p3) p4⟩)) fun u H2 e2 hu => q u ps H2 hu p5 (by omega) p7 (p1.trans (bt_ex e2)) (p2.ex e2)
end
end K26

set_option maxHeartbeats 4000000
set_option autoImplicit false
/-! max(xs, key=f), f a lambda whose promise is a number. -/
namespace AsMax
open PySem PySem.Spec PyProof.Rows L2 LamX NdefX AsSort
open Evl (Ex)
section
variable {X : Cx} {pins : List (Addr × Obj)} {σ : L2.St} {H : Hp} {s : Shared}
/-- f gives the i-th item its i-th number, from wherever it is called one call deeper -/
def Keys1 (X : Cx) (f : Value) (H : Hp) (xs : List V) (ks : List Int) : Prop :=
  ∀ (pins : List (Addr × Obj)) (σ : L2.St) (G : Hp) (z : Shared) (i : Nat) (x : V) (u : Value) (n : Int), Inv X pins σ G z → Ex H G → xs[i]? = some x → ks[i]? = some n → RelV x u →
    wpAny (model X.prog X.w) X.A.in1 (call f [u]) (fun u' z' => ∃ v G', Inv X pins σ G' z' ∧ RelV v u' ∧ Ex G G' ∧ v = .int n ∧ ∀ b o, z.heap.get? b = some o → G b = none → b ∉ X.fs → b ≠ X.env.locals → z'.heap.get? b = some o ∧ G' b = none) (fun _ _ => False) z
def btI (ks : List Int) (i j : Nat) : Bool := decide (ks.getD i 0 > ks.getD j 0)
theorem fp_to {G G' : Hp} {b : Addr} (h : FpOk X pins G b) (n : G' b = none) : FpOk X pins G' b := ⟨n, h.2⟩
/-- the i-th of the first n, the first one with the greatest number -/
theorem max_run {l f : Addr} {xs : List V} {ks : List Int} {Q : VK} (hh : X.A.handled = none) (I : Inv X pins σ H s) (hs : SqL X.K H l xs) (hk : Keys1 X (.ref f) H xs ks) (hl : ks.length = xs.length) (hn : 0 < xs.length)
    (q : ∀ x G, xs[argBest (btI ks) (xs.length - 1)]? = some x → Ex H G → Q x G) : wpAny (model X.prog X.w) X.A (call (.builtin "max") [.ref l] [(Str.ofString "key", .ref f)]) (EP X pins σ Q) X.xe s := by
  obtain ⟨its, r, ⟨o, n, ho, hc, hsl, hd⟩, hz⟩ := I.list hs
  refine call_max_walkK (wpAny_pyIter_list (items := its.toArray) ⟨o, ho, hc, n, hd⟩ ?_)
  obtain ⟨it, eit⟩ : ∃ it, it = s.heap.objs.size := ⟨_, rfl⟩
  rw [← eit]
  obtain ⟨s2, e2⟩ : ∃ s2 : Shared, s2 = { s with heap := s.heap.push { cls := .type "list_iterator", data := .fields #[.ref l, .int 0 0] } } := ⟨_, rfl⟩
  rw [← e2]
  have kp : ∀ b o, s.heap.get? b = some o → s2.heap.get? b = some o := fun b o e => by rw [e2]; exact Heap.get?_push_of_some _ e
  have I2 : Inv X pins σ H s2 := by rw [e2]; exact I.kept (t' := s.toks) (fun b o e => Heap.get?_push_of_some _ e)
  have nit : H it = none := I.hok.fresh (by rw [eit]; exact Nat.le_refl _)
  have hit : s2.heap.get? it = some { cls := .type "list_iterator", data := .fields #[.ref l, .int 0 0] } := by rw [e2, eit]; exact Heap.get?_push_size _ rfl
  have fit : FpOk X pins H it := I.fpOk (by rw [eit]; exact Nat.le_refl _) nit
  have hsz2 : s2.heap.objs.size = it + 1 := by rw [e2, eit]; exact size_push' _ _
  have hlt : l < it := by rw [eit]; exact Heap.lt_size ho
  obtain ⟨S, eS⟩ : ∃ S, S = s2.heap.objs.size := ⟨_, rfl⟩
  have nS : H S = none := I2.hok.fresh (by rw [eS]; exact Nat.le_refl _)
  have fS : FpOk X pins H S := I2.fpOk (by rw [eS]; exact Nat.le_refl _) nS
  have hne : it ≠ S := by rw [eS, hsz2]; exact Nat.ne_of_lt (Nat.lt_succ_self _)
  have hlS : l ≠ S := by rw [eS, hsz2]; exact Nat.ne_of_lt (Nat.lt_succ_of_lt hlt)
  refine ⟨it, [it, l], [it], (fun a b => a = b), xs.length, (fun i v => ∃ x, xs[i]? = some x ∧ RelV x v), (fun i z => z.heap.IsListIter it l i ∧ ∃ its : List Value, Vals xs its ∧ z.heap.IsList l its.toArray), (fun z => ∃ G, Inv X pins σ G z ∧ Ex H G ∧ G it = none ∧ G S = none), (fun i k _ => ∃ t, k = .int (ks.getD i 0) t), btI ks, rfl, ?W, ⟨⟨_, hit, rfl, rfl⟩, its, r, _, kp _ _ ho, hc, n, hd⟩, ?fp, hn, ?K, ⟨H, I2, Ex.refl H, nit, nS⟩, ?fin⟩
  case fp =>
    intro b hb
    rw [hsz2]
    rcases List.mem_cons.mp hb with e | hb
    · rw [e]
      exact Nat.lt_succ_self _
    · rw [List.mem_singleton.mp hb]
      exact Nat.lt_succ_of_lt hlt
  case fin =>
    rintro v z ⟨x, hx, rv⟩ ⟨G, J, e, _, _⟩
    exact ⟨x, G, J, rv, q x G hx e⟩
  case W =>
    refine ⟨fun b hb => by rw [List.mem_singleton.mp hb]; exact List.mem_cons_self .., fun _ => rfl, fun _ _ _ a b => a.trans b, ?_, ?_, ?_, ?_⟩
    · rintro i z h' tk ⟨⟨o1, a1, a2, a3⟩, its', r', o2, b1, b2, b3⟩ ht k
      exact ⟨⟨o1, k it (List.mem_cons_self ..) _ a1, a2, a3⟩, its', r', o2, k l (List.mem_cons_of_mem _ (List.mem_cons_self ..)) _ b1, b2, b3⟩
    · rintro i z Q' E' hi ⟨h1, its', r', h2⟩ qq
      obtain ⟨u, hu, ru⟩ := r'.get (List.getElem?_eq_getElem hi)
      refine wpAny_pyNext_list_item h1 h2 (x := u) (by rw [List.getElem?_toArray]; exact hu) fun h' hit' sb => ?_
      obtain ⟨o2, b1, b2, b3⟩ := h2
      refine qq u _ ⟨_, List.getElem?_eq_getElem hi, ru⟩ ⟨hit', its', r', o2, (sb.2 l (Nat.ne_of_lt hlt)).trans b1, b2, b3⟩ ⟨fun b o hb e => ?_, rfl, rfl, rfl, Nat.le_refl _⟩
      exact (sb.2 b (fun e => hb (by rw [e]; exact List.mem_singleton.mpr rfl))).trans e
    · rintro z Q' E' ⟨h1, its', r', h2⟩ qq
      have hlen : its'.length = xs.length := r'.length.symm
      refine wpAny_pyNext_list_end hh h1 h2 (by rw [List.getElem?_toArray]; exact List.getElem?_eq_none (by omega)) fun h' eb => qq _ ⟨fun b o hb e => ?_, rfl, rfl, rfl, Nat.le_refl _⟩
      exact eb b o (fun e => hb (by rw [e]; exact List.mem_singleton.mpr rfl)) e
    · rintro i z Q' E' ⟨h1, _⟩ qq
      exact wpAny_pyIter_listiter h1 qq
  case K =>
    rw [← eS]
    refine ⟨?_, fun i k z z' h _ => h, ?_, ?_⟩
    · rintro z z' ⟨G, J, e, n1, n2⟩ M
      obtain ⟨zh, zg, zd, zt, zo⟩ := z
      obtain ⟨zh', zg', zd', zt', zo'⟩ := z'
      obtain ⟨m1, m2, m3, m4, m5⟩ := M
      dsimp only at m1 m2 m3 m4
      subst m2 m3 m4
      refine ⟨G, J.turnedL (h' := zh') (t' := zt') (ch := [S, it]) (fun b o hb e => m1 b o hb e) (fun b hb => ?_), e, n1, n2⟩
      rcases List.mem_cons.mp hb with rfl | hb
      · exact fp_to fS n2
      · rw [List.mem_singleton.mp hb]
        exact fp_to fit n1
    · rintro i v z oS Q' E' hi ⟨x, hx, rv⟩ ⟨G, J, e, n1, n2⟩ ⟨⟨o1, a1, a2, a3⟩, its', r', h2⟩ hS qq
      have hkn : ks[i]? = some (ks.getD i 0) := by
        rw [List.getD_eq_getElem?_getD, List.getElem?_eq_getElem (by omega)]
        rfl
      refine wpAny_mono (hk pins σ G z i x v _ J e hx hkn rv) (fun u' z' hq => ?_) fun _ _ hF => hF.elim
      obtain ⟨v', G', J', rv', e', rfl, kk⟩ := hq
      obtain ⟨t, rfl⟩ := rv'
      obtain ⟨its2, r2, ⟨o2, n2', b1, b2, b3, b4⟩, _⟩ := J'.list (Evl.ex_l (e.trans e') hs)
      exact qq _ z' ⟨G', J', e.trans e', (kk it _ a1 n1 fit.2.2.1 fit.2.1).2, (kk S _ hS n2 fS.2.2.1 fS.2.1).2⟩ ⟨⟨o1, (kk it _ a1 n1 fit.2.2.1 fit.2.1).1, a2, a3⟩, its2, r2, o2, b1, b2, n2', b4⟩ (kk S _ hS n2 fS.2.2.1 fS.2.1).1 ⟨t, rfl⟩ fun _ _ h => h
    · rintro i j ki kj z Q' E' _ h1 h2 qq
      exact PySem.CmpOf.ints_gt (P := fun i v => ∃ t, v = .int (ks.getD i 0) t) (fun i => ks.getD i 0) (fun i v h => h) i j _ _ _ _ _ h1 h2 qq
/-- a lambda without captured names as such a key -/
theorem keys1_lam {k : Nat} {f : Addr} {F : NF} {e : Expr} {x : Str} {pre : List PyData → Prop} {g : List PyData → PyData} {H : Hp} {xs : List V} {ds : List PyData} {ks : List Int} (L : AsLam.LOk X.prog X.w X.K X.mg X.base C8.CX0 k f F e [x] [] (fun _ => AsSort.spP X.K pre g)) (hr : Room (k + 1) X.A)
    (hf : H f = some (AsLam.LamO f F e)) (hc : H F.c = some (CodeO F.c F.qual)) (hcl : F.cl = []) (hd : DpAll X.K H xs ds) (hp : ∀ d ∈ ds, pre [d]) (hk : (ds.map fun d => g [d]) = ks.map PyData.int) : Keys1 X (.ref f) H xs ks := by
  intro pins σ G z i v u n I ex hx hn ru
  have hkn : (ds.map fun d => g [d])[i]? = some (.int n) := by rw [hk, List.getElem?_map, hn]; rfl
  rw [List.getElem?_map] at hkn
  cases hi : ds[i]? with
  | none => rw [hi] at hkn; cases hkn
  | some d0 =>
    rw [hi] at hkn
    have ed : g [d0] = .int n := Option.some.inj hkn
    have hv : Dp X.K G v d0 := AsSort.dp_ex ex (AsSort.dpAll_get hd hx hi)
    have E0' : Env0 X.prog X.w X.K X.mg X.base X.A.in1 X.stack z G := I.env0.in1
    have C : CellsAt F.cl [] [] z.heap G := by
      rw [hcl]
      exact ⟨rfl, fun _ _ q => (nomatch q), fun _ _ _ q => (nomatch q), fun i y q => (nomatch q)⟩
    refine wpAny_call (codeAny_mono (L.run X.A.in1 X.stack z G [u] [v] [] (fun v G' => Ex G G' ∧ Dp X.K G' v (.int n)) C8.E0 hr.in1 E0' (ex _ _ hf) (ex _ _ hc) C (.cons ru .nil) ⟨[d0], .cons hv .nil, hp d0 (List.mem_of_getElem? hi), fun w' G' e' h' => ⟨e', by rw [← ed]; exact h'⟩⟩) fun r s' hq => ?_)
    cases r with
    | error e => exact hq.elim
    | ok fl =>
      cases fl with
      | ret u =>
        obtain ⟨v', H', os, bare, un, hok, rr, e', hd'⟩ := hq
        cases hd'
        obtain ⟨hh, g', d', t', os'⟩ := s'
        obtain rfl : os' = z.os := os
        refine ⟨_, H', I.call (h' := hh) (g' := g') (d' := d') (t' := t') (ch := []) un hok bare (fun b z => absurd z (by simp)), rr, e', rfl, fun b o hb hn hfs hl => ⟨un.keep b o hb hn (fun w => (List.mem_cons.mp (I.stkSub b w)).elim hl hfs) List.not_mem_nil, un.free b o hb hn List.not_mem_nil⟩⟩
      | next => exact False.elim hq
      | brk => exact False.elim hq
      | cont => exact False.elim hq
/-- max(xs, key=f) -/
def rMaxLam (K : PySem.W.Frag) (mk : Addr → NF) (e : Expr) (pre : List PyData → Prop) (g : List PyData → PyData) : List V → List V → Hp → VK → Prop := fun vs zs H Q => ∃ (l f c' : Addr) (xs : List V) (ds : List PyData) (ks : List Int), vs = [.ref l] ∧ zs = [.ref f] ∧ H f = some (AsLam.LamO f (mk c') e) ∧ H c' = some (CodeO c' (mk c').qual) ∧
  SqL K H l xs ∧ DpAll K H xs ds ∧ (∀ d ∈ ds, pre [d]) ∧ (ds.map fun d => g [d]) = ks.map PyData.int ∧ 0 < ds.length ∧
  ∀ x d G, ds[argBest (btI ks) (ds.length - 1)]? = some d → Ex H G → Dp K G x d → Q x G
theorem cr_maxLam {k : Nat} {mk : Addr → NF} {e : Expr} {x : Str} {pre : List PyData → Prop} {g : List PyData → PyData} (L : ∀ f c', AsLam.LOk X.prog X.w X.K X.mg X.base C8.CX0 k f (mk c') e [x] [] (fun _ => AsSort.spP X.K pre g)) (hr : Room (k + 1) X.A) (hcl : ∀ c', (mk c').cl = []) (hc : ∀ c', (mk c').c = c') :
    CallRK X (.builtin "max") [Str.ofString "key"] (rMaxLam X.K mk e pre g) := by
  intro pins s σ H vs zs us ws Q I r rz h
  obtain ⟨l, f, c', xs, ds, ks, rfl, rfl, hf, hco, hs, hd, hp, hk, hn, q⟩ := h
  obtain rfl := Vals.ref1 r
  obtain ⟨w1, rfl, e1⟩ := vals1 rz
  obtain rfl : w1 = Value.ref f := e1
  have hl : xs.length = ds.length := AsSort.dpAll_len hd
  have hkl : ks.length = ds.length := by
    have := congrArg List.length hk
    rw [List.length_map, List.length_map] at this
    exact this.symm
  refine max_run hr.hd I hs (keys1_lam (L f c') hr hf (by rw [hc]; exact hco) (hcl c') hd hp hk) (by omega) (by omega) fun x G hx e => ?_
  rw [hl] at hx
  have hlt : argBest (btI ks) (ds.length - 1) < ds.length := by
    have := (List.getElem?_eq_some_iff.mp hx).1
    omega
  exact q x _ G (List.getElem?_eq_getElem hlt) e (AsSort.dp_ex e (AsSort.dpAll_get hd hx (List.getElem?_eq_getElem hlt)))
end
end AsMax

set_option maxHeartbeats 4000000
set_option autoImplicit false
/-! menders, told without the program. -/
namespace K26
open PySem PySem.Spec PyProof.Rows L2 AsSort AsKit AsMax
def lensK (ks : List (Str × Str)) : List Int := ks.map fun k => (k.1.length : Int)
def bestI (ks : List (Str × Str)) : Nat := argBest (btI (lensK ks)) (ks.length - 1)
def bestK (ks : List (Str × Str)) : Str × Str := ks.getD (bestI ks) ("", "")
theorem best_props (bt : Nat → Int) (b2 : Nat → Nat → Bool) (hb : ∀ i j, b2 i j = decide (bt i > bt j)) : ∀ k, argBest b2 k ≤ k ∧ (∀ j, j ≤ k → bt j ≤ bt (argBest b2 k)) ∧ ∀ j, j < argBest b2 k → bt j < bt (argBest b2 k)
  | 0 => ⟨Nat.le_refl _, fun j h => by rw [Nat.le_zero.mp h]; exact Int.le_refl _, fun j h => absurd h (Nat.not_lt_zero _)⟩
  | k + 1 => by
    obtain ⟨h1, h2, h3⟩ := best_props bt b2 hb k
    show (if b2 (k + 1) (argBest b2 k) = true then k + 1 else argBest b2 k) ≤ k + 1 ∧ (∀ j, j ≤ k + 1 → bt j ≤ bt (if b2 (k + 1) (argBest b2 k) = true then k + 1 else argBest b2 k)) ∧ ∀ j, j < (if b2 (k + 1) (argBest b2 k) = true then k + 1 else argBest b2 k) → bt j < bt (if b2 (k + 1) (argBest b2 k) = true then k + 1 else argBest b2 k)
    by_cases h : b2 (k + 1) (argBest b2 k) = true
    · rw [if_pos h]
      rw [hb] at h
      have h := of_decide_eq_true h
      refine ⟨Nat.le_refl _, fun j hj => ?_, fun j hj => ?_⟩
      · rcases Nat.lt_or_eq_of_le hj with hj | rfl
        · have := h2 j (by omega)
          omega
        · omega
      · have := h2 j (by omega)
        omega
    · rw [if_neg h]
      rw [hb] at h
      have h : ¬ bt (k + 1) > bt (argBest b2 k) := fun z => h (decide_eq_true z)
      refine ⟨by omega, fun j hj => ?_, h3⟩
      rcases Nat.lt_or_eq_of_le hj with hj | rfl
      · exact h2 j (by omega)
      · omega
theorem bestI_lt {ks : List (Str × Str)} (h : 0 < ks.length) : bestI ks < ks.length := by
  have := (best_props (fun i => (lensK ks).getD i 0) (btI (lensK ks)) (fun i j => rfl) (ks.length - 1)).1
  unfold bestI
  omega
theorem bestK_at {ks : List (Str × Str)} (h : 0 < ks.length) : ks[bestI ks]? = some (bestK ks) := by
  unfold bestK
  rw [List.getD_eq_getElem?_getD, List.getElem?_eq_getElem (bestI_lt h)]
  rfl
theorem lensK_at {ks : List (Str × Str)} {i : Nat} {k : Str × Str} (h : ks[i]? = some k) : (lensK ks).getD i 0 = (k.1.length : Int) := by
  unfold lensK
  rw [List.getD_eq_getElem?_getD, List.getElem?_map, h]
  rfl
theorem bestK_mem {ks : List (Str × Str)} (h : 0 < ks.length) : bestK ks ∈ ks := List.mem_of_getElem? (bestK_at h)
/-- the first with the greatest length -/
theorem bestK_first {ks : List (Str × Str)} (h : 0 < ks.length) {m : Int} (hm : m ∈ lensK ks) (hx : ∀ y ∈ lensK ks, y ≤ m) : (ks.filter fun k => decide ((k.1.length : Int) = m))[0]? = some (bestK ks) := by
  obtain ⟨p1, p2, p3⟩ := best_props (fun i => (lensK ks).getD i 0) (btI (lensK ks)) (fun i j => rfl) (ks.length - 1)
  have hb := bestK_at h
  have eb : (lensK ks).getD (bestI ks) 0 = ((bestK ks).1.length : Int) := lensK_at hb
  have em : ((bestK ks).1.length : Int) = m := by
    have l1 : ((bestK ks).1.length : Int) ≤ m := hx _ (List.mem_map.mpr ⟨_, bestK_mem h, rfl⟩)
    obtain ⟨k, hk, e⟩ := List.mem_map.mp hm
    obtain ⟨i, hi⟩ := List.mem_iff_getElem?.mp hk
    have hlt := (List.getElem?_eq_some_iff.mp hi).1
    have l2 := p2 i (by omega)
    have l2 : (lensK ks).getD i 0 ≤ (lensK ks).getD (bestI ks) 0 := l2
    rw [eb, lensK_at hi] at l2
    omega
  rw [← List.head?_eq_getElem?, List.head?_filter]
  refine List.find?_eq_some_iff_getElem.mpr ⟨by rw [em]; exact decide_eq_true rfl, bestI ks, bestI_lt h, ?_, fun j hj => ?_⟩
  · have := hb
    rw [List.getElem?_eq_getElem (bestI_lt h)] at this
    exact Option.some.inj this
  · have l3 := p3 j hj
    have hjl : j < ks.length := Nat.lt_trans hj (bestI_lt h)
    have l3 : (lensK ks).getD j 0 < (lensK ks).getD (bestI ks) 0 := l3
    rw [eb, lensK_at (List.getElem?_eq_getElem hjl)] at l3
    rw [Bool.not_eq_true', decide_eq_false_iff_not]
    omega
def fitsAt (ps : List (Str × Str)) (z : Str) (p : Nat) : List (Str × Str) := ps.filter (hitB z p)
def placeOf (ps : List (Str × Str)) (z : Str) : Option Nat := (List.range z.length).find? fun p => decide (fitsAt ps z p ≠ [])
def nextK (ps : List (Str × Str)) (z : Str) : Option (Nat × (Str × Str)) := (placeOf ps z).map fun p => (p, bestK (fitsAt ps z p))
def nextD (ps : List (Str × Str)) (z : Str) : PyData := match nextK ps z with
  | none => .none
  | some (p, k) => dD p k
/-- the kinds that a mender may have over letters y -/
def Men (y : Str) (ps : List (Str × Str)) : Prop := ∀ p ∈ ps, GdM y p
theorem next_fit {ps : List (Str × Str)} {z : Str} {p : Nat} {k : Str × Str} (h : nextK ps z = some (p, k)) : p < z.length ∧ k ∈ ps ∧ hitB z p k = true ∧ 0 < (fitsAt ps z p).length ∧ k = bestK (fitsAt ps z p) ∧ placeOf ps z = some p := by
  unfold nextK at h
  obtain ⟨q, hq, e⟩ := Option.map_eq_some_iff.mp h
  cases e
  have h1 : p ∈ List.range z.length := List.mem_of_find?_eq_some hq
  have h2 := List.find?_some hq
  have h3 : fitsAt ps z p ≠ [] := of_decide_eq_true h2
  have h4 := List.length_pos_iff.mpr h3
  have h5 := bestK_mem h4
  obtain ⟨h6, h7⟩ := List.mem_filter.mp h5
  exact ⟨List.mem_range.mp h1, h6, h7, h4, rfl, hq⟩
theorem hit_len {z : Str} {p : Nat} {k : Str × Str} (h : hitB z p k = true) : p + k.1.length ≤ z.length ∨ k.1.length = 0 := by
  have h := of_decide_eq_true h
  have hl := congrArg List.length h
  rw [List.length_take, List.length_drop] at hl
  have e1 : z.cps.toList.length = z.length := Array.length_toList
  have e2 : k.1.cps.toList.length = k.1.length := Array.length_toList
  omega
theorem bh_len {z : Str} {p : Nat} {k : Str × Str} (h : p + k.1.length ≤ z.length) : (bhS z p k).length + k.1.length = z.length + k.2.length := by
  have e : ∀ s : Str, s.length = s.cps.toList.length := fun s => Array.length_toList.symm
  unfold bhS
  rw [add_len, add_len, e (cutS z none (some (p : Int))), e (cutS z (some ((p + k.1.length : Nat) : Int)) none), cut_to, cut_from, List.length_take, List.length_drop]
  have := e z
  omega
theorem allIn_sub {y a b : Str} (h : allIn y a = true) (hs : ∀ c ∈ b.cps.toList, c ∈ a.cps.toList) : allIn y b = true := by
  unfold allIn at *
  rw [List.all_eq_true] at *
  exact fun c hc => h c (hs c hc)
theorem bh_in {y z : Str} {p : Nat} {k : Str × Str} (h1 : allIn y z = true) (h2 : allIn y k.2 = true) : allIn y (bhS z p k) = true := by
  unfold bhS
  refine allIn_app (allIn_app (allIn_sub h1 fun c hc => ?_) h2) (allIn_sub h1 fun c hc => ?_)
  · rw [cut_to] at hc
    exact List.mem_of_mem_take hc
  · rw [cut_from] at hc
    exact List.mem_of_mem_drop hc
theorem next_less {y : Str} {ps : List (Str × Str)} {z : Str} {p : Nat} {k : Str × Str} (hm : Men y ps) (h : nextK ps z = some (p, k)) : (bhS z p k).length < z.length := by
  obtain ⟨_, h2, h3, _⟩ := next_fit h
  have g := (hm k h2).2
  have l := bh_len (z := z) (p := p) (k := k) ((hit_len h3).resolve_right (by omega))
  omega
/-- done again and again, so often at most -/
def mendN (ps : List (Str × Str)) : Nat → Str → List (Nat × (Str × Str)) × Str
  | 0, z => ([], z)
  | n + 1, z => match nextK ps z with
    | none => ([], z)
    | some (p, k) => ((p, k) :: (mendN ps n (bhS z p k)).1, (mendN ps n (bhS z p k)).2)
theorem mend_none {ps : List (Str × Str)} {z : Str} (h : nextK ps z = none) : ∀ n, mendN ps n z = ([], z)
  | 0 => rfl
  | n + 1 => by
    show (match nextK ps z with | none => ([], z) | some (p, k) => ((p, k) :: (mendN ps n (bhS z p k)).1, (mendN ps n (bhS z p k)).2)) = _
    rw [h]
theorem mend_some {ps : List (Str × Str)} {z : Str} {p : Nat} {k : Str × Str} (h : nextK ps z = some (p, k)) (n : Nat) : mendN ps (n + 1) z = ((p, k) :: (mendN ps n (bhS z p k)).1, (mendN ps n (bhS z p k)).2) := by
  show (match nextK ps z with | none => ([], z) | some (p, k) => ((p, k) :: (mendN ps n (bhS z p k)).1, (mendN ps n (bhS z p k)).2)) = _
  rw [h]
def mend (ps : List (Str × Str)) (z : Str) : List (Nat × (Str × Str)) × Str := mendN ps (z.length + 1) z
/-- on the way: rs is done, now is the text -/
def OnWay (ps : List (Str × Str)) (z : Str) (rs : List (Nat × (Str × Str))) (now : Str) : Prop := ∃ m, now.length < m ∧ mend ps z = (rs ++ (mendN ps m now).1, (mendN ps m now).2)
theorem way_start (ps : List (Str × Str)) (z : Str) : OnWay ps z [] z := ⟨z.length + 1, Nat.lt_succ_self _, rfl⟩
theorem way_step {y : Str} {ps : List (Str × Str)} {z now : Str} {rs : List (Nat × (Str × Str))} {p : Nat} {k : Str × Str} (hm : Men y ps) (w : OnWay ps z rs now) (h : nextK ps now = some (p, k)) : OnWay ps z (rs ++ [(p, k)]) (bhS now p k) := by
  obtain ⟨m, h1, h2⟩ := w
  have l := next_less hm h
  obtain ⟨m, rfl⟩ : ∃ n, m = n + 1 := ⟨m - 1, by omega⟩
  refine ⟨m, by omega, ?_⟩
  rw [h2, mend_some h, List.append_assoc]
  rfl
theorem way_end {ps : List (Str × Str)} {z now : Str} {rs : List (Nat × (Str × Str))} (w : OnWay ps z rs now) (h : nextK ps now = none) : mend ps z = (rs, now) := by
  obtain ⟨m, h1, h2⟩ := w
  rw [h2, mend_none h, List.append_nil]
theorem mend_fix {ps : List (Str × Str)} {z : Str} (h : nextK ps z = none) : mend ps z = ([], z) := mend_none h _
def rowD (rs : List (Nat × (Str × Str))) : List PyData := rs.map fun r => dD r.1 r.2
theorem imm_rowD (rs : List (Nat × (Str × Str))) : immAll (rowD rs) = true := immAll_of fun d h => by
  obtain ⟨k, _, rfl⟩ := List.mem_map.mp h
  rfl
end K26

set_option maxHeartbeats 4000000
set_option autoImplicit false
/-! what is a mender; the deed done next. -/
namespace K26
open PySem PySem.Spec PyProof.Rows L2 AsSort AsKit AsMax
open Evl (Ex Ev EvT EvA)
open LamX (ExtN TabB)
open NdefX (TabsN NTab NScope nscope_by NF startF)
abbrev sCheckMender : Stmt := top 25
abbrev sNextDeed : Stmt := top 36
abbrev sMendingOf : Stmt := top 37
abbrev sCheckLM : Stmt := top 42
abbrev sMended : Stmt := top 43
section
variable {P : Program} {w : World} {K : PySem.W.Frag} {mg : Str → Option Value} {base : Heap}
abbrev nCheckMender : List Str := ["letters", "mender", "left", "right"]
theorem sc_check_mender : FnScope nCheckMender ["letters", "mender"] (defScope sCheckMender) := ⟨rfl, rfl, rfl, by decide +kernel, rfl, by decide +kernel, by decide +kernel⟩
/-- letters and a mender -/
def OkM (y : Str) (ps : List (Str × Str)) : Prop := PyData.strOk y = true ∧ y.length ≤ 1000 ∧ isLetS y = true ∧ ps.length ≤ 12 ∧ ps.Nodup ∧ Men y ps
abbrev spCheckMender (K : PySem.W.Frag) : Sp := spP K (fun ds => ∃ y ps, ds = [.str y, .tuple (ps.map kD)] ∧ OkM y ps) non1
theorem c_check_mender (D : Df K mg "check_mender" sCheckMender) (hb : Bl mg) (C1 : Cl P w K mg base 5 "check_kinds" (spCheckKinds K) []) : Cl P w K mg base 6 "check_mender" (spCheckMender K) [] := by
  refine cl_of D sc_check_mender (len_sp fun ds ⟨y, ps, h, _⟩ => by rw [h]; rfl) (fun _ _ _ _ _ _ us hl => match us, hl with | [_, _], _ => rfl) fun f cdv A outer s H vs Q E hr h => ?_
  obtain ⟨ds, hd, ⟨y, ps, rfl, o0, o1, o2, o5, o6, o7⟩, q⟩ := h
  obtain ⟨v, v2, rfl, h0, h1⟩ := dp2 hd
  refine ⟨_, pss_cons (ps_expr (C8.pe_c C1 hr (by decide) (by rfl) (pa_cons (pv 0) (pa_cons (pv 1) pa_nil))))
    (pss_one (ps_if (pt_val (pe_anyL (by rfl) hb (pe_lc (own := [("left", 2), ("right", 3)]) (g := gTup K 2 (gCons (gName 2) (gCons (gName 3) gNil))) rfl sc_check_mender.nd (pi_tup (pv 1)) (blkOk_by (N := nCheckMender) (sc := defScope sCheckMender) (own := [("left", 2), ("right", 3)]) (by decide +kernel))
      (fun _ _ _ _ _ => pg_tup rfl (pgs_cons (pg_name (i := 2) sc_check_mender.nd rfl (.inl rfl) (.inr rfl)) (pgs_cons (pg_name (i := 3) sc_check_mender.nd rfl (.inl rfl) (.inr rfl)) pgs_nil))) (fun _ _ _ _ _ => pts_nil) (fun _ _ _ _ _ => pe_cmpR op_le (pe_lenS hb (pv 2)) (pe_lenS hb (pv 3)) (nomark _))))) pss_never pss_nil)), ?_⟩
  have a0 : At K (start nCheckMender [v, v2]) H 0 (.str y) := ⟨_, rfl, h0⟩
  have a1 : At K (start nCheckMender [v, v2]) H 1 (.tuple (ps.map kD)) := ⟨_, rfl, h1⟩
  refine q_exprD (K := K) (d_call (ds_cons (d_var a0) (ds_cons (d_var a1) ds_nil)) ⟨y, _, rfl, tx_kinds fun p hp => ⟨(o7 p hp).1.1, (o7 p hp).1.2.1⟩, lot_ok o5 o6 fun p hp => (o7 p hp).1⟩) fun H1 e1 => ?_
  have tst : EvD K (tCB (rAny K) (tCons (tLc (iTup K (tVar 1)) (gTup K 2 (gCons (gName 2) (gCons (gName 3) gNil))) tYes (tOp (rI0 fun i j => .bl (decide (i ≤ j))) (tCB rLenTx (tCons (tVar 2) tNil)) (tCB rLenTx (tCons (tVar 3) tNil))) [2, 3]) tNil)) (start nCheckMender [v, v2]) H1 (.bool ((ps.map fun p => decide ((p.1.length : Int) ≤ (p.2.length : Int))).any id)) := by
    refine d_any (d_eqTo (d_lcT (fun _ => true) (fun d => .bool (decide (((pairOf d).1.length : Int) ≤ ((pairOf d).2.length : Int)))) (d_var (a1.mono e1)) (by rw [List.length_map]; omega) (fun d hd _ => rfl) fun d hd x H2 e2 hx k hk => ?_) ?_)
    · obtain ⟨p, hp, rfl⟩ := List.mem_map.mp hd
      have l1 := (o7 p hp).1.1
      have l2 := (o7 p hp).1.2.1
      have l1 : (pairOf (kD p)).1.length ≤ 3 := l1
      have l2 : (pairOf (kD p)).2.length ≤ 1 := l2
      exact g_two hx fun va vb ha hb2 => hk _ rfl (fun H3 e3 Q q => q H3 (Ex.refl H3)) fun _ => d_cmpI (g := fun i j => decide (i ≤ j)) (d_lenS (d_var ⟨_, rfl, ha⟩) (by omega)) (d_lenS (d_var ⟨_, rfl, hb2⟩) (by omega))
    · rw [List.filter_eq_self.mpr fun _ _ => rfl, List.map_map, List.map_map]
      rfl
  have hn : (ps.map fun p => decide ((p.1.length : Int) ≤ (p.2.length : Int))).any id = false := by
    rw [List.any_eq_false]
    intro b hb2
    obtain ⟨p, hp, rfl⟩ := List.mem_map.mp hb2
    have := (o7 p hp).2
    simp only [id, decide_eq_true_eq]
    omega
  rw [hn] at tst
  exact Evl.s_if (t_ofB tst) (fun z => by cases z) fun _ H2 e2 => q .non H2 (e1.trans e2) .non
theorem sc_check_lm : FnScope ["letters", "mender"] ["letters", "mender"] (defScope sCheckLM) := ⟨rfl, rfl, rfl, by decide +kernel, rfl, by decide +kernel, by decide +kernel⟩
theorem c_check_lm (D : Df K mg "check_letters_and_mender" sCheckLM) (C1 : Cl P w K mg base 2 "check_letters" (spCheckLetters K) []) (C2 : Cl P w K mg base 6 "check_mender" (spCheckMender K) []) : Cl P w K mg base 7 "check_letters_and_mender" (spCheckMender K) [] := by
  refine cl_of D sc_check_lm (len_sp fun ds ⟨y, ps, h, _⟩ => by rw [h]; rfl) (fun _ _ _ _ _ _ us hl => match us, hl with | [_, _], _ => rfl) fun f cdv A outer s H vs Q E hr h => ?_
  obtain ⟨ds, hd, ⟨y, ps, rfl, o⟩, q⟩ := h
  obtain ⟨v, v2, rfl, h0, h1⟩ := dp2 hd
  refine ⟨_, pss_cons (ps_expr (C8.pe_c C1 hr (by decide) (by rfl) (pa_cons (pv 0) pa_nil))) (pss_one (ps_expr (C8.pe_c C2 hr (by decide) (by rfl) (pa_cons (pv 0) (pa_cons (pv 1) pa_nil))))), ?_⟩
  have a0 : At K (start ["letters", "mender"] [v, v2]) H 0 (.str y) := ⟨_, rfl, h0⟩
  have a1 : At K (start ["letters", "mender"] [v, v2]) H 1 (.tuple (ps.map kD)) := ⟨_, rfl, h1⟩
  refine q_exprD (K := K) (d_call (ds_cons (d_var a0) ds_nil) ⟨.str y, rfl, fun x e => by cases e; have := o.2.1; omega, o.2.2.1⟩) fun H1 e1 => ?_
  exact s_exprD (K := K) (d_call (ds_cons (d_var (a0.mono e1)) (ds_cons (d_var (a1.mono e1)) ds_nil)) ⟨y, ps, rfl, o⟩) fun H2 e2 => q .non H2 (e1.trans e2) .non
/-- the lambda of next_deed -/
def lamNx (st : Stmt) : Expr := match defBody st with
  | .For _ _ (_ :: .If _ (.Assign _ (.Call _ _ (⟨_, e, _⟩ :: _) _) _ :: _) _ _ :: _) _ _ :: _ => e
  | _ => .Constant .none 0 ⟨0, 0, 0, 0⟩
abbrev lamN : Expr := lamNx sNextDeed
abbrev lamQN : Str := "next_deed.<locals>.<lambda>"
def lamFN (c' : Addr) : NF := ⟨"<lambda>", lamQN, lamPar lamN, [], lamScope lamN, [], c'⟩
theorem sc_lamN : NScope ["kind"] ["kind"] [] (lamScope lamN) := nscope_by (by decide +kernel)
def lenD : PyData → PyData
  | .tuple [.str l, .str _] => .int l.length
  | _ => .none
theorem lamN_ok (hb : Bl mg) (f c' : Addr) : AsLam.LOk P w K mg base C8.CX0 1 f (lamFN c') (lamBody lamN) ["kind"] [] (fun _ => spP K preK (one lenD)) := by
  refine AsLam.lok_of sc_lamN (fun pm ctv us hl => match us, hl with | [_], _ => rfl) (fun _ => len_sp fun ds ⟨p, h, _⟩ => by rw [h]; rfl) fun A outer s H vs ws Q E hr hw h => ?_
  obtain ⟨ds, hd, ⟨p, rfl, h1, h2⟩, q⟩ := h
  obtain ⟨v, rfl, h0⟩ := dp1 hd
  obtain rfl := List.eq_nil_of_length_eq_zero hw
  refine ⟨_, pe_lenS hb (pe_ix ix_tup (pv 0) pe_int (fun _ _ => rfl)), ?_⟩
  have c0 : At K (startF ["kind"] [v] []) H 0 (.tuple [.str p.1, .str p.2]) := ⟨_, rfl, h0⟩
  exact d_lenS (d_ixT (i := 0) (d_var c0) (d_int (i := 0)) rfl) (by omega) H (Ex.refl H) Q q
abbrev nNextDeed : List Str := ["mender", "text", "place", "kinds", "kind", "left", "right"]
theorem sc_next_deed : FnScope nNextDeed ["mender", "text"] (defScope sNextDeed) := ⟨rfl, rfl, rfl, by decide +kernel, rfl, by decide +kernel, by decide +kernel⟩
def spNextDeed (K : PySem.W.Frag) (Ts : List NTab) : Sp := fun vs H Q _ => ∃ (v : V) (ps : List (Str × Str)) (z : Str), vs = [v, .str z] ∧ Dp K H v (.tuple (ps.map kD)) ∧ z.length ≤ 400 ∧ ps.length ≤ 60 ∧ (∀ p ∈ ps, p.1.length ≤ 40 ∧ p.2.length ≤ 40) ∧ TabsN Ts H ∧
  ∀ (u : V) (H' : Hp), ExtN H H' → TabsN Ts H' → Dp K H' u (nextD ps z) → Q u H'
theorem find_range {p : Nat → Bool} : ∀ {n i : Nat}, i < n → p i = true → (∀ j, j < i → p j = false) → (List.range n).find? p = some i := fun {n i} h1 h2 h3 => by
  refine List.find?_eq_some_iff_getElem.mpr ⟨h2, i, by rw [List.length_range]; exact h1, by rw [List.getElem_range], fun j hj => ?_⟩
  rw [List.getElem_range, h3 j hj]
  rfl
theorem lens_dp (ks : List (Str × Str)) : ((ks.map kD).map fun d => one lenD [d]) = (lensK ks).map PyData.int := by
  unfold lensK
  rw [List.map_map, List.map_map]
  rfl
theorem c_next_deed {c T : Addr} {Ts : List NTab} (hTs : (T, fun _ _ => lamQN) ∈ Ts) (huT : ∀ p ∈ Ts, p.1 = T → p.2 = fun _ _ => lamQN) (D : Dfc K mg "next_deed" sNextDeed c) (hb : Bl mg) (hmx : mg "max" = none) (TB : TabB base mg c T) : Cl P w K mg base 4 "next_deed" (spNextDeed K Ts) [] := by
  refine cl_ofC D sc_next_deed (fun vs H Q E ⟨v, ps, z, h, _⟩ => by rw [h]; rfl) (fun _ _ _ _ _ _ us hl => match us, hl with | [_, _], _ => rfl) fun f A outer s H vs Q E hr h => ?_
  obtain ⟨v, ps, z, rfl, h0, hz, hp, hps, hT, q⟩ := h
  refine ⟨_, pss_cons (ps_for PassesOwn.never rfl (pi_range1 (by rfl) (hb _ (by decide +kernel)) (pa_cons (pe_lenS hb (pv 1)) pa_nil)) (pg_name (i := 2) sc_next_deed.nd rfl (.inr rfl))
      (pss_cons (ps_setLcn (i := 3) 4 sc_next_deed.nd (pi_tup (pv 0)) (fun _ _ _ _ _ => pts_one (pt_cmpR op_eq (pe_slice sl_str (pv 1) (po_some (pv 2)) (po_some (pe_op op_add (pv 2) (pe_lenS hb (pe_ix (r := rIxT K) ix_tup (pv 4) pe_int (fun _ _ => rfl)))))) (pe_ix (r := rIxT K) ix_tup (pv 4) pe_int (fun _ _ => rfl)) (nomark _))) (fun _ _ _ _ _ => pv 4) (fun _ _ _ _ _ => pg_name sc_next_deed.nd rfl (.inl rfl)) (blkOk_by (N := nNextDeed) (sc := defScope sNextDeed) (own := [("kind", 4)]) (by decide +kernel)) rfl rfl rfl (sw_true rfl rfl rfl (by decide +kernel)))
      (pss_one (ps_if (pt_cmpR op_gt (pe_lenQ hb (pv 3)) pe_int (nomark _))
        (pss_cons (ps_asg (pe_callBK (cr_maxLam (mk := lamFN) (e := lamBody lamN) (fun f c' => lamN_ok hb f c') (hr.mono (by decide)) (fun _ => rfl) (fun _ => rfl)) (by rfl) hmx (by decide +kernel) (pa_cons (pv 3) pa_nil)
            (pk_cons (AsLam.pe_lam (T := Ts) (nm := fun _ _ => lamQN) TB rfl hTs rfl huT (fun y hy e => nomatch (sc_lamN.free y hy e))) pk_nil)) (pg_tup rfl (pgs_cons (pg_name (i := 5) sc_next_deed.nd rfl (.inl rfl)) (pgs_cons (pg_name (i := 6) sc_next_deed.nd rfl (.inl rfl)) pgs_nil))))
        (pss_one (ps_ret (pe_tup (pa_cons (pv 2) (pa_cons (pv 5) (pa_cons (pv 6) pa_nil))))))) pss_nil))))
    (pss_one (ps_ret pe_non)), ?_⟩
  have hz2 : z.cps.toList.length = z.length := Array.length_toList
  have a1 : ∀ (x2 x3 x4 x5 x6 : Option V) (H' : Hp), At K [some v, some (.str z), x2, x3, x4, x5, x6] H' 1 (.str z) := fun _ _ _ _ _ _ => ⟨_, rfl, .str z⟩
  refine Evl.q_forR1 (n := (z.length : Int)) (ds_ev (K := K) (ds_cons (d_lenS (d_var (a1 _ _ _ _ _ _)) (by omega)) ds_nil)) (by omega)
    (fun i σ' H' => ∃ x2 x3 x4 x5 x6, σ' = [some v, some (.str z), x2, x3, x4, x5, x6] ∧ Ex H H' ∧ ∀ j, j < i → fitsAt ps z j = [])
    (fun H1 e1 => ⟨_, _, _, _, _, rfl, e1, fun j hj => absurd hj (Nat.not_lt_zero _)⟩) (fun i σ' H' hi hW => ?_) fun σ' H' hW => ?_
  · obtain ⟨x2, x3, x4, x5, x6, rfl, eN, hno⟩ := hW
    have hi2 : i < z.length := by omega
    have hv : Dp K H' v (.tuple (ps.map kD)) := dp_ex eN h0
    refine AsKit.q_asg (K := K) (d_eqTo (d_lcT (fun d => decide (cutS z (some (i : Int)) (some ((i + (pairOf d).1.length : Nat) : Int)) = (pairOf d).1)) id (d_var ⟨_, rfl, hv⟩) (by rw [List.length_map]; omega) (fun d hd _ => ?_) fun d hd x H2 e2 hx k hk => hk _ rfl (t_ofD (K := K) ?_) fun _ => d_var ⟨_, rfl, hx⟩)
      (congrArg PyData.list (show (((ps.map kD).filter _).map id) = (fitsAt ps z i).map kD from ?_))) fun v3 H1 e1 h3 => ?_
    · obtain ⟨p, _, rfl⟩ := List.mem_map.mp hd
      rfl
    · obtain ⟨p, hp1, rfl⟩ := List.mem_map.mp hd
      have l1 := (hps p hp1).1
      have l2 := d_ixT (i := 0) (ds := [.str p.1, .str p.2]) (d := .str p.1) (d_var (K := K) (σ := (wipe [some v, some (.str z), some (.int (i : Int)), x3, x4, x5, x6] [4]).set 4 (some x)) (H := H2) (i := 4) ⟨_, rfl, hx⟩) (d_int (i := 0)) rfl
      exact d_eqS (d_slS (d_var ⟨_, rfl, .str z⟩) (p_some (d_var ⟨_, rfl, .int _⟩)) (p_some (d_eqTo (d_arI (g := fun i j => i + j) (d_var ⟨_, rfl, .int _⟩) (d_lenS l2 (by omega))) (show PyData.int ((i : Int) + (p.1.length : Int)) = .int ((i + p.1.length : Nat) : Int) by rw [Int.natCast_add]))) (by omega)) l2
    · rw [List.map_id, List.filter_map]
      exact congrArg (List.map kD) (List.filter_congr fun p _ => hit_cut z i p)
    · cases h3 with
      | lst hq hx =>
        rename_i l3 xs3
        have d3 : Dp K H1 (.ref l3) (.list ((fitsAt ps z i).map kD)) := .lst hq hx
        have hfl : (fitsAt ps z i).length ≤ ps.length := List.length_filter_le _ _
        refine Evl.s_if (b := decide ((0 : Int) < (((fitsAt ps z i).map kD).length : Int))) (t_ofD (K := K) (d_cmpI (g := fun i j => decide (j < i)) (d_lenL (d_var ⟨_, rfl, d3⟩)) d_int)) (fun hb1 H2 e2 => ?_) fun hb1 H2 e2 => ?_
        · have hpos : 0 < (fitsAt ps z i).length := by
            have := of_decide_eq_true hb1
            rw [List.length_map] at this
            omega
          have hT2 : TabsN Ts H2 := ((hT.ext eN).ext e1).ext e2
          refine ⟨.ref l3, rfl, hT2, fun fl cl G n1 _ t3 _ n5 n6 => ?_⟩
          have d4 : Dp K G (.ref l3) (.list ((fitsAt ps z i).map kD)) := dp_extN n1 (dp_ex e2 d3)
          cases d4 with
          | lst hq4 hx4 =>
            refine ⟨l3, fl, cl, _, _, lensK (fitsAt ps z i), rfl, rfl, n5, n6, hq4, hx4, fun d hd => ?_, lens_dp _, by rw [List.length_map]; exact hpos, fun x d G2 hdx e3 hdp => ?_⟩
            · obtain ⟨p, hp1, rfl⟩ := List.mem_map.mp hd
              have z1 := hps p (List.mem_filter.mp hp1).1
              exact ⟨p, rfl, by omega, by omega⟩
            · rw [List.length_map, List.getElem?_map, show (fitsAt ps z i)[argBest (btI (lensK (fitsAt ps z i))) ((fitsAt ps z i).length - 1)]? = some (bestK (fitsAt ps z i)) from bestK_at hpos] at hdx
              have hdx := Option.some.inj hdx
              subst hdx
              refine g_two (K := K) (a := .str (bestK (fitsAt ps z i)).1) (b := .str (bestK (fitsAt ps z i)).2) hdp fun va vb ha hb2 => ?_
              refine AsKit.s_ret (K := K) (d_tup (ds_cons (d_var ⟨_, rfl, .int _⟩) (ds_cons (d_var ⟨_, rfl, ha⟩) (ds_cons (d_var ⟨_, rfl, hb2⟩) ds_nil))) (by show 3 ≤ 100000; decide)) fun u H5 e5 hu => ?_
              have xN : ExtN H H5 := (extN_ex eN).trans ((extN_ex e1).trans ((extN_ex e2).trans (n1.trans ((extN_ex e3).trans (extN_ex e5)))))
              refine q u H5 xN ((t3.ext e3).ext e5) ?_
              have pl : placeOf ps z = some i := by
                refine find_range hi2 (decide_eq_true (List.length_pos_iff.mp hpos)) fun j hj => ?_
                exact decide_eq_false fun hn => hn (hno j hj)
              unfold nextD nextK
              rw [pl]
              exact hu
        · refine ⟨_, _, _, _, _, rfl, (eN.trans e1).trans e2, fun j hj => ?_⟩
          rcases Nat.lt_or_eq_of_le (Nat.le_of_lt_succ hj) with hj | rfl
          · exact hno j hj
          · have := of_decide_eq_false hb1
            rw [List.length_map] at this
            exact List.length_eq_zero_iff.mp (by omega)
  · obtain ⟨x2, x3, x4, x5, x6, rfl, eN, hno⟩ := hW
    have en : ((z.length : Int)).toNat = z.length := by omega
    rw [en] at hno
    refine q .non H' (extN_ex eN) (hT.ext eN) ?_
    have pl : placeOf ps z = none := by
      refine List.find?_eq_none.mpr fun j hj => ?_
      have := hno j (List.mem_range.mp hj)
      rw [decide_eq_true_eq]
      exact fun hn => hn this
    unfold nextD nextK
    rw [pl]
    exact .non
end
end K26

set_option maxHeartbeats 4000000
set_option autoImplicit false
/-! mended, mending. -/
namespace K26
open PySem PySem.Spec PyProof.Rows L2 AsSort AsKit AsMax
open Evl (Ex Ev EvT EvA)
open LamX (ExtN TabB)
open NdefX (TabsN NTab NScope nscope_by NF startF)
section
variable {P : Program} {w : World} {K : PySem.W.Frag} {mg : Str → Option Value} {base : Heap}
theorem tabs_lst {Ts : List NTab} {H : Hp} {l : Addr} {xs : List V} {o : HO} (h : H l = some (.lst xs)) (t : TabsN Ts H) : TabsN Ts (upd H l o) := fun p hp => by
  obtain ⟨ps, t1, t2, t3⟩ := t p hp
  refine ⟨ps, (upd_ne (fun z => by rw [z, h] at t1; cases t1)).trans t1, t2, fun pos cv hc => ?_⟩
  obtain ⟨c, e1, e2⟩ := t3 pos cv hc
  refine ⟨c, e1, (upd_ne (fun z => ?_)).trans e2⟩
  rw [z, h] at e2
  have e3 := Option.some.inj e2
  unfold LamX.CodeO at e3
  cases e3
theorem extN_mut {H H' : Hp} {l : Addr} {o : HO} (e : ExtN H H') (n : H l = none) : ExtN H (upd H' l o) := fun b u hb nt => (upd_ne (fun z => by rw [z, n] at hb; cases hb)).trans (e b u hb nt)
theorem imm_nextD (ps : List (Str × Str)) (z : Str) : imm (nextD ps z) = true := by
  unfold nextD
  cases nextK ps z with
  | none => rfl
  | some q => rfl
abbrev nMendingOf : List Str := ["mender", "text", "row", "now", "deed"]
theorem sc_mending_of : FnScope nMendingOf ["mender", "text"] (defScope sMendingOf) := ⟨rfl, rfl, rfl, by decide +kernel, rfl, by decide +kernel, by decide +kernel⟩
def spMendingOf (K : PySem.W.Frag) (Ts : List NTab) : Sp := fun vs H Q _ => ∃ (v : V) (y : Str) (ps : List (Str × Str)) (z : Str), vs = [v, .str z] ∧ Dp K H v (.tuple (ps.map kD)) ∧ z.length ≤ 400 ∧ ps.length ≤ 60 ∧ Men y ps ∧ TabsN Ts H ∧
  ∀ (u : V) (H' : Hp), ExtN H H' → TabsN Ts H' → Dp K H' u (.tuple [.tuple (rowD (mend ps z).1), .str (mend ps z).2]) → Q u H'
/-- on the way, as the program holds it -/
def MoI (K : PySem.W.Frag) (Ts : List NTab) (H : Hp) (v : V) (z : Str) (ps : List (Str × Str)) (l : Addr) (m : Nat) (σ' : L2.St) (H' : Hp) : Prop := ∃ (now : Str) (rs : List (Nat × (Str × Str))) (acc : List V) (u : V), σ' = [some v, some (.str z), some (.ref l), some (.str now), some u] ∧ m = now.length ∧ now.length ≤ z.length ∧ ExtN H H' ∧ TabsN Ts H' ∧ H' l = some (.lst acc) ∧ DpAll K H' acc (rowD rs) ∧ Dp K H' u (nextD ps now) ∧ OnWay ps z rs now ∧ rs.length + now.length ≤ z.length
theorem c_mending_of {Ts : List NTab} (D : Df K mg "mending_of" sMendingOf) (hb : Bl mg) (C1 : Cl P w K mg base 4 "next_deed" (spNextDeed K Ts) []) (C2 : Cl P w K mg base 1 "text_behind" (spTextBehind K) []) : Cl P w K mg base 5 "mending_of" (spMendingOf K Ts) [] := by
  refine cl_of D sc_mending_of (fun vs H Q E ⟨v, y, ps, z, h, _⟩ => by rw [h]; rfl) (fun _ _ _ _ _ _ us hl => match us, hl with | [_, _], _ => rfl) fun f cdv A outer s H vs Q E hr h => ?_
  obtain ⟨v, y, ps, z, rfl, h0, hz, hp, hm, hT, q⟩ := h
  refine ⟨_, pss_cons (ps_set (i := 2) sc_mending_of.nd rfl (.inl rfl) (pe_lst pa_nil))
    (pss_cons (ps_set (i := 3) sc_mending_of.nd rfl (.inl rfl) (pv 1))
    (pss_cons (ps_set (i := 4) sc_mending_of.nd rfl (.inl rfl) (C8.pe_c C1 hr (by decide) (by rfl) (pa_cons (pv 0) (pa_cons (pv 3) pa_nil))))
    (pss_cons (ps_while PassesOwn.never (pt_cmp (pc_notN (pv 4)))
      (pss_cons (ps_expr (pe_bm PySem.F.plainAttrs_list PySem.F.slot_list_append PySem.F.type_list_append mt_append (pv 2) (pa_cons (pv 4) pa_nil)))
      (pss_cons (ps_set (i := 3) sc_mending_of.nd rfl (.inl rfl) (C8.pe_c C2 hr (by decide) (by rfl) (pa_cons (pv 3) (pa_cons (pv 4) pa_nil))))
      (pss_one (ps_set (i := 4) sc_mending_of.nd rfl (.inl rfl) (C8.pe_c C1 hr (by decide) (by rfl) (pa_cons (pv 0) (pa_cons (pv 3) pa_nil))))))))
    (pss_one (ps_ret (pe_tup (pa_cons (pe_tupQ hb (pv 2)) (pa_cons (pv 3) pa_nil)))))))), ?_⟩
  have lens : ∀ p ∈ ps, p.1.length ≤ 40 ∧ p.2.length ≤ 40 := fun p hp => by
    have := (hm p hp).1
    exact ⟨by have := this.1; omega, by have := this.2.1; omega⟩
  refine ⟨Evl.sz_of (Nat.zero_le _), fun l nl => ?_⟩
  refine ⟨.str z, rfl, v, rfl, .str z, rfl, v, ps, z, rfl, dp_ex (Ex.new nl) h0, hz, hp, lens, hT.ext (Ex.new nl), fun u H1 e1 t1 hu => ?_⟩
  have e01 : ExtN H H1 := (extN_ex (Ex.new nl)).trans e1
  have hl1 : H1 l = some (.lst []) := e1 _ _ upd_same (fun ps z => nomatch z)
  refine Evl.q_while (MoI K Ts H v z ps l)
    z.length ⟨z, [], [], u, rfl, rfl, Nat.le_refl _, e01, t1, hl1, .nil, hu, way_start ps z, by simp⟩ fun m σ' H' hw => ?_
  obtain ⟨now, rs, acc, u, rfl, rfl, hn, eN, tN, hl, hacc, hu, hway, hrs⟩ := hw
  have hv : Dp K H' v (.tuple (ps.map kD)) := dp_extN eN h0
  cases hk : nextK ps now with
  | none =>
    have ed : nextD ps now = .none := by unfold nextD; rw [hk]
    rw [ed] at hu
    cases hu
    refine ⟨false, fun H1 a Q q => ⟨.non, rfl, false, by simp, q H1 (Ex.refl _)⟩, (fun z => nomatch z), fun _ H2 e2 => ?_⟩
    have a2 : At K [some v, some (.str z), some (.ref l), some (.str now), some .non] H2 2 (.list (rowD rs)) := ⟨_, rfl, .lst (Evl.sq_of (e2 _ _ hl)) (dpAll_ex e2 hacc)⟩
    refine AsKit.s_ret (K := K) (d_tup (ds_cons (d_tupOf (d_var a2)) (ds_cons (d_var (i := 3) ⟨_, rfl, .str now⟩) ds_nil)) (by show 2 ≤ 100000; decide)) fun r H3 e3 hr3 => ?_
    refine q r H3 (eN.trans ((extN_ex e2).trans (extN_ex e3))) ((tN.ext e2).ext e3) ?_
    rw [way_end hway hk]
    exact hr3
  | some pk =>
    obtain ⟨p, k⟩ := pk
    have ed : nextD ps now = dD p k := by unfold nextD; rw [hk]
    rw [ed] at hu
    obtain ⟨f1, f2, f3, f4, f5, f6⟩ := next_fit hk
    have hless := next_less hm hk
    have hl12 := lens k f2
    have hu' := hu
    unfold dD at hu'
    cases hu' with
    | tup hs hx =>
      rename_i a xs
      refine ⟨true, fun H1 e Q q => ⟨.ref a, rfl, true, by simp, q H1 (Ex.refl _)⟩, fun _ H1 e1 => ?_, (fun z => nomatch z)⟩
      have hl' : H1 l = some (.lst acc) := e1 _ _ hl
      have acn : acc.length ≤ 400 := by
        rw [dpAll_len hacc]
        unfold rowD
        rw [List.length_map]
        omega
      refine ⟨fun σ2 H2 => ∃ m', m' < now.length ∧ MoI K Ts H v z ps l m' σ2 H2, fun _ _ h => h, .ref l, rfl, .inl ⟨rfl, acc, Evl.sq_of hl'⟩, .ref a, rfl, l, acc, .ref a, rfl, rfl, hl', Evl.sz_lt (by omega), ?_⟩
      have ex1 : ExtN H (upd H1 l (.lst (acc ++ [.ref a]))) := extN_mut (eN.trans (extN_ex e1)) nl
      have hacc2 : DpAll K (upd H1 l (.lst (acc ++ [.ref a]))) (acc ++ [.ref a]) (rowD (rs ++ [(p, k)])) := by
        unfold rowD
        rw [List.map_append]
        exact dpAll_snoc (dp_tu (tu_lst hl') rfl (dp_ex e1 hu)) (dpAll_tu (tu_lst hl') (imm_rowD rs) (dpAll_ex e1 hacc))
      have hu2 : Dp K (upd H1 l (.lst (acc ++ [.ref a]))) (.ref a) (dD p k) := dp_tu (tu_lst hl') rfl (dp_ex e1 hu)
      have t2 : TabsN Ts (upd H1 l (.lst (acc ++ [.ref a]))) := tabs_lst hl' (tN.ext e1)
      refine AsKit.q_asg (K := K) (d_call (ds_cons (d_var (i := 3) ⟨_, rfl, .str now⟩) (ds_cons (d_var (i := 4) ⟨_, rfl, hu2⟩) ds_nil)) ⟨now, p, k, rfl, by omega, hl12.1, hl12.2⟩) fun v3 H3 e3 h3 => ?_
      cases h3
      have x3 : ExtN H H3 := ex1.trans (extN_ex e3)
      refine ⟨v, rfl, .str _, rfl, v, ps, bhS now p k, rfl, dp_extN x3 h0, by omega, hp, lens, t2.ext e3, fun u4 H4 e4 t4 hu4 => ?_⟩
      exact ⟨(bhS now p k).length, hless, bhS now p k, rs ++ [(p, k)], acc ++ [.ref a], u4, rfl, rfl, by omega, x3.trans e4, t4, e4 _ _ (e3 _ _ upd_same) (fun ps z => nomatch z), dpAll_extN e4 (dpAll_ex e3 hacc2), hu4, way_step hm hway hk, by rw [List.length_append]; show rs.length + 1 + _ ≤ _; omega⟩
abbrev nMended : List Str := ["letters", "mender", "text", "_", "end"]
theorem sc_mended : FnScope nMended ["letters", "mender", "text"] (defScope sMended) := ⟨rfl, rfl, rfl, by decide +kernel, rfl, by decide +kernel, by decide +kernel⟩
abbrev nMending : List Str := ["letters", "mender", "text", "row", "_"]
def spMend (K : PySem.W.Frag) (Ts : List NTab) (g : List (Nat × (Str × Str)) × Str → PyData) : Sp := fun vs H Q _ => ∃ (v : V) (y : Str) (ps : List (Str × Str)) (z : Str), vs = [.str y, v, .str z] ∧ Dp K H v (.tuple (ps.map kD)) ∧ OkM y ps ∧ z.length ≤ 40 ∧ allIn y z = true ∧ TabsN Ts H ∧
  ∀ (u : V) (H' : Hp), ExtN H H' → TabsN Ts H' → Dp K H' u (g (mend ps z)) → Q u H'
abbrev endD (r : List (Nat × (Str × Str)) × Str) : PyData := .str r.2
abbrev rowDD (r : List (Nat × (Str × Str)) × Str) : PyData := .tuple (rowD r.1)
theorem c_mended {Ts : List NTab} (D : Df K mg "mended" sMended) (C1 : Cl P w K mg base 7 "check_letters_and_mender" (spCheckMender K) []) (C2 : Cl P w K mg base 3 "check_text" (spCheckText K) []) (C3 : Cl P w K mg base 5 "mending_of" (spMendingOf K Ts) []) : Cl P w K mg base 8 "mended" (spMend K Ts endD) [] := by
  refine cl_of D sc_mended (fun vs H Q E ⟨v, y, ps, z, h, _⟩ => by rw [h]; rfl) (fun _ _ _ _ _ _ us hl => match us, hl with | [_, _, _], _ => rfl) fun f cdv A outer s H vs Q E hr h => ?_
  obtain ⟨v, y, ps, z, rfl, h0, ok, hz, hin, hT, q⟩ := h
  refine ⟨_, pss_cons (ps_expr (C8.pe_c C1 hr (by decide) (by rfl) (pa_cons (pv 0) (pa_cons (pv 1) pa_nil))))
    (pss_cons (ps_expr (C8.pe_c C2 hr (by decide) (by rfl) (pa_cons (pv 0) (pa_cons (pv 2) pa_nil))))
    (pss_cons (ps_asg (C8.pe_c C3 hr (by decide) (by rfl) (pa_cons (pv 1) (pa_cons (pv 2) pa_nil))) (pg_tup rfl (pgs_cons (pg_name (i := 3) sc_mended.nd rfl (.inl rfl)) (pgs_cons (pg_name (i := 4) sc_mended.nd rfl (.inl rfl)) pgs_nil))))
    (pss_one (ps_ret (pv 4))))), ?_⟩
  have a0 : At K (start nMended [.str y, v, .str z]) H 0 (.str y) := ⟨_, rfl, .str y⟩
  have a1 : At K (start nMended [.str y, v, .str z]) H 1 (.tuple (ps.map kD)) := ⟨_, rfl, h0⟩
  have a2 : At K (start nMended [.str y, v, .str z]) H 2 (.str z) := ⟨_, rfl, .str z⟩
  refine q_exprD (K := K) (d_call (ds_cons (d_var a0) (ds_cons (d_var a1) ds_nil)) ⟨y, ps, rfl, ok⟩) fun H1 e1 => ?_
  refine q_exprD (K := K) (d_call (ds_cons (d_var (a0.mono e1)) (ds_cons (d_var (a2.mono e1)) ds_nil)) ⟨y, .str z, rfl, fun x e => by cases e; omega, ?_⟩) fun H2 e2 => ?_
  · show withinS y z 40 = true
    unfold withinS
    rw [hin, decide_eq_true (by omega : (z.length : Int) ≤ 40)]
    rfl
  refine ⟨v, rfl, .str z, rfl, v, y, ps, z, rfl, dp_ex (e1.trans e2) h0, by omega, by have := ok.2.2.2.1; omega, ok.2.2.2.2.2, (hT.ext e1).ext e2, fun u H3 e3 t3 hu => ?_⟩
  refine g_two (K := K) hu fun va vb ha hb2 => ?_
  refine ⟨vb, rfl, q vb H3 ((extN_ex (e1.trans e2)).trans e3) t3 hb2⟩
end
end K26

set_option maxHeartbeats 4000000
set_option autoImplicit false
/-! min(xs, key=f), f a def of the program whose promise is data. -/
namespace AsMin
open PySem PySem.Spec PyProof.Rows L2 LamX NdefX AsSort AsMax
open Evl (Ex)
section
variable {X : Cx} {pins : List (Addr × Obj)} {σ : L2.St} {H : Hp} {s : Shared}
/-- f gives the i-th item its i-th data, from wherever it is called one call deeper; what nobody knows stays -/
def KeysD (X : Cx) (f : Value) (H : Hp) (xs : List V) (kz : List PyData) : Prop :=
  ∀ (pins : List (Addr × Obj)) (σ : L2.St) (G : Hp) (z : Shared) (i : Nat) (x : V) (u : Value) (d : PyData), Inv X pins σ G z → Ex H G → xs[i]? = some x → kz[i]? = some d → RelV x u →
    wpAny (model X.prog X.w) X.A.in1 (call f [u]) (fun u' z' => ∃ v G', Inv X pins σ G' z' ∧ RelV v u' ∧ Ex G G' ∧ Dp X.K G' v d ∧ ∀ b o, z.heap.get? b = some o → G b = none → b ∉ X.fs → b ≠ X.env.locals → z'.heap.get? b = some o ∧ G' b = none) (fun _ _ => False) z
/-- the i-th data is less than the j-th -/
def btD (kz : List PyData) (i j : Nat) : Bool := PySem.W.dataLt (kz.getD i .none) (kz.getD j .none)
theorem getD_of {kz : List PyData} {i : Nat} {d : PyData} (h : kz[i]? = some d) : kz.getD i .none = d := by
  rw [List.getD_eq_getElem?_getD, h]
  rfl
theorem btD_of {kz : List PyData} {i j : Nat} {a b : PyData} (h1 : kz[i]? = some a) (h2 : kz[j]? = some b) : PySem.W.dataLt a b = btD kz i j := by
  unfold btD
  rw [getD_of h1, getD_of h2]
variable {it S l f : Addr} {xs : List V} {kz : List PyData} {R : Result → Shared → Prop}
theorem turn (hh : X.A.handled = none) (hs : SqL X.K H l xs) (hk : KeysD X (.ref f) H xs kz) (hl : kz.length = xs.length) (hu : ∀ d ∈ kz, d ≠ .none ∧ X.A.in1.units + d.depth < cLine) (ha : PySem.W.AllAlike kz) (hne : it ≠ S) (hlt : l ≠ it) (hlS : l ≠ S) (fit : FpOk X pins H it) (fS : FpOk X pins H S)
    (hR : ∀ (v : Value) (z : Shared) (x : V) (G : Hp), xs[argBest (btD kz) (xs.length - 1)]? = some x → RelV x v → Inv X pins σ G z → Ex H G → R (.ok (.ret v)) z) :
    ∀ (k j : Nat) (z : Shared) (G : Hp) (ub kb : Value) (xb vk : V) (d : PyData) (c : Nat), xs.length - (j + 1) = k → j + 1 ≤ xs.length → Inv X pins σ G z → Ex H G → G it = none → G S = none → z.heap.IsListIter it l (j + 1) →
      z.heap.get? S = some { cls := .type "list", dict := none, data := .seq #[ub, kb] c, slots := #[] } → xs[argBest (btD kz) j]? = some xb → RelV xb ub → kz[argBest (btD kz) j]? = some d → RelV vk kb → Dp X.K G vk d →
      codeAny (model X.prog X.w) X.A (.builtin "min.loop" ⟨[.ref it, .ref f, .ref S], []⟩) R z := by
  have nm : (toString "min" ++ toString ".loop" : String) = "min.loop" := by decide
  intro k
  induction k with
  | zero =>
    intro j z G ub kb xb vk d c h1 h2 J e n1 n2 hit hS hx rx hd rk dp
    obtain ⟨its, r, ⟨o, n, ho, hc, hsl, hdt⟩, hz⟩ := J.list (Evl.ex_l e hs)
    have hlen : its.length = xs.length := r.length.symm
    refine codeAny_builtin PySem.F.entry_min_loop ?_
    rw [Around.under_plainId PySem.F.plain_min_loop _]
    show wpAny (model X.prog X.w) X.A.in1 (seqItems? (.ref S) >>= _) _ _ z
    refine wpAny_bind (wpAny_seqItems hS rfl ?_)
    show wpAny (model X.prog X.w) X.A.in1 (tryCatch (pyNext (.ref it)) _ >>= _) _ _ z
    refine wpAny_bind (wpAny_tryCatch (wpAny_pyNext_list_end hh hit ⟨o, ho, hc, n, hdt⟩ (by rw [List.getElem?_toArray]; exact List.getElem?_eq_none (by omega)) fun h' eb => ?_))
    have hS' := eb S _ hne.symm hS
    show wpAny (model X.prog X.w) X.A.in1 (updateSeq S (fun _ => #[]) >>= _) _ _ _
    refine wpAny_bind (wpAny_updateSeq hS' rfl (wpAny_bind (wpAny_letGo (wpAny_pure ?_))))
    have J2 : Inv X pins σ G { z with heap := h'.update S (Obj.mapSeq fun _ => (#[] : Array Value)) } := J.turnedL (t' := z.toks) (ch := [it, S]) (fun b o hb q => (Heap.get?_update_ne _ _ _ _ (fun w => hb (by simp [w]))).trans (eb b o (fun w => hb (by simp [w])) q)) (fun b hb => by
      rcases List.mem_cons.mp hb with rfl | hb
      · exact fp_to fit n1
      · rw [List.mem_singleton.mp hb]
        exact fp_to fS n2)
    have ej : j = xs.length - 1 := by omega
    exact hR ub _ xb G (by rw [← ej]; exact hx) rx J2 e
  | succ k ih =>
    intro j z G ub kb xb vk d c h1 h2 J e n1 n2 hit hS hx rx hd rk dp
    have hj : j + 1 < xs.length := by omega
    obtain ⟨its, r, ⟨o, n, ho, hc, hsl, hdt⟩, hz⟩ := J.list (Evl.ex_l e hs)
    obtain ⟨u, hu1, ru⟩ := r.get (List.getElem?_eq_getElem hj)
    obtain ⟨d2, hd2⟩ : ∃ d2, kz[j + 1]? = some d2 := ⟨_, List.getElem?_eq_getElem (by omega)⟩
    refine codeAny_builtin PySem.F.entry_min_loop ?_
    rw [Around.under_plainId PySem.F.plain_min_loop _]
    show wpAny (model X.prog X.w) X.A.in1 (seqItems? (.ref S) >>= _) _ _ z
    refine wpAny_bind (wpAny_seqItems hS rfl ?_)
    show wpAny (model X.prog X.w) X.A.in1 (tryCatch (pyNext (.ref it)) _ >>= _) _ _ z
    refine wpAny_bind (wpAny_tryCatch (wpAny_pyNext_list_item hit ⟨o, ho, hc, n, hdt⟩ (x := u) (by rw [List.getElem?_toArray]; exact hu1) fun h' hit' sb => ?_))
    have hS' := (sb.2 S hne.symm).trans hS
    have J1 : Inv X pins σ G { z with heap := h' } := J.turnedL (t' := z.toks) (ch := [it]) (fun b o hb q => (sb.2 b (fun w => hb (by rw [w]; exact List.mem_singleton.mpr rfl))).trans q) (fun b hb => by rw [List.mem_singleton.mp hb]; exact fp_to fit n1)
    show wpAny (model X.prog X.w) X.A.in1 (tryCatch (holding [u] (call (.ref f) [u])) _ >>= _) _ _ _
    refine wpAny_bind (wpAny_tryCatch (wpAny_holding (wpAny_mono (hk pins σ G _ (j + 1) _ u d2 J1 e (List.getElem?_eq_getElem hj) hd2 ru) (fun u' z' hq => ?_) fun _ _ hF => hF.elim)))
    obtain ⟨v', G', J', rv', e', dp', kk⟩ := hq
    have e2 : Ex H G' := e.trans e'
    obtain ⟨o1, a1, a2, a3⟩ := hit'
    have q1 := kk it _ a1 n1 fit.2.2.1 fit.2.1
    have q2 := kk S _ hS' n2 fS.2.2.1 fS.2.1
    have dpb : Dp X.K G' vk d := AsSort.dp_ex e' dp
    obtain ⟨as1, rd1⟩ := Dp.reads J' d2 v' u' dp' rv'
    obtain ⟨as2, rd2⟩ := Dp.reads J' d vk kb dpb rk
    have m2 := List.mem_of_getElem? hd2
    have m1 := List.mem_of_getElem? hd
    have un := hu d2 m2
    show wpAny (model X.prog X.w) X.A.in1 (tryCatch (holding [u, u'] (richCompare .Lt u' kb >>= _)) _ >>= _) _ _ _
    refine wpAny_bind (wpAny_tryCatch (wpAny_holding (wpAny_bind (PySem.W.rcLt_alike (prog := X.prog) (w := X.w) d2 d X.A.in1 z' u' kb as1 as2 rd1 rd2 (ha d2 m2 d m1) un.1 (by have := un.2; omega) _ _ ?_))))
    refine wpAny_bind (wpAny_holding (wpAny_truthy_bool ?_))
    refine wpAny_bind (wpAny_letGo (wpAny_pure ?_))
    have eb : PySem.W.dataLt d2 d = btD kz (j + 1) (argBest (btD kz) j) := btD_of hd2 hd
    have hit2 : z'.heap.IsListIter it l (j + 1 + 1) := ⟨o1, q1.1, a2, a3⟩
    cases hb : PySem.W.dataLt d2 d with
    | true =>
      rw [hb] at eb
      have ab : argBest (btD kz) (j + 1) = j + 1 := by
        show (if btD kz (j + 1) (argBest (btD kz) j) = true then j + 1 else argBest (btD kz) j) = j + 1
        rw [← eb, if_pos rfl]
      simp only [if_true]
      refine wpAny_bind (wpAny_updateSeq q2.1 rfl (wpAny_bind (wpAny_letGo ?_)))
      rw [nm]
      have J2 : Inv X pins σ G' { z' with heap := z'.heap.update S (Obj.mapSeq fun _ => #[u, u']) } := J'.turnedL (t' := z'.toks) (ch := [S]) (fun b o hb q => (Heap.get?_update_ne _ _ _ _ (fun w => hb (by rw [w]; exact List.mem_singleton.mpr rfl))).trans q) (fun b hb => by rw [List.mem_singleton.mp hb]; exact fp_to fS q2.2)
      refine wpAny_pure ⟨plainId_quiet PySem.F.plain_min_loop _, ih (j + 1) _ G' u u' _ v' d2 _ (by omega) hj J2 e2 q1.2 q2.2 ⟨o1, (Heap.get?_update_ne _ _ _ _ hne).trans q1.1, a2, a3⟩ (Heap.get?_update_self _ q2.1 rfl) (by rw [ab]; exact List.getElem?_eq_getElem hj) ru (by rw [ab]; exact hd2) rv' dp'⟩
    | false =>
      rw [hb] at eb
      have ab : argBest (btD kz) (j + 1) = argBest (btD kz) j := by
        show (if btD kz (j + 1) (argBest (btD kz) j) = true then j + 1 else argBest (btD kz) j) = _
        rw [← eb, if_neg (by decide)]
      simp only [Bool.false_eq_true, if_false]
      refine wpAny_bind (wpAny_letGo ?_)
      rw [nm]
      exact wpAny_pure ⟨plainId_quiet PySem.F.plain_min_loop _, ih (j + 1) _ G' ub kb xb vk d c (by omega) hj J' e2 q1.2 q2.2 hit2 q2.1 (by rw [ab]; exact hx) rx (by rw [ab]; exact hd) rk dpb⟩
theorem min_run {Q : VK} (hh : X.A.handled = none) (I : Inv X pins σ H s) (hs : SqL X.K H l xs) (hk : KeysD X (.ref f) H xs kz) (hl : kz.length = xs.length) (hu : ∀ d ∈ kz, d ≠ .none ∧ X.A.in1.units + d.depth < cLine) (ha : PySem.W.AllAlike kz) (hn : 0 < xs.length)
    (q : ∀ x G, xs[argBest (btD kz) (xs.length - 1)]? = some x → Ex H G → Q x G) : wpAny (model X.prog X.w) X.A (call (.builtin "min") [.ref l] [(Str.ofString "key", .ref f)]) (EP X pins σ Q) X.xe s := by
  have nm : (toString "min" ++ toString ".loop" : String) = "min.loop" := by decide
  obtain ⟨its, r, ⟨o, n, ho, hc, hsl, hd⟩, hz⟩ := I.list hs
  refine PyProof.Rows.kmk_tree PySem.F.kind_min PySem.F.plain_min PySem.F.entry_min (PyProof.Rows.kmk_min_key _ _) ?_
  show wpAny (model X.prog X.w) X.A.in1 (Builtin.Builtins.bindParams "min" ["key", "default"] 0 ⟨[], [(Str.ofString "key", .ref f)]⟩ >>= _) _ _ s
  refine wpAny_bind (wpAny_of_eq (show Builtin.Builtins.bindParams "min" ["key", "default"] 0 ⟨[], [(Str.ofString "key", .ref f)]⟩ = pure [some (.ref f), none] from rfl) (wpAny_bind (wpAny_pure (wpAny_bind (wpAny_pyIter_list (items := its.toArray) ⟨o, ho, hc, n, hd⟩ ?_)))))
  obtain ⟨it, eit⟩ : ∃ it, it = s.heap.objs.size := ⟨_, rfl⟩
  rw [← eit]
  obtain ⟨s2, e2⟩ : ∃ s2 : Shared, s2 = { s with heap := s.heap.push { cls := .type "list_iterator", data := .fields #[.ref l, .int 0 0] } } := ⟨_, rfl⟩
  rw [← e2]
  have kp : ∀ b o, s.heap.get? b = some o → s2.heap.get? b = some o := fun b o e => by rw [e2]; exact Heap.get?_push_of_some _ e
  have I2 : Inv X pins σ H s2 := by rw [e2]; exact I.kept (t' := s.toks) (fun b o e => Heap.get?_push_of_some _ e)
  have nit : H it = none := I.hok.fresh (by rw [eit]; exact Nat.le_refl _)
  have hit : s2.heap.get? it = some { cls := .type "list_iterator", data := .fields #[.ref l, .int 0 0] } := by rw [e2, eit]; exact Heap.get?_push_size _ rfl
  have fit : FpOk X pins H it := I.fpOk (by rw [eit]; exact Nat.le_refl _) nit
  have hsz2 : s2.heap.objs.size = it + 1 := by rw [e2, eit]; exact size_push' _ _
  have hlt : l < it := by rw [eit]; exact Heap.lt_size ho
  obtain ⟨S, eS⟩ : ∃ S, S = s2.heap.objs.size := ⟨_, rfl⟩
  have nS : H S = none := I2.hok.fresh (by rw [eS]; exact Nat.le_refl _)
  have fS : FpOk X pins H S := I2.fpOk (by rw [eS]; exact Nat.le_refl _) nS
  have hne : it ≠ S := by rw [eS, hsz2]; exact Nat.ne_of_lt (Nat.lt_succ_self _)
  have hlS : l ≠ S := by rw [eS, hsz2]; exact Nat.ne_of_lt (Nat.lt_succ_of_lt hlt)
  refine wpAny_bind (wpAny_newObj_type ?_)
  rw [← eS]
  obtain ⟨s3, e3⟩ : ∃ s3 : Shared, s3 = { s2 with heap := s2.heap.push { cls := .type "list", data := .seq #[] 0 } } := ⟨_, rfl⟩
  have hS : s3.heap.get? S = some { cls := .type "list", dict := none, data := .seq #[] 0, slots := #[] } := by rw [e3, eS]; exact Heap.get?_push_size _ rfl
  have kp3 : ∀ b o, s2.heap.get? b = some o → s3.heap.get? b = some o := fun b o e => by rw [e3]; exact Heap.get?_push_of_some _ e
  have I3 : Inv X pins σ H s3 := by rw [e3]; exact I2.kept (t' := s2.toks) (fun b o e => Heap.get?_push_of_some _ e)
  rw [nm]
  refine wpAny_pure ⟨plainId_quiet PySem.F.plain_min_loop _, ?_⟩
  show codeAny (model X.prog X.w) X.A (.builtin "min.loop" ⟨[.ref it, .ref f, .ref S], []⟩) _ { s2 with heap := s2.heap.push { cls := .type "list", data := .seq #[] 0 } }
  rw [← e3]
  obtain ⟨its3, r3, ⟨o3, n3, ho3, hc3, hsl3, hdt3⟩, hz3⟩ := I3.list hs
  obtain ⟨u, hu1, ru⟩ := r3.get (List.getElem?_eq_getElem hn)
  obtain ⟨d2, hd2⟩ : ∃ d2, kz[0]? = some d2 := ⟨_, List.getElem?_eq_getElem (by omega)⟩
  refine codeAny_builtin PySem.F.entry_min_loop ?_
  rw [Around.under_plainId PySem.F.plain_min_loop _]
  show wpAny (model X.prog X.w) X.A.in1 (seqItems? (.ref S) >>= _) _ _ s3
  refine wpAny_bind (wpAny_seqItems hS rfl ?_)
  show wpAny (model X.prog X.w) X.A.in1 (tryCatch (pyNext (.ref it)) _ >>= _) _ _ s3
  refine wpAny_bind (wpAny_tryCatch (wpAny_pyNext_list_item (i := 0) ⟨_, kp3 _ _ hit, rfl, rfl⟩ ⟨o3, ho3, hc3, n3, hdt3⟩ (x := u) (by rw [List.getElem?_toArray]; exact hu1) fun h' hit' sb => ?_))
  have hS' := (sb.2 S hne.symm).trans hS
  have J1 : Inv X pins σ H { s3 with heap := h' } := I3.turnedL (t' := s3.toks) (ch := [it]) (fun b o hb q => (sb.2 b (fun w => hb (by rw [w]; exact List.mem_singleton.mpr rfl))).trans q) (fun b hb => by rw [List.mem_singleton.mp hb]; exact fit)
  show wpAny (model X.prog X.w) X.A.in1 (tryCatch (holding [u] (call (.ref f) [u])) _ >>= _) _ _ _
  refine wpAny_bind (wpAny_tryCatch (wpAny_holding (wpAny_mono (hk pins σ H _ 0 _ u d2 J1 (Ex.refl H) (List.getElem?_eq_getElem hn) hd2 ru) (fun u' z' hq => ?_) fun _ _ hF => hF.elim)))
  obtain ⟨v', G', J', rv', e', dp', kk⟩ := hq
  obtain ⟨o1, a1, a2, a3⟩ := hit'
  have q1 := kk it _ a1 nit fit.2.2.1 fit.2.1
  have q2 := kk S _ hS' nS fS.2.2.1 fS.2.1
  show wpAny (model X.prog X.w) X.A.in1 (updateSeq S (fun _ => #[u, u']) >>= _) _ _ _
  refine wpAny_bind (wpAny_updateSeq q2.1 rfl ?_)
  rw [nm]
  have J2 : Inv X pins σ G' { z' with heap := z'.heap.update S (Obj.mapSeq fun _ => #[u, u']) } := J'.turnedL (t' := z'.toks) (ch := [S]) (fun b o hb q => (Heap.get?_update_ne _ _ _ _ (fun w => hb (by rw [w]; exact List.mem_singleton.mpr rfl))).trans q) (fun b hb => by rw [List.mem_singleton.mp hb]; exact fp_to fS q2.2)
  refine wpAny_pure ⟨plainId_quiet PySem.F.plain_min_loop _, turn hh hs hk hl hu ha hne (Nat.ne_of_lt hlt) hlS fit fS (fun v z x G hx rx J e => ⟨x, G, J, rx, q x G hx e⟩) _ 0 _ G' u u' _ v' d2 _ rfl hn J2 e' q1.2 q2.2 ⟨o1, (Heap.get?_update_ne _ _ _ _ hne).trans q1.1, a2, a3⟩ (Heap.get?_update_self _ q2.1 rfl) (List.getElem?_eq_getElem hn) ru hd2 rv' dp'⟩
/-- a def as such a key -/
theorem keysD_of {k : Nat} {f : Addr} {fd : FuncData} {x : Str} {pre : List PyData → Prop} {g : List PyData → PyData} {H : Hp} {xs : List V} {ds : List PyData} (F : FnOk X.prog X.w X.K X.mg X.base C8.CX0 k f fd [x] (AsSort.spP X.K pre g)) (hr : Room (k + 1) X.A)
    (hb : Binds X.K fd [x] []) (hd : DpAll X.K H xs ds) (hp : ∀ d ∈ ds, pre [d]) : KeysD X (.ref f) H xs (ds.map fun d => g [d]) := by
  intro pins σ G z i v u d I ex hx hk ru
  rw [List.getElem?_map] at hk
  cases hi : ds[i]? with
  | none => rw [hi] at hk; cases hk
  | some d0 =>
    rw [hi] at hk
    have ed : g [d0] = d := Option.some.inj hk
    have hv : Dp X.K G v d0 := AsSort.dp_ex ex (AsSort.dpAll_get hd hx hi)
    have E0' : Env0 X.prog X.w X.K X.mg X.base X.A.in1 X.stack z G := I.env0.in1
    refine wpAny_call (codeAny_mono (F.run X.A.in1 X.stack z G ⟨[u], []⟩ [u] [v] (fun v G' => Ex G G' ∧ Dp X.K G' v d) C8.E0 hr.in1 E0' (hb z [u] I.kIn rfl) (.cons ru .nil) ⟨[d0], .cons hv .nil, hp d0 (List.mem_of_getElem? hi), fun w' G' e' h' => ⟨e', by rw [← ed]; exact h'⟩⟩) fun r s' hq => ?_)
    cases r with
    | error e => exact hq.elim
    | ok fl =>
      cases fl with
      | ret u =>
        obtain ⟨v', H', os, bare, un, hok, rr, e', hd'⟩ := hq
        obtain ⟨hh, g', d', t', os'⟩ := s'
        obtain rfl : os' = z.os := os
        refine ⟨v', H', I.call (h' := hh) (g' := g') (d' := d') (t' := t') (ch := []) un hok bare (fun b z => absurd z (by simp)), rr, e', hd', fun b o hb hn hfs hl => ⟨un.keep b o hb hn (fun w => (List.mem_cons.mp (I.stkSub b w)).elim hl hfs) List.not_mem_nil, un.free b o hb hn List.not_mem_nil⟩⟩
      | next => exact False.elim hq
      | brk => exact False.elim hq
      | cont => exact False.elim hq
/-- min(xs, key=f) -/
def rMinKey (K : PySem.W.Frag) (f : Addr) (pre : List PyData → Prop) (g : List PyData → PyData) : List V → List V → Hp → VK → Prop := fun vs zs H Q => ∃ (l : Addr) (xs : List V) (ds : List PyData), vs = [.ref l] ∧ zs = [.ref f] ∧ SqL K H l xs ∧ DpAll K H xs ds ∧ (∀ d ∈ ds, pre [d]) ∧
  (∀ d ∈ ds, g [d] ≠ .none ∧ (g [d]).depth ≤ 50) ∧ PySem.W.AllAlike (ds.map fun d => g [d]) ∧ 0 < ds.length ∧ ∀ x d G, ds[argBest (btD (ds.map fun d => g [d])) (ds.length - 1)]? = some d → Ex H G → Dp K G x d → Q x G
theorem cr_minKey {k : Nat} {f : Addr} {fd : FuncData} {x : Str} {pre : List PyData → Prop} {g : List PyData → PyData} (F : FnOk X.prog X.w X.K X.mg X.base C8.CX0 k f fd [x] (AsSort.spP X.K pre g)) (hr : Room (k + 1) X.A) (hb : Binds X.K fd [x] []) : CallRK X (.builtin "min") [Str.ofString "key"] (rMinKey X.K f pre g) := by
  intro pins s σ H vs zs us ws Q I r rz h
  obtain ⟨l, xs, ds, rfl, rfl, hs, hd, hp, hdep, hal, hn, q⟩ := h
  obtain rfl := Vals.ref1 r
  obtain ⟨w1, rfl, e1⟩ := vals1 rz
  obtain rfl : w1 = Value.ref f := e1
  have hl : xs.length = ds.length := AsSort.dpAll_len hd
  refine min_run hr.hd I hs (keysD_of F hr hb hd hp) (by rw [List.length_map]; omega) (fun d hm => ?_) hal (by omega) fun x G hx e => ?_
  · obtain ⟨d0, h0, rfl⟩ := List.mem_map.mp hm
    have h1 := hdep d0 h0
    have h2 := hr.un
    refine ⟨h1.1, ?_⟩
    have := h1.2
    show X.A.units + 1 + (g [d0]).depth < cLine
    omega
  · rw [hl] at hx
    have hlt : argBest (btD (ds.map fun d => g [d])) (ds.length - 1) < ds.length := by
      have := (List.getElem?_eq_some_iff.mp hx).1
      omega
    exact q x _ G (List.getElem?_eq_getElem hlt) e (AsSort.dp_ex e (AsSort.dpAll_get hd hx (List.getElem?_eq_getElem hlt)))
end
end AsMin

set_option maxHeartbeats 4000000
set_option autoImplicit false
/-! copies by how many deeds, and which of them a mender does not bring back: told without the program. -/
namespace K26
open PySem PySem.Spec PySem.W PyProof.Rows L2 AsSort AsKit AsMax AsMin
theorem mendN_fuel {y : Str} {ps : List (Str × Str)} (hm : Men y ps) : ∀ (n m : Nat) (z : Str), z.length < n → z.length < m → mendN ps n z = mendN ps m z
  | 0, _, z, h, _ => absurd h (Nat.not_lt_zero _)
  | _, 0, z, _, h => absurd h (Nat.not_lt_zero _)
  | n + 1, m + 1, z, h1, h2 => by
    cases hk : nextK ps z with
    | none => rw [mend_none hk, mend_none hk]
    | some pk =>
      obtain ⟨p, k⟩ := pk
      have l := next_less hm hk
      rw [mend_some hk, mend_some hk, mendN_fuel hm n m (bhS z p k) (by omega) (by omega)]
/-- the text to which a mender leads -/
def EM (ps : List (Str × Str)) (z : Str) : Str := (mend ps z).2
theorem em_none {ps : List (Str × Str)} {z : Str} (h : nextK ps z = none) : EM ps z = z := by unfold EM; rw [mend_fix h]
theorem em_step {y : Str} {ps : List (Str × Str)} {z : Str} {p : Nat} {k : Str × Str} (hm : Men y ps) (h : nextK ps z = some (p, k)) : EM ps z = EM ps (bhS z p k) := by
  unfold EM mend
  have l := next_less hm h
  rw [mend_some h]
  show (mendN ps z.length (bhS z p k)).2 = _
  rw [mendN_fuel hm z.length ((bhS z p k).length + 1) (bhS z p k) l (Nat.lt_succ_self _)]
/-- the order of texts -/
def leT (a b : Str) : Bool := !dataLt (oT b) (oT a)
theorem toksT (z : Str) : keyToks (oT z) = [.inl 1, .inl (z.length : Int), .inl 1, .inr z.cps.toList, .inl 0] := by
  simp [oT, keyToks, keyToksAll]
theorem toksT_inj {a b : Str} (h : keyToks (oT a) = keyToks (oT b)) : a = b := by
  rw [toksT, toksT] at h
  simp only [List.cons.injEq, Sum.inl.injEq, Sum.inr.injEq, true_and, and_true] at h
  exact len_eqS h.2
theorem ltT_trans {a b c : Str} (h1 : dataLt (oT a) (oT b) = true) (h2 : dataLt (oT b) (oT c) = true) : dataLt (oT a) (oT c) = true := lex_trans (O := itemOrd) _ _ _ h1 h2
theorem ltT_irrefl (a : Str) : dataLt (oT a) (oT a) = false := lex_irrefl (O := itemOrd) _
theorem leT_anti {a b : Str} (h1 : leT a b = true) (h2 : leT b a = true) : a = b := by
  unfold leT at h1 h2
  exact toksT_inj (lex_total (O := itemOrd) _ _ ((Bool.not_eq_true' _).mp h2) ((Bool.not_eq_true' _).mp h1))
theorem leT_total (a b : Str) : (leT a b || leT b a) = true := by
  unfold leT
  cases h1 : dataLt (oT b) (oT a) with
  | false => rfl
  | true =>
    cases h2 : dataLt (oT a) (oT b) with
    | false => rfl
    | true =>
      have z := ltT_trans h1 h2
      rw [ltT_irrefl] at z
      cases z
theorem leT_trans (a b c : Str) (h1 : leT a b = true) (h2 : leT b c = true) : leT a c = true := by
  unfold leT at *
  rw [Bool.not_eq_true'] at *
  cases h : dataLt (oT c) (oT a) with
  | false => rfl
  | true =>
    cases h3 : dataLt (oT a) (oT b) with
    | true =>
      have z := ltT_trans h h3
      rw [h2] at z
      cases z
    | false =>
      have e := toksT_inj (lex_total (O := itemOrd) _ _ h1 h3)
      rw [e] at h2
      rw [h] at h2
      cases h2
def sortT (ss : List Str) : List Str := ss.mergeSort leT
theorem sortD_texts (ss : List Str) : sortD (fun d => one ordT [d]) (ss.map PyData.str) = (sortT ss).map PyData.str := by
  unfold sortD sortT
  refine (List.map_mergeSort fun a _ b _ => ?_).symm
  rw [dataLe_eq]
  rfl
/-- the first least one -/
def minT (ss : List Str) : Str := ss.getD (argBest (btD (ss.map oT)) (ss.length - 1)) ""
theorem best_least (b2 : Nat → Nat → Bool) (tr : ∀ i j k, b2 i j = true → b2 j k = true → b2 i k = true) (ir : ∀ i, b2 i i = false) : ∀ k, argBest b2 k ≤ k ∧ ∀ j, j ≤ k → b2 j (argBest b2 k) = false
  | 0 => ⟨Nat.le_refl _, fun j h => by rw [Nat.le_zero.mp h]; exact ir 0⟩
  | k + 1 => by
    obtain ⟨h1, h2⟩ := best_least b2 tr ir k
    show (if b2 (k + 1) (argBest b2 k) = true then k + 1 else argBest b2 k) ≤ k + 1 ∧ ∀ j, j ≤ k + 1 → b2 j (if b2 (k + 1) (argBest b2 k) = true then k + 1 else argBest b2 k) = false
    by_cases h : b2 (k + 1) (argBest b2 k) = true
    · rw [if_pos h]
      refine ⟨Nat.le_refl _, fun j hj => ?_⟩
      rcases Nat.lt_or_eq_of_le hj with hj | rfl
      · cases q : b2 j (k + 1) with
        | false => rfl
        | true =>
          have := tr _ _ _ q h
          rw [h2 j (by omega)] at this
          cases this
      · exact ir _
    · rw [if_neg h]
      refine ⟨by omega, fun j hj => ?_⟩
      rcases Nat.lt_or_eq_of_le hj with hj | rfl
      · exact h2 j (by omega)
      · simpa using h
theorem btD_str (ss : List Str) (i j : Nat) (a b : Str) (h1 : ss[i]? = some a) (h2 : ss[j]? = some b) : btD (ss.map oT) i j = dataLt (oT a) (oT b) := (btD_of (by rw [List.getElem?_map, h1]; rfl) (by rw [List.getElem?_map, h2]; rfl)).symm
theorem oTs_get (ss : List Str) (i : Nat) : (∃ a, ss[i]? = some a ∧ (ss.map oT).getD i .none = oT a) ∨ (ss.map oT).getD i .none = .none := by
  cases h : ss[i]? with
  | some a => exact .inl ⟨a, rfl, by rw [List.getD_eq_getElem?_getD, List.getElem?_map, h]; rfl⟩
  | none => exact .inr (by rw [List.getD_eq_getElem?_getD, List.getElem?_map, h]; rfl)
theorem minT_at {ss : List Str} (h : 0 < ss.length) : ss[argBest (btD (ss.map oT)) (ss.length - 1)]? = some (minT ss) ∧ ∀ x ∈ ss, leT (minT ss) x = true := by
  have tr : ∀ i j k, btD (ss.map oT) i j = true → btD (ss.map oT) j k = true → btD (ss.map oT) i k = true := fun i j k h1 h2 => lex_trans (O := itemOrd) _ _ _ h1 h2
  have ir : ∀ i, btD (ss.map oT) i i = false := fun i => lex_irrefl (O := itemOrd) _
  obtain ⟨p1, p2⟩ := best_least (btD (ss.map oT)) tr ir (ss.length - 1)
  have hl : argBest (btD (ss.map oT)) (ss.length - 1) < ss.length := by omega
  have e : ss[argBest (btD (ss.map oT)) (ss.length - 1)]? = some (minT ss) := by
    unfold minT
    rw [List.getD_eq_getElem?_getD, List.getElem?_eq_getElem hl]
    rfl
  refine ⟨e, fun x hx => ?_⟩
  obtain ⟨i, hi⟩ := List.mem_iff_getElem?.mp hx
  have hlt := (List.getElem?_eq_some_iff.mp hi).1
  have z := p2 i (by omega)
  rw [btD_str ss _ _ x (minT ss) hi e] at z
  unfold leT
  rw [z]
  rfl
theorem minT_mem {ss : List Str} (h : 0 < ss.length) : minT ss ∈ ss := List.mem_of_getElem? (minT_at h).1
/-- the first of the sorted ones -/
theorem sort_first {ss : List Str} (f : Str → Bool) (h : ss.filter f ≠ []) : ((sortT ss).filter f)[0]? = some (minT (ss.filter f)) := by
  have pm : ((sortT ss).filter f).Perm (ss.filter f) := (List.mergeSort_perm ss leT).filter f
  have hl := List.length_pos_iff.mpr h
  have pw : ((sortT ss).filter f).Pairwise fun a b => leT a b = true := List.Pairwise.sublist List.filter_sublist (List.pairwise_mergeSort (le := leT) leT_trans leT_total ss)
  cases hs : (sortT ss).filter f with
  | nil =>
    rw [hs] at pm
    exact absurd (pm.symm.eq_nil) h
  | cons x xs =>
    rw [hs] at pm pw
    show some x = _
    refine congrArg some ?_
    have hm := minT_mem hl
    have h1 : leT (minT (ss.filter f)) x = true := (minT_at hl).2 x (pm.mem_iff.mp (List.mem_cons_self ..))
    refine leT_anti ?_ h1
    rcases List.mem_cons.mp (pm.mem_iff.mpr hm) with e | e
    · rw [e] at h1 ⊢
      exact h1
    · exact (List.pairwise_cons.mp pw).1 _ e
/-! copies -/
def stepG (s : List Str × List Str) (c : Str) : List Str × List Str := if c ∈ s.1 then s else (s.1 ++ [c], s.2 ++ [c])
def stepL (ks : List (Str × Str)) (s : List Str × List Str) (t : Str) : List Str × List Str := (behinds ks t).foldl stepG s
def nextLv (ks : List (Str × Str)) (sn lv : List Str) : List Str × List Str := lv.foldl (stepL ks) (sn, [])
def lvl (ks : List (Str × Str)) (z : Str) : Nat → List Str × List Str
  | 0 => ([z], [z])
  | c + 1 => nextLv ks (lvl ks z c).1 (lvl ks z c).2
def wr (ms ks : List (Str × Str)) (z : Str) (c : Nat) : List Str := (lvl ks z c).2.filter fun s => !decide (EM ms s = z)
def firstBad (ms ks : List (Str × Str)) (z : Str) (n : Nat) : Option Str := ((List.range n).find? fun c => decide (wr ms ks z c ≠ [])).map fun c => minT (wr ms ks z c)
def failAll (ms ks : List (Str × Str)) (n : Nat) (ts : List Str) : Option (Str × Str) := ts.findSome? fun z => (firstBad ms ks z n).map fun s => (z, s)
theorem stepG_len (s : List Str × List Str) (c : Str) : (stepG s c).1.length ≤ s.1.length + 1 ∧ (stepG s c).2.length ≤ s.2.length + 1 := by
  unfold stepG
  split
  · exact ⟨by omega, by omega⟩
  · exact ⟨by simp, by simp⟩
theorem foldG_len (cs : List Str) : ∀ s : List Str × List Str, (cs.foldl stepG s).1.length ≤ s.1.length + cs.length ∧ (cs.foldl stepG s).2.length ≤ s.2.length + cs.length := by
  induction cs with
  | nil => exact fun s => ⟨Nat.le_refl _, Nat.le_refl _⟩
  | cons c cs ih =>
    intro s
    have h1 := ih (stepG s c)
    have h2 := stepG_len s c
    show (cs.foldl stepG (stepG s c)).1.length ≤ _ ∧ (cs.foldl stepG (stepG s c)).2.length ≤ _
    rw [List.length_cons]
    omega
theorem behinds_len {ks : List (Str × Str)} {t : Str} : (behinds ks t).length ≤ (t.length + 1) * ks.length := by
  unfold behinds deedsL
  rw [List.length_map]
  have := hitsTo_len (sortO ks) t (t.length + 1)
  rw [sortO_len] at this
  exact this
theorem foldL_len {ks : List (Str × Str)} {B : Nat} : ∀ (lv : List Str) (s : List Str × List Str), (∀ t ∈ lv, (behinds ks t).length ≤ B) → (lv.foldl (stepL ks) s).1.length ≤ s.1.length + lv.length * B ∧ (lv.foldl (stepL ks) s).2.length ≤ s.2.length + lv.length * B
  | [], s, _ => by simp
  | t :: lv, s, h => by
    have h1 := foldL_len (ks := ks) (B := B) lv (stepL ks s t) fun x hx => h x (List.mem_cons_of_mem _ hx)
    have h2 := foldG_len (behinds ks t) s
    have h3 := h t (List.mem_cons_self ..)
    show (lv.foldl (stepL ks) (stepL ks s t)).1.length ≤ _ ∧ (lv.foldl (stepL ks) (stepL ks s t)).2.length ≤ _
    have e : (lv.length + 1) * B = lv.length * B + B := Nat.succ_mul _ _
    rw [List.length_cons, e]
    unfold stepL at *
    omega
/-- all that is found has a property that deeds keep -/
theorem foldG_all {Pr : Str → Prop} (cs : List Str) : ∀ s : List Str × List Str, (∀ c ∈ cs, Pr c) → (∀ c ∈ s.2, Pr c) → ∀ c ∈ (cs.foldl stepG s).2, Pr c := by
  induction cs with
  | nil => exact fun s _ h => h
  | cons c cs ih =>
    intro s h1 h2
    refine ih (stepG s c) (fun x hx => h1 x (List.mem_cons_of_mem _ hx)) fun x hx => ?_
    unfold stepG at hx
    split at hx
    · exact h2 x hx
    · rcases List.mem_append.mp hx with hx | hx
      · exact h2 x hx
      · rw [List.mem_singleton.mp hx]
        exact h1 c (List.mem_cons_self ..)
theorem foldL_all {ks : List (Str × Str)} {Pr : Str → Prop} : ∀ (lv : List Str) (s : List Str × List Str), (∀ t ∈ lv, ∀ c ∈ behinds ks t, Pr c) → (∀ c ∈ s.2, Pr c) → ∀ c ∈ (lv.foldl (stepL ks) s).2, Pr c
  | [], s, _, h => h
  | t :: lv, s, h1, h2 => foldL_all (ks := ks) lv (stepL ks s t) (fun x hx => h1 x (List.mem_cons_of_mem _ hx)) (foldG_all _ s (h1 t (List.mem_cons_self ..)) h2)
theorem deed_in {ks : List (Str × Str)} {z : Str} {d : PyData} (h : d ∈ deedsL ks z) : ∃ p k, d = dD p k ∧ k ∈ ks ∧ hitB z p k = true ∧ p ≤ z.length := by
  obtain ⟨p, h1, h2⟩ := List.mem_flatMap.mp h
  obtain ⟨k, hk, rfl⟩ := List.mem_map.mp h2
  obtain ⟨k1, k2⟩ := List.mem_filter.mp hk
  exact ⟨p, k, rfl, sortO_mem.mp k1, k2, Nat.lt_succ_iff.mp (List.mem_range.mp h1)⟩
/-- texts of the letters, of a length -/
def TxOk (y : Str) (n : Nat) (t : Str) : Prop := t.length ≤ n ∧ allIn y t = true
theorem behind_ok {y : Str} {ks : List (Str × Str)} (hk : ∀ k ∈ ks, Gd y k) {n : Nat} {t : Str} (ht : TxOk y n t) : ∀ c ∈ behinds ks t, TxOk y (n + 1) c := fun c hc => by
  obtain ⟨d, hd, rfl⟩ := List.mem_map.mp hc
  obtain ⟨p, k, rfl, h1, h2, h3⟩ := deed_in hd
  have g := hk k h1
  show TxOk y (n + 1) (bhS t p k)
  refine ⟨?_, bh_in ht.2 g.2.2.2.1⟩
  have hh := hit_len h2
  have l1 := ht.1
  have l2 := g.2.1
  by_cases h0 : p + k.1.length ≤ t.length
  · have := bh_len (z := t) (p := p) (k := k) h0
    omega
  · have z0 : k.1.length = 0 := hh.resolve_left h0
    omega
theorem lvl_ok {y : Str} {ks : List (Str × Str)} (hk : ∀ k ∈ ks, Gd y k) {n : Nat} {z : Str} (hz : TxOk y n z) : ∀ c, ∀ s ∈ (lvl ks z c).2, TxOk y (n + c) s
  | 0 => fun s hs => by rw [List.mem_singleton.mp hs]; exact hz
  | c + 1 => fun s hs => foldL_all (Pr := TxOk y (n + c + 1)) _ _ (fun t ht x hx => behind_ok hk (lvl_ok hk hz c t ht) x hx) (fun x h => absurd h List.not_mem_nil) s hs
theorem range_find {p : Nat → Bool} (n : Nat) : (List.range (n + 1)).find? p = ((List.range n).find? p).or (if p n = true then some n else none) := by
  rw [List.range_succ, List.find?_append]
  congr 1
  simp [List.find?_cons]
  split <;> simp_all
end K26

set_option maxHeartbeats 4000000
set_option autoImplicit false
/-! end_of: the ends of texts, kept in a dict. -/
namespace K26
open PySem PySem.Spec PyProof.Rows L2 AsSort AsKit AsMax AsMin
open Evl (Ex Ev EvT EvA)
open LamX (ExtN TabB)
open NdefX (TabsN NTab NScope nscope_by NF startF)
/-- all but d and the tables stays -/
def Kp (d : Addr) (H H' : Hp) : Prop := ∀ b o, b ≠ d → H b = some o → (∀ ps, o ≠ .tbl ps) → H' b = some o
theorem Kp.refl (d : Addr) (H : Hp) : Kp d H H := fun _ _ _ h _ => h
theorem Kp.trans {d : Addr} {H H1 H2 : Hp} (a : Kp d H H1) (b : Kp d H1 H2) : Kp d H H2 := fun x o n h t => b x o n (a x o n h t) t
theorem kp_ext {d : Addr} {H H' : Hp} (e : ExtN H H') : Kp d H H' := fun b o _ h t => e b o h t
theorem kp_ex {d : Addr} {H H' : Hp} (e : Ex H H') : Kp d H H' := fun b o _ h _ => e b o h
theorem kp_upd {d : Addr} {H : Hp} {o : HO} : Kp d H (upd H d o) := fun b u n h _ => (upd_ne n).trans h
theorem Kp.mut {d l : Addr} {H H' : Hp} {o : HO} (a : Kp d H H') (n : H l = none) : Kp d H (upd H' l o) := fun b u hb h t => (upd_ne (fun z => by rw [z, n] at h; cases h)).trans (a b u hb h t)
section
variable {K : PySem.W.Frag} {G G' : Hp} {d : Addr} {kvs : List (Key × V)}
theorem seq_kp (hd : G d = some (.dK kvs)) (e : Kp d G G') {a : Addr} {xs : List V} (s : SqL K G a xs) : SqL K G' a xs := by
  have ne : ∀ u, G a = some u → (∀ q, u ≠ .dK q) → a ≠ d := fun u h n z => by rw [z, hd] at h; exact n _ (Option.some.inj h).symm
  rcases s with (s | ⟨o, s⟩) | s
  · exact .inl (.inl (e _ _ (ne _ s fun _ z => nomatch z) s fun _ z => nomatch z))
  · exact .inl (.inr ⟨o, e _ _ (ne _ s fun _ z => nomatch z) s fun _ z => nomatch z⟩)
  · exact .inr s
theorem tup_kp (hd : G d = some (.dK kvs)) (e : Kp d G G') {a : Addr} {xs : List V} (s : SqT K G a xs) : SqT K G' a xs := by
  have ne : ∀ u, G a = some u → (∀ q, u ≠ .dK q) → a ≠ d := fun u h n z => by rw [z, hd] at h; exact n _ (Option.some.inj h).symm
  rcases s with (s | ⟨o, s⟩) | s
  · exact .inl (.inl (e _ _ (ne _ s fun _ z => nomatch z) s fun _ z => nomatch z))
  · exact .inl (.inr ⟨o, e _ _ (ne _ s fun _ z => nomatch z) s fun _ z => nomatch z⟩)
  · exact .inr s
mutual
theorem dp_kp (hd : G d = some (.dK kvs)) (e : Kp d G G') : ∀ {v : V} {x : PyData}, Dp K G v x → Dp K G' v x
  | _, _, .non => .non
  | _, _, .bl b => .bl b
  | _, _, .int i => .int i
  | _, _, .str x => .str x
  | _, _, .lst a b => .lst (seq_kp hd e a) (dpAll_kp hd e b)
  | _, _, .tup a b => .tup (tup_kp hd e a) (dpAll_kp hd e b)
theorem dpAll_kp (hd : G d = some (.dK kvs)) (e : Kp d G G') : ∀ {vs : List V} {ds : List PyData}, DpAll K G vs ds → DpAll K G' vs ds
  | _, _, .nil => .nil
  | _, _, .cons a b => .cons (dp_kp hd e a) (dpAll_kp hd e b)
end
theorem tabs_dK {Ts : List NTab} {H : Hp} {o : HO} (h : H d = some (.dK kvs)) (t : TabsN Ts H) : TabsN Ts (upd H d o) := fun p hp => by
  obtain ⟨ps, t1, t2, t3⟩ := t p hp
  refine ⟨ps, (upd_ne (fun z => by rw [z, h] at t1; cases t1)).trans t1, t2, fun pos cv hc => ?_⟩
  obtain ⟨c, e1, e2⟩ := t3 pos cv hc
  refine ⟨c, e1, (upd_ne (fun z => ?_)).trans e2⟩
  rw [z, h] at e2
  have e3 := Option.some.inj e2
  unfold LamX.CodeO at e3
  cases e3
end
/-- each text's end -/
def EndsOk (ms : List (Str × Str)) (kvs : List (Key × V)) : Prop := ∀ s v, valV kvs (.inr s) = some v → v = .str (EM ms s)
theorem ends_put {ms : List (Str × Str)} {kvs : List (Key × V)} (h : EndsOk ms kvs) {s e : Str} (he : e = EM ms s) : EndsOk ms (putK kvs (.inr s) (.str e)) := fun t v hv => by
  rw [valV_put] at hv
  split at hv
  · rename_i q
    cases hv
    cases q
    rw [he]
  · exact h t v hv
section
variable {P : Program} {w : World} {K : PySem.W.Frag} {mg : Str → Option Value} {base : Heap}
abbrev sEndOf : Stmt := top 39
abbrev nEndOf : List Str := ["mender", "text", "ends", "passed", "now", "deed", "each"]
theorem sc_end_of : FnScope nEndOf ["mender", "text", "ends"] (defScope sEndOf) := ⟨rfl, rfl, rfl, by decide +kernel, rfl, by decide +kernel, by decide +kernel⟩
def spEndOf (K : PySem.W.Frag) (Ts : List NTab) : Sp := fun vs H Q _ => ∃ (v : V) (y : Str) (ms : List (Str × Str)) (z : Str) (d : Addr) (kvs : List (Key × V)), vs = [v, .str z, .ref d] ∧ Dp K H v (.tuple (ms.map kD)) ∧ z.length ≤ 40 ∧ ms.length ≤ 60 ∧ Men y ms ∧ H d = some (.dK kvs) ∧ EndsOk ms kvs ∧ kvs.length ≤ 99000 ∧ TabsN Ts H ∧
  ∀ (H' : Hp) (kvs' : List (Key × V)), Kp d H H' → H' d = some (.dK kvs') → EndsOk ms kvs' → kvs'.length ≤ kvs.length + z.length + 2 → TabsN Ts H' → Q (.str (EM ms z)) H'
/-- in the first loop -/
def EoI (K : PySem.W.Frag) (Ts : List NTab) (H : Hp) (v : V) (z : Str) (ms : List (Str × Str)) (d l : Addr) (kvs : List (Key × V)) (m : Nat) (σ : L2.St) (H' : Hp) : Prop := ∃ (now : Str) (rs : List Str) (kvs' : List (Key × V)) (x5 x6 : Option V),
  σ = [some v, some (.str z), some (.ref d), some (.ref l), some (.str now), x5, x6] ∧ m = 2 * now.length + (if (valV kvs' (.inr now)).isSome = true then 0 else 1) ∧ Kp d H H' ∧ H' l = some (.lst (rs.map V.str)) ∧ H' d = some (.dK kvs') ∧ EndsOk ms kvs' ∧ TabsN Ts H' ∧ EM ms now = EM ms z ∧ (∀ r ∈ rs, EM ms r = EM ms z) ∧
  now.length ≤ z.length ∧ kvs'.length ≤ kvs.length + 1 ∧ rs.length + now.length ≤ z.length + 1 ∧ (valV kvs' (.inr now) = none → kvs'.length ≤ kvs.length ∧ rs.length + now.length ≤ z.length)
theorem c_end_of {Ts : List NTab} (D : Df K mg "end_of" sEndOf) (hb : Bl mg) (C1 : Cl P w K mg base 4 "next_deed" (spNextDeed K Ts) []) (C2 : Cl P w K mg base 1 "text_behind" (spTextBehind K) []) : Cl P w K mg base 5 "end_of" (spEndOf K Ts) [] := by
  refine cl_of D sc_end_of (fun vs H Q E ⟨v, y, ms, z, d, kvs, h, _⟩ => by rw [h]; rfl) (fun _ _ _ _ _ _ us hl => match us, hl with | [_, _, _], _ => rfl) fun f cdv A outer s H vs Q E hr h => ?_
  obtain ⟨v, y, ms, z, d, kvs, rfl, h0, hz, hp, hm, hd, hok, hkl, hT, q⟩ := h
  have hu : (A.deeper (envOfC "end_of" (defScope sEndOf) s.heap.objs.size f cdv)).units + 1 < cLine := by have := hr.un; omega
  refine ⟨_, pss_cons (ps_set (i := 3) sc_end_of.nd rfl (.inl rfl) (pe_lst pa_nil))
    (pss_cons (ps_set (i := 4) sc_end_of.nd rfl (.inl rfl) (pv 1))
    (pss_cons (ps_while PassesOwn.never (pt_cmp (pc_dnotin hu (pv 4) (pv 2)))
      (pss_cons (ps_expr (pe_bm PySem.F.plainAttrs_list PySem.F.slot_list_append PySem.F.type_list_append mt_append (pv 3) (pa_cons (pv 4) pa_nil)))
      (pss_cons (ps_set (i := 5) sc_end_of.nd rfl (.inl rfl) (C8.pe_c C1 hr (by decide) (by rfl) (pa_cons (pv 0) (pa_cons (pv 4) pa_nil))))
      (pss_one (ps_if (pt_cmp (pc_isN (pv 5))) (pss_one (ps_dput hu (pv 2) (pv 4) (pv 4) rfl)) (pss_one (ps_set (i := 4) sc_end_of.nd rfl (.inl rfl) (C8.pe_c C2 hr (by decide) (by rfl) (pa_cons (pv 4) (pa_cons (pv 5) pa_nil))))))))))
    (pss_cons (ps_for PassesOwn.never rfl (pi_list (pv 3)) (pg_name (i := 6) sc_end_of.nd rfl (.inl rfl)) (pss_one (ps_dput hu (pv 2) (pv 6) (pe_dget hu (pv 2) (pv 4) (fun _ _ => rfl)) rfl)))
    (pss_one (ps_ret (pe_dget hu (pv 2) (pv 4) (fun _ _ => rfl))))))), ?_⟩
  have lens : ∀ p ∈ ms, p.1.length ≤ 40 ∧ p.2.length ≤ 40 := fun p hp => by
    have := (hm p hp).1
    exact ⟨by have := this.1; omega, by have := this.2.1; omega⟩
  refine ⟨Evl.sz_of (Nat.zero_le _), fun l nl => ?_⟩
  refine ⟨.str z, rfl, ?_⟩
  have nld : l ≠ d := fun e => by rw [e, hd] at nl; cases nl
  have x0 : Ex H (upd H l (.lst [])) := Ex.new nl
  refine Evl.q_while (EoI K Ts H v z ms d l kvs) (2 * z.length + (if (valV kvs (.inr z)).isSome = true then 0 else 1)) ⟨z, [], kvs, _, _, rfl, rfl, kp_ex x0, upd_same, x0 _ _ hd, hok, hT.ext x0, rfl, fun r h => absurd h List.not_mem_nil, Nat.le_refl _, by omega, by show 0 + z.length ≤ _; omega, fun _ => ⟨Nat.le_refl _, by show 0 + z.length ≤ _; omega⟩⟩ fun m σ' H' hw => ?_
  obtain ⟨now, rs, kvs1, x5, x6, rfl, rfl, kp, hl, hd1, hok1, t1, en, er, ln, lk, lr, lno⟩ := hw
  have hv : Dp K H' v (.tuple (ms.map kD)) := dp_kp hd kp h0
  cases hval : valV kvs1 (.inr now) with
  | some vv =>
    refine ⟨false, fun H1 e Q q => ⟨.str now, rfl, .ref d, rfl, d, valV kvs1 (.inr now), rfl, DGet.k (k := .inr now) (e _ _ hd1), false, by rw [hval]; rfl, q H1 (Ex.refl _)⟩, (fun z => nomatch z), fun _ H1 e1 => ?_⟩
    -- each in passed
    refine ⟨_, rfl, _, rfl, ⟨_, Evl.sq_of (e1 _ _ hl)⟩, for_list (fun j σ' H2 => ∃ x6 kvs2, σ' = [some v, some (.str z), some (.ref d), some (.ref l), some (.str now), x5, x6] ∧ Kp d H H2 ∧ H2 l = some (.lst (rs.map V.str)) ∧ H2 d = some (.dK kvs2) ∧ EndsOk ms kvs2 ∧ TabsN Ts H2 ∧ (valV kvs2 (.inr now)).isSome = true ∧ kvs2.length ≤ kvs1.length + j)
      ⟨_, kvs1, rfl, kp.trans (kp_ex e1), e1 _ _ hl, e1 _ _ hd1, hok1, t1.ext e1, by rw [hval]; rfl, by omega⟩ (fun j σ' H2 _ ⟨_, _, _, _, p, _⟩ => Evl.sq_of p) (fun j x σ' H2 hj p => ?_) fun σ' H2 p => ?_⟩
    · obtain ⟨x6', kvs2, rfl, p1, p2, p3, p4, p5, p6, p7⟩ := p
      have hjl : j < (rs.map V.str).length := (List.getElem?_eq_some_iff.mp hj).1
      rw [List.length_map] at hjl
      rw [List.getElem?_map, List.getElem?_eq_getElem hjl] at hj
      have hx : V.str rs[j] = x := Option.some.inj hj
      subst hx
      obtain ⟨w1, hw1⟩ := Option.isSome_iff_exists.mp p6
      have ew := p4 _ _ hw1
      subst ew
      dsimp only [gName]
      refine ⟨.ref d, rfl, .str now, rfl, d, .str (EM ms now), rfl, by rw [← hw1]; exact DGet.k (k := .inr now) p3, .ref d, rfl, .str rs[j], rfl, d, _, rfl, DPut.k (k := .inr rs[j]) p3 (Evl.sz_lt (by omega)), ?_⟩
      have hm1 : EM ms now = EM ms rs[j] := en.trans (er _ (List.getElem_mem hjl)).symm
      refine ⟨_, _, rfl, p1.trans kp_upd, (upd_ne nld).trans p2, upd_same, ends_put p4 hm1, tabs_dK p3 p5, ?_, by have := length_putK kvs2 (.inr rs[j]) (.str (EM ms now)); omega⟩
      rw [valV_put]
      split
      · rfl
      · exact p6
    · obtain ⟨x6', kvs2, rfl, p1, p2, p3, p4, p5, p6, p7⟩ := p
      obtain ⟨w1, hw1⟩ := Option.isSome_iff_exists.mp p6
      have ew := p4 _ _ hw1
      subst ew
      rw [List.length_map] at p7
      refine ⟨.ref d, rfl, .str now, rfl, d, .str (EM ms now), rfl, by rw [← hw1]; exact DGet.k (k := .inr now) p3, ?_⟩
      rw [en]
      exact q H2 kvs2 p1 p3 p4 (by omega) p5
  | none =>
    obtain ⟨lk0, lr0⟩ := lno hval
    refine ⟨true, fun H1 e Q q => ⟨.str now, rfl, .ref d, rfl, d, valV kvs1 (.inr now), rfl, DGet.k (k := .inr now) (e _ _ hd1), true, by rw [hval]; rfl, q H1 (Ex.refl _)⟩, fun _ H1 e1 => ?_, (fun z => nomatch z)⟩
    have hl1 := e1 _ _ hl
    refine ⟨fun σ2 H2 => ∃ m', m' < 2 * now.length + (if (Option.isSome (none : Option V)) = true then 0 else 1) ∧ EoI K Ts H v z ms d l kvs m' σ2 H2, fun _ _ h => h, ?_⟩
    refine ⟨.ref l, rfl, .inl ⟨rfl, _, Evl.sq_of hl1⟩, .str now, rfl, l, _, .str now, rfl, rfl, hl1, Evl.sz_lt (by rw [List.length_map]; omega), ?_⟩
    obtain ⟨G, eG⟩ : ∃ G, G = upd H1 l (.lst (rs.map V.str ++ [.str now])) := ⟨_, rfl⟩
    rw [← eG]
    have kG : Kp d H G := by rw [eG]; exact (kp.trans (kp_ex e1)).mut nl
    have hlG : G l = some (.lst ((rs ++ [now]).map V.str)) := by rw [eG, upd_same, List.map_append]; rfl
    have hdG : G d = some (.dK kvs1) := by rw [eG, upd_ne nld.symm]; exact e1 _ _ hd1
    have tG : TabsN Ts G := by rw [eG]; exact tabs_lst hl1 (t1.ext e1)
    refine ⟨v, rfl, .str now, rfl, v, ms, now, rfl, dp_kp hd kG h0, by omega, hp, lens, tG, fun u H2 e2 t2 hu => ?_⟩
    have k2 : Kp d H H2 := kG.trans (kp_ext e2)
    have hl2 := e2 _ _ hlG (fun _ z => nomatch z)
    have hd2 := e2 _ _ hdG (fun _ z => nomatch z)
    have er2 : ∀ r ∈ rs ++ [now], EM ms r = EM ms z := fun r hr => by
      rcases List.mem_append.mp hr with hr | hr
      · exact er r hr
      · rw [List.mem_singleton.mp hr]; exact en
    dsimp only [gName]
    cases hk : nextK ms now with
    | none =>
      have ed : nextD ms now = .none := by unfold nextD; rw [hk]
      rw [ed] at hu
      cases hu
      refine ⟨.non, rfl, true, by simp, ?_⟩
      dsimp only
      rw [if_pos rfl]
      refine ⟨.str now, rfl, .ref d, rfl, .str now, rfl, d, _, rfl, DPut.k (k := .inr now) hd2 (Evl.sz_lt (by omega)), ?_⟩
      have hself : valV (putK kvs1 (.inr now) (V.str now)) (.inr now) = some (.str now) := by rw [valV_put, if_pos rfl]
      refine ⟨2 * now.length, by simp, now, rs ++ [now], _, _, _, rfl, by rw [hself]; rfl, k2.trans kp_upd, (upd_ne nld).trans hl2, upd_same, ends_put hok1 (em_none hk).symm, tabs_dK hd2 t2, en, er2, ln, by have := length_putK kvs1 (.inr now) (V.str now); omega, by rw [List.length_append]; show rs.length + 1 + _ ≤ _; omega, fun hn => by rw [hself] at hn; cases hn⟩
    | some pk =>
      obtain ⟨p, k⟩ := pk
      have ed : nextD ms now = dD p k := by unfold nextD; rw [hk]
      rw [ed] at hu
      obtain ⟨f1, f2, f3, f4, f5, f6⟩ := next_fit hk
      have hless := next_less hm hk
      have hl12 := lens k f2
      have hu' := hu
      unfold dD at hu'
      cases hu' with
      | tup hs hx =>
        rename_i a xs
        refine ⟨.ref a, rfl, false, by simp, ?_⟩
        dsimp only
        rw [if_neg (by decide)]
        refine AsKit.s_asg (K := K) (d_call (ds_cons (d_var (i := 4) ⟨_, rfl, .str now⟩) (ds_cons (d_var (i := 5) ⟨_, rfl, hu⟩) ds_nil)) ⟨now, p, k, rfl, by omega, hl12.1, hl12.2⟩) fun v3 H3 e3 h3 => ?_
        cases h3
        have c1 : 2 * (bhS now p k).length + (if (valV kvs1 (.inr (bhS now p k))).isSome = true then 0 else 1) < 2 * now.length + (if (Option.isSome (none : Option V)) = true then 0 else 1) := by
          split <;> simp <;> omega
        exact ⟨_, c1, bhS now p k, rs ++ [now], kvs1, _, _, rfl, rfl, k2.trans (kp_ex e3), e3 _ _ hl2, e3 _ _ hd2, hok1, t2.ext e3, (em_step hm hk).symm.trans en, er2, by omega, by omega, by rw [List.length_append]; show rs.length + 1 + _ ≤ _; omega, fun _ => ⟨lk0, by rw [List.length_append]; show rs.length + 1 + _ ≤ _; omega⟩⟩
end
end K26

set_option maxHeartbeats 4000000
set_option autoImplicit false
/-! copies_of_level. -/
namespace K26
open PySem PySem.Spec PyProof.Rows L2 AsSort AsKit AsMax AsMin
open Evl (Ex Ev EvT EvA)
open LamX (ExtN TabB)
open NdefX (TabsN NTab NScope nscope_by NF startF)
section
variable {P : Program} {w : World} {K : PySem.W.Frag} {mg : Str → Option Value} {base : Heap}
/-- what is seen -/
def SeenIs (sn : List Str) (kvs : List (Key × V)) : Prop := (∀ s, (valV kvs (.inr s)).isSome = decide (s ∈ sn)) ∧ kvs.length ≤ sn.length
theorem seen_put {sn : List Str} {kvs : List (Key × V)} (h : SeenIs sn kvs) (c : Str) : SeenIs (sn ++ [c]) (putK kvs (.inr c) (.bl true)) := by
  refine ⟨fun s => ?_, by have := length_putK kvs (.inr c) (.bl true); have := h.2; rw [List.length_append]; show _ ≤ _ + 1; omega⟩
  rw [valV_put]
  by_cases e : (Sum.inr s : Key) = .inr c
  · rw [if_pos e]
    cases e
    simp
  · rw [if_neg e, h.1 s]
    have : s ≠ c := fun z => e (by rw [z])
    simp [this]
theorem seen_one (z : Str) : SeenIs [z] [(.inr z, .bl true)] := by
  refine ⟨fun s => ?_, Nat.le_refl _⟩
  by_cases e : s = z
  · subst e
    rw [valV_pos rfl]
    simp
  · rw [valV_neg (fun q => e (Sum.inr.inj q).symm), valV_nil]
    simp [e]
theorem kp_bt {d : Addr} {H H' : Hp} (b : Bt d H H') : Kp d H H' := fun x o n h _ => b x o n h
theorem tabs_btd {Ts : List NTab} {d : Addr} {kvs : List (Key × V)} {H H' : Hp} (h1 : H d = some (.dK kvs)) (b : Bt d H H') (t : TabsN Ts H) : TabsN Ts H' := fun p hp => by
  obtain ⟨ps, t1, t2, t3⟩ := t p hp
  refine ⟨ps, b _ _ (fun z => by rw [z, h1] at t1; cases t1) t1, t2, fun pos cv hc => ?_⟩
  obtain ⟨c, e1, e2⟩ := t3 pos cv hc
  refine ⟨c, e1, b _ _ (fun z => ?_) e2⟩
  rw [z, h1] at e2
  have e3 := Option.some.inj e2
  unfold LamX.CodeO at e3
  cases e3
theorem bt_mut {d l : Addr} {H H' : Hp} {o : HO} (b : Bt d H H') (n : H l = none) : Bt d H (upd H' l o) := fun x u hx h => (upd_ne (fun z => by rw [z, n] at h; cases h)).trans (b x u hx h)
abbrev sCopiesLv : Stmt := top 41
abbrev nCopiesLv : List Str := ["kinds", "level", "seen", "found", "text", "deed", "copy"]
theorem sc_copies_lv : FnScope nCopiesLv ["kinds", "level", "seen"] (defScope sCopiesLv) := ⟨rfl, rfl, rfl, by decide +kernel, rfl, by decide +kernel, by decide +kernel⟩
def spCopiesLv (K : PySem.W.Frag) : Sp := fun vs H Q _ => ∃ (v : V) (y : Str) (ks : List (Str × Str)) (a : Addr) (lv sn : List Str) (d : Addr) (kvs : List (Key × V)), vs = [v, .ref a, .ref d] ∧ Dp K H v (.tuple (ks.map kD)) ∧ PyData.strOk y = true ∧ (∀ k ∈ ks, Gd y k) ∧ ks.length ≤ 12 ∧ SqL K H a (lv.map V.str) ∧ (∀ t ∈ lv, t.length ≤ 40) ∧ H d = some (.dK kvs) ∧ SeenIs sn kvs ∧ (nextLv ks sn lv).1.length ≤ 99000 ∧ (nextLv ks sn lv).2.length ≤ 99000 ∧ sn.length ≤ 99000 ∧
  ∀ (l : Addr) (H' : Hp) (kvs' : List (Key × V)), Bt d H H' → H l = none → H' l = some (.lst ((nextLv ks sn lv).2.map V.str)) → H' d = some (.dK kvs') → SeenIs (nextLv ks sn lv).1 kvs' → Q (.ref l) H'
theorem foldG_mono (cs : List Str) : ∀ s : List Str × List Str, s.1.length ≤ (cs.foldl stepG s).1.length ∧ s.2.length ≤ (cs.foldl stepG s).2.length := by
  induction cs with
  | nil => exact fun s => ⟨Nat.le_refl _, Nat.le_refl _⟩
  | cons c cs ih =>
    intro s
    have h1 := ih (stepG s c)
    have h2 : s.1.length ≤ (stepG s c).1.length ∧ s.2.length ≤ (stepG s c).2.length := by
      unfold stepG
      split
      · exact ⟨Nat.le_refl _, Nat.le_refl _⟩
      · exact ⟨by simp, by simp⟩
    show s.1.length ≤ (cs.foldl stepG (stepG s c)).1.length ∧ s.2.length ≤ (cs.foldl stepG (stepG s c)).2.length
    omega
theorem foldL_mono {ks : List (Str × Str)} : ∀ (lv : List Str) (s : List Str × List Str), s.1.length ≤ (lv.foldl (stepL ks) s).1.length ∧ s.2.length ≤ (lv.foldl (stepL ks) s).2.length
  | [], s => ⟨Nat.le_refl _, Nat.le_refl _⟩
  | t :: lv, s => by
    have h1 := foldL_mono (ks := ks) lv (stepL ks s t)
    have h2 := foldG_mono (behinds ks t) s
    show s.1.length ≤ (lv.foldl (stepL ks) (stepL ks s t)).1.length ∧ s.2.length ≤ (lv.foldl (stepL ks) (stepL ks s t)).2.length
    unfold stepL at *
    omega
/-- sizes on the way are no greater than at the end -/
theorem way_len {ks : List (Str × Str)} {lv : List Str} {sn : List Str} {i : Nat} {t : Str} (ht : lv[i]? = some t) (j : Nat) :
    (((behinds ks t).take j).foldl stepG ((lv.take i).foldl (stepL ks) (sn, []))).1.length ≤ (nextLv ks sn lv).1.length ∧ (((behinds ks t).take j).foldl stepG ((lv.take i).foldl (stepL ks) (sn, []))).2.length ≤ (nextLv ks sn lv).2.length := by
  obtain ⟨s, hs⟩ : ∃ s, s = (lv.take i).foldl (stepL ks) (sn, []) := ⟨_, rfl⟩
  rw [← hs]
  have e1 : nextLv ks sn lv = (lv.drop i).foldl (stepL ks) s := by
    unfold nextLv
    rw [hs, ← List.foldl_append, List.take_append_drop]
  have e2 : lv.drop i = t :: lv.drop (i + 1) := by
    obtain ⟨h1, h2⟩ := List.getElem?_eq_some_iff.mp ht
    rw [← h2]
    exact (List.drop_eq_getElem_cons h1)
  have e3 : (behinds ks t).foldl stepG s = ((behinds ks t).drop j).foldl stepG (((behinds ks t).take j).foldl stepG s) := by rw [← List.foldl_append, List.take_append_drop]
  have m1 := foldG_mono ((behinds ks t).drop j) (((behinds ks t).take j).foldl stepG s)
  have m2 := foldL_mono (ks := ks) (lv.drop (i + 1)) (stepL ks s t)
  rw [e1, e2]
  show _ ≤ ((lv.drop (i + 1)).foldl (stepL ks) (stepL ks s t)).1.length ∧ _ ≤ ((lv.drop (i + 1)).foldl (stepL ks) (stepL ks s t)).2.length
  rw [← e3] at m1
  unfold stepL at *
  omega
theorem c_copies_lv (D : Df K mg "copies_of_level" sCopiesLv) (hb : Bl mg) (C1 : Cl P w K mg base 5 "deeds_on" (spDeedsOn K) []) (C2 : Cl P w K mg base 1 "text_behind" (spTextBehind K) []) : Cl P w K mg base 6 "copies_of_level" (spCopiesLv K) [] := by
  refine cl_of D sc_copies_lv (fun vs H Q E ⟨v, y, ks, a, lv, sn, d, kvs, h, _⟩ => by rw [h]; rfl) (fun _ _ _ _ _ _ us hl => match us, hl with | [_, _, _], _ => rfl) fun f cdv A outer s H vs Q E hr h => ?_
  obtain ⟨v, y, ks, a, lv, sn, d, kvs, rfl, h0, hso, hg, hkl, hs, hlt, hd, hsn, b1, b2, b3, q⟩ := h
  have hu : (A.deeper (envOfC "copies_of_level" (defScope sCopiesLv) s.heap.objs.size f cdv)).units + 1 < cLine := by have := hr.un; omega
  refine ⟨_, pss_cons (ps_set (i := 3) sc_copies_lv.nd rfl (.inl rfl) (pe_lst pa_nil))
    (pss_cons (ps_for PassesOwn.never rfl (pi_list (pv 1)) (pg_name (i := 4) sc_copies_lv.nd rfl (.inl rfl))
      (pss_one (ps_for PassesOwn.never rfl (pi_tup (C8.pe_c C1 hr (by decide) (by rfl) (pa_cons (pv 0) (pa_cons (pv 4) pa_nil)))) (pg_name (i := 5) sc_copies_lv.nd rfl (.inl rfl))
        (pss_cons (ps_set (i := 6) sc_copies_lv.nd rfl (.inl rfl) (C8.pe_c C2 hr (by decide) (by rfl) (pa_cons (pv 4) (pa_cons (pv 5) pa_nil))))
        (pss_one (ps_if (pt_cmp (pc_dnotin hu (pv 6) (pv 2)))
          (pss_cons (ps_dput hu (pv 2) (pv 6) pe_bl rfl)
          (pss_one (ps_expr (pe_bm PySem.F.plainAttrs_list PySem.F.slot_list_append PySem.F.type_list_append mt_append (pv 3) (pa_cons (pv 6) pa_nil))))) pss_nil))))))
    (pss_one (ps_ret (pv 3)))), ?_⟩
  refine ⟨Evl.sz_of (Nat.zero_le _), fun l nl => ?_⟩
  have nld : l ≠ d := fun e => by rw [e, hd] at nl; cases nl
  have nav : ∀ H', Bt d H H' → SqL K H' a (lv.map V.str) := fun H' b => by
    have ne : ∀ u, H a = some u → (∀ q, u ≠ .dK q) → a ≠ d := fun u h n z => by rw [z, hd] at h; exact n _ (Option.some.inj h).symm
    rcases hs with (hs | ⟨o, hs⟩) | hs
    · exact .inl (.inl (b _ _ (ne _ hs fun _ z => nomatch z) hs))
    · exact .inl (.inr ⟨o, b _ _ (ne _ hs fun _ z => nomatch z) hs⟩)
    · exact .inr hs
  have kin : ∀ p ∈ ks, p.1.length ≤ 40 ∧ p.2.length ≤ 40 ∧ PyData.strOk p.1 = true ∧ PyData.strOk p.2 = true := fun p hp => by
    obtain ⟨g1, g2, g3, g4, g5⟩ := hg p hp
    exact ⟨by omega, by omega, strOk_in hso g3, strOk_in hso g4⟩
  have b0 : Bt d H (upd H l (.lst [])) := bt_mut (Bt.refl d H) nl
  refine ⟨_, rfl, _, rfl, ⟨_, nav _ b0⟩, for_list (xs := lv.map V.str) (fun i σ' H' => ∃ x4 x5 x6 kvs', σ' = [some v, some (.ref a), some (.ref d), some (.ref l), x4, x5, x6] ∧ Bt d H H' ∧ H' l = some (.lst (((lv.take i).foldl (stepL ks) (sn, [])).2.map V.str)) ∧ H' d = some (.dK kvs') ∧ SeenIs ((lv.take i).foldl (stepL ks) (sn, [])).1 kvs')
    ⟨_, _, _, kvs, rfl, b0, upd_same, (upd_ne nld.symm).trans hd, hsn⟩ (fun i σ' H' _ ⟨_, _, _, _, _, p, _⟩ => nav _ p) (fun i x σ' H' hi p => ?_) fun σ' H' p => ?_⟩
  · obtain ⟨x4, x5, x6, kvs1, rfl, p1, p2, p3, p4⟩ := p
    have hil : i < lv.length := by have := (List.getElem?_eq_some_iff.mp hi).1; rw [List.length_map] at this; exact this
    obtain ⟨t, ht⟩ : ∃ t, lv[i]? = some t := ⟨_, List.getElem?_eq_getElem hil⟩
    rw [List.getElem?_map, ht] at hi
    have hx : V.str t = x := Option.some.inj hi
    subst hx
    have hlt1 := hlt t (List.mem_of_getElem? ht)
    obtain ⟨s0, hs0⟩ : ∃ s0, s0 = (lv.take i).foldl (stepL ks) (sn, []) := ⟨_, rfl⟩
    have hnext : (lv.take (i + 1)).foldl (stepL ks) (sn, []) = (behinds ks t).foldl stepG s0 := by
      rw [List.take_add_one, ht, List.foldl_append, ← hs0]
      rfl
    have wl := fun j => way_len (ks := ks) (sn := sn) ht j
    rw [hnext]
    rw [← hs0] at p2 p4 wl
    dsimp only [gName]
    have hv1 : Dp K H' v (.tuple (ks.map kD)) := dp_kp hd (kp_bt p1) h0
    refine d_call (K := K) (E := C8.E0) (ds_cons (d_var (i := 0) ⟨_, rfl, hv1⟩) (ds_cons (d_var (i := 4) ⟨_, rfl, .str t⟩) ds_nil)) ⟨_, _, rfl, ks, t, rfl, rfl, by omega, by omega, kin⟩ H' (Ex.refl _) _ fun u H2 e2 hu2 => ?_
    have hu2' : Dp K H2 u (.tuple (deedsL ks t)) := by
      have : dn2 (.tuple (ks.map kD)) (.str t) = .tuple (deedsL ks t) := by show PyData.tuple (deedsL (pairsOf (.tuple (ks.map kD))) t) = _; rw [pairs_map]
      have h3 : Dp K H2 u (dn2 (.tuple (ks.map kD)) (.str t)) := hu2
      rw [this] at h3
      exact h3
    cases hu2' with
    | tup hq hx2 =>
      rename_i ta txs
      have h2d := e2 _ _ p3
      have b2' : Bt d H H2 := p1.trans (bt_ex e2)
      have nat : ∀ G, Bt d H2 G → SqT K G ta txs := fun G b => tup_kp h2d (kp_bt b) hq
      have bl : (behinds ks t).length = txs.length := by rw [dpAll_len hx2]; exact List.length_map ..
      refine ⟨ta, rfl, ⟨_, hq⟩, for_tup (xs := txs) (fun j σ' G => ∃ x5 x6 kvs', σ' = [some v, some (.ref a), some (.ref d), some (.ref l), some (.str t), x5, x6] ∧ Bt d H G ∧ Bt d H2 (upd G l (.lst (s0.2.map V.str))) ∧ G l = some (.lst ((((behinds ks t).take j).foldl stepG s0).2.map V.str)) ∧ G d = some (.dK kvs') ∧ SeenIs (((behinds ks t).take j).foldl stepG s0).1 kvs')
        ⟨_, _, kvs1, rfl, b2', fun x o nx h => ?_, by rw [List.take_zero]; exact e2 _ _ p2, h2d, by rw [List.take_zero]; exact p4⟩ (fun j σ' G _ p => ?_) (fun j x2 σ' G hj p => ?_) fun σ' G p => ?_⟩
      · by_cases e : x = l
        · subst e
          rw [upd_same, ← h]
          exact (e2 _ _ p2).symm
        · exact (upd_ne e).trans h
      · obtain ⟨_, _, _, _, _, z, zl, _⟩ := p
        have z2 := tup_kp h2d (kp_bt z) hq
        rcases z2 with (z2 | ⟨o, z2⟩) | z2
        · by_cases e : ta = l
          · rw [e, upd_same] at z2
            cases z2
          · exact .inl (.inl ((upd_ne e).symm.trans z2))
        · by_cases e : ta = l
          · rw [e, upd_same] at z2
            cases z2
          · exact .inl (.inr ⟨o, (upd_ne e).symm.trans z2⟩)
        · exact .inr z2
      · obtain ⟨x5', x6', kvs2, rfl, r1, r2, r3, r4, r5⟩ := p
        have hjl := (List.getElem?_eq_some_iff.mp hj).1
        have hjd : j < (deedsL ks t).length := by rw [← dpAll_len hx2]; exact hjl
        obtain ⟨dd, hdd⟩ : ∃ dd, (deedsL ks t)[j]? = some dd := ⟨_, List.getElem?_eq_getElem hjd⟩
        obtain ⟨p, k, rfl, k1, k2, k3⟩ := deed_in (List.mem_of_getElem? hdd)
        have hc : (behinds ks t)[j]? = some (bhS t p k) := by unfold behinds; rw [List.getElem?_map, hdd]; rfl
        have hdp2 : Dp K H2 x2 (dD p k) := dpAll_get hx2 hj hdd
        have hdpG : Dp K (upd G l (.lst (s0.2.map V.str))) x2 (dD p k) := dp_kp h2d (kp_bt r2) hdp2
        have hdp : Dp K G x2 (dD p k) := by
          have := dp_tu (tu_lst (p := l) (o := .lst ((((behinds ks t).take j).foldl stepG s0).2.map V.str)) (upd_same (H := G) (a := l) (o := .lst (s0.2.map V.str)))) rfl hdpG
          have eU : upd (upd G l (.lst (s0.2.map V.str))) l (.lst ((((behinds ks t).take j).foldl stepG s0).2.map V.str)) = G := by
            funext b
            by_cases e : b = l
            · rw [e, upd_same, r3]
            · rw [upd_ne e, upd_ne e]
          rw [eU] at this
          exact this
        have step : ((behinds ks t).take (j + 1)).foldl stepG s0 = stepG (((behinds ks t).take j).foldl stepG s0) (bhS t p k) := by
          rw [List.take_add_one, hc, List.foldl_append]
          rfl
        obtain ⟨wl1, wl2⟩ := wl j
        obtain ⟨sj, hsj⟩ : ∃ sj, sj = ((behinds ks t).take j).foldl stepG s0 := ⟨_, rfl⟩
        rw [step]
        rw [← hsj] at r3 r5 wl1 wl2 ⊢
        dsimp only [gName]
        have kk := kin k k1
        refine AsKit.q_asg (K := K) (d_call (ds_cons (d_var (i := 4) ⟨_, rfl, .str t⟩) (ds_cons (d_var (i := 5) ⟨_, rfl, hdp⟩) ds_nil)) ⟨t, p, k, rfl, by omega, kk.1, kk.2.1⟩) fun v6 G3 e3 h6 => ?_
        cases h6
        have tst : EvT (tB (tDNotIn (tVar 6) (tVar 2))) [some v, some (.ref a), some (.ref d), some (.ref l), some (.str t), some x2, some (.str (bhS t p k))] G3 (!(valV kvs2 (.inr (bhS t p k))).isSome) := fun H1 e Q q => ⟨.str (bhS t p k), rfl, .ref d, rfl, d, valV kvs2 (.inr (bhS t p k)), rfl, DGet.k (k := .inr (bhS t p k)) (e _ _ (e3 _ _ r4)), _, rfl, q H1 (Ex.refl _)⟩
        have l2 : sj.2.length ≤ 99000 := by omega
        have l1 : sj.1.length ≤ 99000 := by omega
        refine Evl.s_when tst (fun hb1 G4 e4 => ?_) fun hb1 G4 e4 => ?_
        · rw [r5.1, Bool.not_eq_true', decide_eq_false_iff_not] at hb1
          have g4d := e4 _ _ (e3 _ _ r4)
          have g4l := e4 _ _ (e3 _ _ r3)
          have es : stepG sj (bhS t p k) = (sj.1 ++ [bhS t p k], sj.2 ++ [bhS t p k]) := by unfold stepG; rw [if_neg hb1]
          have kl := r5.2
          refine ⟨.ref d, rfl, .str (bhS t p k), rfl, d, _, rfl, DPut.k (k := .inr (bhS t p k)) g4d (Evl.sz_lt (by omega)), ?_⟩
          have g5l : (upd G4 d (.dK (putK kvs2 (.inr (bhS t p k)) (.bl true)))) l = some (.lst (sj.2.map V.str)) := (upd_ne nld).trans g4l
          refine ⟨.ref l, rfl, .inl ⟨rfl, _, Evl.sq_of g5l⟩, .str (bhS t p k), rfl, l, _, .str (bhS t p k), rfl, rfl, g5l, Evl.sz_lt (by rw [List.length_map]; omega), ?_⟩
          refine ⟨_, _, _, rfl, bt_mut ((r1.trans (bt_ex (e3.trans e4))).trans bt_upd) nl, fun x o nx h => ?_, by rw [es, upd_same, List.map_append]; rfl, (upd_ne nld.symm).trans upd_same, by rw [es]; exact seen_put r5 _⟩
          have h5 := r2 x o nx h
          by_cases e : x = l
          · subst e
            rw [upd_same] at h5 ⊢
            exact h5
          · rw [upd_ne e] at h5
            rw [upd_ne e, upd_ne e, upd_ne nx]
            exact e4 _ _ (e3 _ _ h5)
        · rw [r5.1, Bool.not_eq_false', decide_eq_true_eq] at hb1
          have es : stepG sj (bhS t p k) = sj := by unfold stepG; rw [if_pos hb1]
          rw [es]
          refine ⟨_, _, kvs2, rfl, r1.trans (bt_ex (e3.trans e4)), fun x o nx h => ?_, e4 _ _ (e3 _ _ r3), e4 _ _ (e3 _ _ r4), r5⟩
          have h5 := r2 x o nx h
          by_cases e : x = l
          · subst e
            rw [upd_same] at h5 ⊢
            exact h5
          · rw [upd_ne e] at h5
            rw [upd_ne e]
            exact e4 _ _ (e3 _ _ h5)
      · obtain ⟨x5', x6', kvs2, rfl, r1, r2, r3, r4, r5⟩ := p
        rw [← bl, List.take_length] at r3 r5
        exact ⟨_, _, _, kvs2, rfl, r1, r3, r4, r5⟩
  · obtain ⟨x4, x5, x6, kvs1, rfl, p1, p2, p3, p4⟩ := p
    rw [List.length_map, List.take_length] at p2 p4
    exact ⟨_, rfl, q l H' kvs1 p1 nl p2 p3 p4⟩
end
end K26

set_option maxHeartbeats 4000000
set_option autoImplicit false
/-! first_unmended. -/
namespace K26
open PySem PySem.Spec PyProof.Rows L2 AsSort AsKit AsMax AsMin
open Evl (Ex Ev EvT EvA)
open LamX (ExtN TabB)
open NdefX (TabsN NTab NScope nscope_by NF startF)
/-- how many there are -/
def lvB : Nat → Nat
  | 0 => 1
  | 1 => 27
  | _ => 810
theorem lvl_len {y : Str} {ks : List (Str × Str)} (hk : ∀ k ∈ ks, Gd y k) (hl : ks.length ≤ 3) {z : Str} (hz : TxOk y 8 z) : ∀ c, c ≤ 2 → (lvl ks z c).2.length ≤ lvB c ∧ (lvl ks z c).1.length ≤ 840 := by
  have st : ∀ c B, (lvl ks z c).2.length ≤ lvB c → 3 * (8 + c + 1) ≤ B → (lvl ks z (c + 1)).2.length ≤ lvB c * B ∧ (lvl ks z (c + 1)).1.length ≤ (lvl ks z c).1.length + lvB c * B := fun c B h hB => by
    have hb : ∀ t ∈ (lvl ks z c).2, (behinds ks t).length ≤ B := fun t ht => by
      have h1 := behinds_len (ks := ks) (t := t)
      have h2 := (lvl_ok hk hz c t ht).1
      have h3 : (t.length + 1) * ks.length ≤ (8 + c + 1) * 3 := Nat.mul_le_mul (by omega) hl
      omega
    have h1 := foldL_len (ks := ks) (B := B) (lvl ks z c).2 ((lvl ks z c).1, []) hb
    have h2 : (lvl ks z c).2.length * B ≤ lvB c * B := Nat.mul_le_mul_right _ h
    have h3 : (([] : List Str)).length = 0 := rfl
    show (((lvl ks z c).2.foldl (stepL ks) ((lvl ks z c).1, [])).2.length ≤ _) ∧ (((lvl ks z c).2.foldl (stepL ks) ((lvl ks z c).1, [])).1.length ≤ _)
    refine ⟨?_, ?_⟩
    · have := h1.2
      show _ ≤ _
      simp only [List.length_nil, Nat.zero_add] at this
      omega
    · have := h1.1
      simp only at this
      omega
  have s0 := st 0 27 (Nat.le_refl 1) (by decide)
  have s1 := st 1 30 (by have := s0.1; show _ ≤ 27; simpa [lvB] using this) (by decide)
  have e0 : (lvl ks z 0).1.length = 1 := rfl
  have m0 : lvB 0 * 27 = 27 := rfl
  have m1 : lvB 1 * 30 = 810 := rfl
  rw [m0, e0] at s0
  rw [m1] at s1
  intro c hc
  match c, hc with
  | 0, _ => exact ⟨Nat.le_refl _, by rw [e0]; omega⟩
  | 1, _ => exact ⟨s0.1, by have := s0.2; show (lvl ks z (0 + 1)).1.length ≤ _; omega⟩
  | 2, _ => exact ⟨s1.1, by have q1 := s1.2; have q2 : (lvl ks z 1).1.length ≤ 1 + 27 := s0.2; show (lvl ks z (1 + 1)).1.length ≤ _; omega⟩
section
variable {P : Program} {w : World} {K : PySem.W.Frag} {mg : Str → Option Value} {base : Heap}
abbrev sFirst : Stmt := top 40
abbrev nFirst : List Str := ["kinds", "many", "mender", "text", "ends", "seen", "level", "count", "wrong", "copy"]
theorem sc_first : FnScope nFirst ["kinds", "many", "mender", "text", "ends"] (defScope sFirst) := ⟨rfl, rfl, rfl, by decide +kernel, rfl, by decide +kernel, by decide +kernel⟩
def optS : Option Str → PyData
  | some s => .str s
  | none => .none
/-- how many ends are told by turn i -/
def lvS : Nat → Nat
  | 0 => 0
  | 1 => 12
  | 2 => 336
  | _ => 10056
def spFirst (K : PySem.W.Frag) (Ts : List NTab) : Sp := fun vs H Q _ => ∃ (v vm : V) (y : Str) (ks ms : List (Str × Str)) (z : Str) (many : Nat) (d : Addr) (kvs : List (Key × V)), vs = [v, .int (many : Int), vm, .str z, .ref d] ∧ Dp K H v (.tuple (ks.map kD)) ∧ Dp K H vm (.tuple (ms.map kD)) ∧
  PyData.strOk y = true ∧ (∀ k ∈ ks, Gd y k) ∧ ks.length ≤ 3 ∧ ms.length ≤ 12 ∧ Men y ms ∧ many ≤ 2 ∧ TxOk y 8 z ∧ H d = some (.dK kvs) ∧ EndsOk ms kvs ∧ kvs.length ≤ 60000 ∧ TabsN Ts H ∧
  ∀ (u : V) (H' : Hp) (kvs' : List (Key × V)), Kp d H H' → H' d = some (.dK kvs') → EndsOk ms kvs' → kvs'.length ≤ kvs.length + lvS (many + 1) → TabsN Ts H' → Dp K H' u (optS (firstBad ms ks z (many + 1))) → Q u H'
/-- ahead of turn i -/
def FuI (K : PySem.W.Frag) (Ts : List NTab) (H : Hp) (v vm : V) (z : Str) (many : Nat) (ks ms : List (Str × Str)) (d : Addr) (kvs : List (Key × V)) (i : Nat) (σ : L2.St) (H' : Hp) : Prop := ∃ (dS a : Addr) (kS kvs' : List (Key × V)) (x7 x8 x9 : Option V),
  σ = [some v, some (.int (many : Int)), some vm, some (.str z), some (.ref d), some (.ref dS), some (.ref a), x7, x8, x9] ∧ Kp d H H' ∧ H dS = none ∧ H' dS = some (.dK kS) ∧ SeenIs (lvl ks z (i - 1)).1 kS ∧ H' a = some (.lst ((lvl ks z (i - 1)).2.map V.str)) ∧
  H' d = some (.dK kvs') ∧ EndsOk ms kvs' ∧ kvs'.length ≤ kvs.length + lvS i ∧ TabsN Ts H' ∧ dS ≠ d ∧ ∀ j, j < i → wr ms ks z j = []
theorem lvS_add : ∀ i, i ≤ 2 → lvS (i + 1) = lvS i + 12 * lvB i
  | 0, _ => rfl
  | 1, _ => rfl
  | 2, _ => rfl
theorem lvS_le : ∀ i, i ≤ 3 → lvS i ≤ 11000
  | 0, _ => by decide
  | 1, _ => by decide
  | 2, _ => by decide
  | 3, _ => by decide
theorem lvS_mono (i j : Nat) (h : i ≤ j) (h2 : j ≤ 3) : lvS i ≤ lvS j := by
  have : ∀ j < 4, ∀ i < 4, i ≤ j → lvS i ≤ lvS j := by decide
  exact this j (by omega) i (by omega) h
theorem lvB_le : ∀ i, lvB i ≤ 810
  | 0 => by decide
  | 1 => by decide
  | _ + 2 => Nat.le_refl _
theorem q_mid {t u : TS} {D : Ends} {σ : L2.St} {H : Hp} (R : L2.St → Hp → Prop) (hr : ∀ σ1 H1, R σ1 H1 → u D σ1 H1) (k : (∀ σ1 H1, R σ1 H1 → u D σ1 H1) → t { D with nx := u D } σ H) : tSeq t u D σ H := k hr
/-- behind the level's making -/
def FuR (K : PySem.W.Frag) (Ts : List NTab) (H : Hp) (v vm : V) (z : Str) (many : Nat) (ks ms : List (Str × Str)) (d : Addr) (kvs : List (Key × V)) (i : Nat) (σ : L2.St) (H' : Hp) : Prop := ∃ (dS a : Addr) (kS kvs' : List (Key × V)) (x8 x9 : Option V),
  σ = [some v, some (.int (many : Int)), some vm, some (.str z), some (.ref d), some (.ref dS), some (.ref a), some (.int (i : Int)), x8, x9] ∧ Kp d H H' ∧ H dS = none ∧ H' dS = some (.dK kS) ∧ SeenIs (lvl ks z i).1 kS ∧ H' a = some (.lst ((lvl ks z i).2.map V.str)) ∧
  H' d = some (.dK kvs') ∧ EndsOk ms kvs' ∧ kvs'.length ≤ kvs.length + lvS i ∧ TabsN Ts H' ∧ dS ≠ d ∧ ∀ j, j < i → wr ms ks z j = []
theorem c_first {Ts : List NTab} (D : Df K mg "first_unmended" sFirst) (hb : Bl mg) (hmn : mg "min" = none) (C1 : Cl P w K mg base 6 "copies_of_level" (spCopiesLv K) []) (C2 : Cl P w K mg base 5 "end_of" (spEndOf K Ts) []) (C3 : Kl P w K mg base 1 "text_order" ["text"] (spTextOrder K)) : Cl P w K mg base 7 "first_unmended" (spFirst K Ts) [] := by
  obtain ⟨f1, fd1, F1, hm1, hk1, b1⟩ := C3
  refine cl_of D sc_first (fun vs H Q E ⟨v, vm, y, ks, ms, z, many, d, kvs, h, _⟩ => by rw [h]; rfl) (fun _ _ _ _ _ _ us hl => match us, hl with | [_, _, _, _, _], _ => rfl) fun f cdv A outer s H vs Q E hr h => ?_
  obtain ⟨v, vm, y, ks, ms, z, many, d, kvs, rfl, h0, h2, hso, hg, hkl, hml, hm, hmany, hz, hd, hok, hkv, hT, q⟩ := h
  have hu : (A.deeper (envOfC "first_unmended" (defScope sFirst) s.heap.objs.size f cdv)).units + 1 < cLine := by have := hr.un; omega
  refine ⟨_, pss_cons (ps_set (i := 5) sc_first.nd rfl (.inl rfl) (pe_disp (pps_cons (pv 3) pe_bl pps_nil) rfl rfl (by simp) (by decide)))
    (pss_cons (ps_set (i := 6) sc_first.nd rfl (.inl rfl) (pe_lst (pa_cons (pv 3) pa_nil)))
    (pss_cons (ps_for PassesOwn.never rfl (pi_range1 (by rfl) (hb _ (by decide +kernel)) (pa_cons (pe_op op_add (pv 1) pe_int) pa_nil)) (pg_name (i := 7) sc_first.nd rfl (.inl rfl))
      (pss_cons (ps_if (pt_cmpR op_gt (pv 7) pe_int (nomark _)) (pss_one (ps_set (i := 6) sc_first.nd rfl (.inl rfl) (C8.pe_c C1 hr (by decide) (by rfl) (pa_cons (pv 0) (pa_cons (pv 6) (pa_cons (pv 5) pa_nil)))))) pss_nil)
      (pss_cons (ps_setLcn (i := 8) 9 sc_first.nd (pi_list (pv 6)) (fun _ _ _ _ _ => pts_one (pt_cmpR op_ne (C8.pe_c C2 hr (by decide) (by rfl) (pa_cons (pv 2) (pa_cons (pv 9) (pa_cons (pv 4) pa_nil)))) (pv 3) (nomark _))) (fun _ _ _ _ _ => pv 9) (fun _ _ _ _ _ => pg_name sc_first.nd rfl (.inl rfl)) (blkOk_by (N := nFirst) (sc := defScope sFirst) (own := [("copy", 9)]) (by decide +kernel)) rfl rfl rfl (sw_true rfl rfl rfl (by decide +kernel)))
      (pss_one (ps_if (pt_cmpR op_gt (pe_lenQ hb (pv 8)) pe_int (nomark _))
        (pss_one (ps_ret (pe_callBK (cr_minKey F1 (hr.mono (by decide)) b1) (by rfl) hmn (by decide +kernel) (pa_cons (pv 8) pa_nil) (pk_cons (pe_glob (v := .ref f1) (by rfl) hm1 rfl) pk_nil)))) pss_nil)))))
    (pss_one (ps_ret pe_non)))), ?_⟩
  refine fun dS ndS => ?_
  refine ⟨.str z, rfl, upd_same, [(.inr z, .bl true)], rfl, by show 1 ≤ _; decide, ?_⟩
  obtain ⟨HS, eHS⟩ : ∃ HS, HS = upd (upd H dS (.dK [])) dS (.dK (mergeK [] [(.inr z, .bl true)])) := ⟨_, rfl⟩
  rw [← eHS]
  have nSd : dS ≠ d := fun e => by rw [e, hd] at ndS; cases ndS
  have kS0 : Kp d H HS := by rw [eHS]; exact (Kp.mut (Kp.mut (Kp.refl d H) ndS) ndS)
  have hSS : HS dS = some (.dK [(.inr z, .bl true)]) := by rw [eHS, upd_same]; rfl
  have hSd : HS d = some (.dK kvs) := by rw [eHS, upd_ne nSd.symm, upd_ne nSd.symm]; exact hd
  have tS : TabsN Ts HS := by rw [eHS]; exact tabs_dK (upd_same) (hT.ext (Ex.new ndS))
  refine ⟨.str z, rfl, Evl.sz_of (by show 1 ≤ _; decide), fun a na => ?_⟩
  have xS : Ex HS (upd HS a (.lst [.str z])) := Ex.new na
  refine Evl.q_forR1 (n := ((many + 1 : Nat) : Int)) (ds_ev (K := K) (ds_cons (d_eqTo (d_arI (g := fun i j => i + j) (d_var (i := 1) ⟨_, rfl, .int _⟩) d_int) (by show PyData.int ((many : Int) + 1) = _; rw [Int.natCast_add]; rfl)) ds_nil)) (by omega)
    (fun i σ' H' => FuI K Ts H v vm z many ks ms d kvs i σ' H')
    (fun H1 e1 => ⟨dS, a, _, kvs, _, _, _, rfl, (kS0.trans (kp_ex xS)).trans (kp_ex e1), ndS, e1 _ _ (xS _ _ hSS), seen_one z, e1 _ _ upd_same, e1 _ _ (xS _ _ hSd), hok, Nat.le_refl _, (tS.ext xS).ext e1, nSd, fun j hj => absurd hj (Nat.not_lt_zero _)⟩) (fun i σ' H' hi hW => ?_) fun σ' H' hW => ?_
  · have hi2 : i ≤ many := by omega
    have hi3 : i ≤ 2 := by omega
    refine q_mid (FuR K Ts H v vm z many ks ms d kvs i) (fun σ1 H1 hR => ?_) fun rest => ?_
    · obtain ⟨dS1, a1, kS1, kvs1, x8, x9, rfl, p1, p2, p3, p4, p5, p6, p7, p8, p9, p10, p11⟩ := hR
      have L1 := lvl_len hg hkl hz i hi3
      have nad : a1 ≠ d := fun e => by rw [e, p6] at p5; cases p5
      have lvb := lvS_add i hi3
      have lvt := lvS_le (i + 1) (by omega)
      have lvm := lvS_mono (i + 1) (many + 1) (by omega) (by omega)
      refine ⟨_, rfl, _, rfl, ⟨_, Evl.sq_of p5⟩, fun Dl nD => lc_list (fun j H' => Kp d H1 H' ∧ ∃ kvs', H' d = some (.dK kvs') ∧ EndsOk ms kvs' ∧ kvs'.length ≤ kvs1.length + 12 * j ∧ TabsN Ts H' ∧ H' Dl = some (.lst ((((lvl ks z i).2.take j).filter fun s => !decide (EM ms s = z)).map V.str)))
        ⟨(Kp.refl d H1).mut nD, kvs1, (upd_ne (fun e => by rw [← e, p6] at nD; cases nD)).trans p6, p7, by omega, p9.ext (Ex.new nD), upd_same⟩ (fun j H' _ p => Evl.sq_of (p.1 _ _ nad p5 (fun _ e => nomatch e))) (fun j x H' hj p => ?_) fun H' p => ?_⟩
      · obtain ⟨k1, kvs2, r1, r2, r3, r4, r5⟩ := p
        have hjl : j < (lvl ks z i).2.length := by have := (List.getElem?_eq_some_iff.mp hj).1; rw [List.length_map] at this; exact this
        obtain ⟨t, ht⟩ : ∃ t, (lvl ks z i).2[j]? = some t := ⟨_, List.getElem?_eq_getElem hjl⟩
        rw [List.getElem?_map, ht] at hj
        have hx : V.str t = x := Option.some.inj hj
        subst hx
        have htx := lvl_ok hg hz i t (List.mem_of_getElem? ht)
        have tl := htx.1
        have b1 := L1.1
        have bb := lvB_le i
        have tk : ((lvl ks z i).2.take (j + 1)).filter (fun s => !decide (EM ms s = z)) = ((lvl ks z i).2.take j).filter (fun s => !decide (EM ms s = z)) ++ (if EM ms t = z then [] else [t]) := by
          rw [List.take_add_one, ht, List.filter_append]
          congr 1
          by_cases e : EM ms t = z
          · simp [e]
          · simp [e]
        refine ⟨rfl, vm, rfl, .str t, rfl, .ref d, rfl, vm, y, ms, t, d, kvs2, rfl, dp_kp hd (p1.trans k1) h2, by omega, by omega, hm, r1, r2, by omega, r4, fun H3 kvs3 k3 d3 ok3 l3 t3 => ⟨.str z, rfl, rfl, _, rfl, ?_⟩⟩
        rw [tk]
        have k13 := k1.trans k3
        have hl3 : H3 Dl = some (.lst ((((lvl ks z i).2.take j).filter fun s => !decide (EM ms s = z)).map V.str)) := k3 _ _ (fun e => by rw [e, r1] at r5; cases r5) r5 (fun _ e => nomatch e)
        have ln : ((((lvl ks z i).2.take j).filter fun s => !decide (EM ms s = z)).map V.str).length ≤ 810 := by
          rw [List.length_map]
          have q1 := List.length_filter_le (fun s => !decide (EM ms s = z)) ((lvl ks z i).2.take j)
          have q2 := List.length_take_le' j (lvl ks z i).2
          omega
        by_cases e : EM ms t = z
        · have eb : (!decide (V.str (EM ms t) = V.str z)) = false := by simp [e]
          dsimp only
          rw [eb, if_neg Bool.false_ne_true, if_pos e, List.append_nil]
          exact ⟨k13, kvs3, d3, ok3, by omega, t3, hl3⟩
        · have eb : (!decide (V.str (EM ms t) = V.str z)) = true := by simp [e]
          dsimp only
          rw [eb, if_pos rfl, if_neg e, List.map_append]
          exact ⟨.str t, rfl, _, hl3, Evl.sz_lt (by omega), k13.mut nD, kvs3, (upd_ne (fun e => by rw [← e, p6] at nD; cases nD)).trans d3, ok3, by omega, tabs_lst hl3 t3, upd_same⟩
      · obtain ⟨k1, kvs2, r1, r2, r3, r4, r5⟩ := p
        rw [List.length_map, List.take_length] at r5
        rw [List.length_map] at r3
        have b1 := L1.1
        have bb := lvB_le i
        have wl : (wr ms ks z i).length ≤ 810 := by
          have := List.length_filter_le (fun s => !decide (EM ms s = z)) (lvl ks z i).2
          unfold wr
          omega
        have kk := p1.trans k1
        have d3 : Dp K H' (.ref Dl) (.list ((wr ms ks z i).map PyData.str)) := .lst (Evl.sq_of r5) (dp_strs _)
        have hall : ∀ s ∈ wr ms ks z i, s.length ≤ 40000 := fun s hs => by
          have := (lvl_ok hg hz i s (List.mem_filter.mp hs).1).1
          omega
        dsimp only [gName]
        refine Evl.s_if (b := decide ((0 : Int) < (((wr ms ks z i).map PyData.str).length : Int))) (t_ofD (K := K) (d_cmpI (g := fun i j => decide (j < i)) (d_lenL (d_var ⟨_, rfl, d3⟩)) d_int)) (fun hb1 H2 e2 => ?_) fun hb1 H2 e2 => ?_
        · have hpos : 0 < (wr ms ks z i).length := by
            have := of_decide_eq_true hb1
            rw [List.length_map] at this
            omega
          obtain ⟨o1, o2, o3, o4, o5⟩ := ordT_ok (wr ms ks z i) hall
          have em : ((wr ms ks z i).map PyData.str).map (fun d => one ordT [d]) = (wr ms ks z i).map oT := by rw [List.map_map]; rfl
          refine ⟨.ref Dl, rfl, Dl, _, _, rfl, rfl, Evl.sq_of (e2 _ _ r5), dp_strs _, o1, fun dd hdd => ⟨?_, o5 dd hdd⟩, o2, by rw [List.length_map]; exact hpos, fun x dd G hx eG hdp => ?_⟩
          · obtain ⟨s1, _, rfl⟩ := List.mem_map.mp hdd
            exact fun h => nomatch h
          · change ((wr ms ks z i).map PyData.str)[argBest (btD (((wr ms ks z i).map PyData.str).map fun d => one ordT [d])) (((wr ms ks z i).map PyData.str).length - 1)]? = some dd at hx
            rw [em, List.length_map, List.getElem?_map, (minT_at hpos).1] at hx
            have hx := Option.some.inj hx
            subst hx
            refine q x G kvs2 (kk.trans (kp_ex (e2.trans eG))) (eG _ _ (e2 _ _ r1)) r2 (by omega) ((r4.ext e2).ext eG) ?_
            have pl : firstBad ms ks z (many + 1) = some (minT (wr ms ks z i)) := by
              unfold firstBad
              rw [find_range (p := fun c => decide (wr ms ks z c ≠ [])) (n := many + 1) (i := i) (by omega) (decide_eq_true (List.length_pos_iff.mp hpos)) fun j hj => decide_eq_false fun hn => hn (p11 j hj)]
              rfl
            rw [pl]
            exact hdp
        · refine ⟨dS1, a1, kS1, kvs2, _, _, _, rfl, kk.trans (kp_ex e2), p2, e2 _ _ (k1 _ _ p10 p3 (fun _ e => nomatch e)), p4, e2 _ _ (k1 _ _ nad p5 (fun _ e => nomatch e)), e2 _ _ r1, r2, by omega, r4.ext e2, p10, fun j hj => ?_⟩
          rcases Nat.lt_or_eq_of_le (Nat.le_of_lt_succ hj) with hj | rfl
          · exact p11 j hj
          · have := of_decide_eq_false hb1
            rw [List.length_map] at this
            exact List.length_eq_zero_iff.mp (by omega)
    · obtain ⟨dS1, a1, kS1, kvs1, x7, x8, x9, rfl, p1, p2, p3, p4, p5, p6, p7, p8, p9, p10, p11⟩ := hW
      refine Evl.s_when (b := decide ((0 : Int) < (i : Int))) (t_ofD (K := K) (d_cmpI (g := fun i j => decide (j < i)) (d_var ⟨_, rfl, .int _⟩) d_int)) (fun hb1 H2 e2 => ?_) fun hb1 H2 e2 => ?_
      · have hpos := of_decide_eq_true hb1
        obtain ⟨c, rfl⟩ : ∃ c, i = c + 1 := ⟨i - 1, by omega⟩
        rw [Nat.add_sub_cancel] at p4 p5
        have L0 := lvl_len hg hkl hz c (by omega)
        have L1 := lvl_len hg hkl hz (c + 1) hi3
        have bb := lvB_le (c + 1)
        refine ⟨v, rfl, .ref a1, rfl, .ref dS1, rfl, v, y, ks, a1, (lvl ks z c).2, (lvl ks z c).1, dS1, kS1, rfl, dp_kp hd (p1.trans (kp_ex e2)) h0, hso, hg, by omega, Evl.sq_of (e2 _ _ p5), fun t ht => by have := (lvl_ok hg hz c t ht).1; omega, e2 _ _ p3, p4, ?_, ?_, by omega, fun l H3 kS3 b3 nl hl hd3 hs3 => ?_⟩
        · show (lvl ks z (c + 1)).1.length ≤ _
          omega
        · show (lvl ks z (c + 1)).2.length ≤ _
          omega
        · have kp3 : Kp d H H3 := fun b o nb hbo nt => b3 _ _ (fun e => by rw [e, p2] at hbo; cases hbo) (e2 _ _ (p1 _ _ nb hbo nt))
          exact rest _ _ ⟨dS1, l, kS3, kvs1, _, _, rfl, kp3, p2, hd3, hs3, hl, b3 _ _ p10.symm (e2 _ _ p6), p7, p8, tabs_btd (e2 _ _ p3) b3 (p9.ext e2), p10, p11⟩
      · have hz0 := of_decide_eq_false hb1
        have e0 : i = 0 := by omega
        subst e0
        exact rest _ _ ⟨dS1, a1, kS1, kvs1, _, _, rfl, p1.trans (kp_ex e2), p2, e2 _ _ p3, p4, e2 _ _ p5, e2 _ _ p6, p7, p8, p9.ext e2, p10, p11⟩
  · obtain ⟨dS1, a1, kS1, kvs1, x7, x8, x9, rfl, p1, p2, p3, p4, p5, p6, p7, p8, p9, p10, p11⟩ := hW
    have en : (((many + 1 : Nat) : Int)).toNat = many + 1 := by omega
    rw [en] at p8 p11
    refine q .non H' kvs1 p1 p6 p7 ?_ p9 ?_
    · have := lvS_le (many + 1) (by omega)
      omega
    · have pl : firstBad ms ks z (many + 1) = none := by
        unfold firstBad
        rw [List.find?_eq_none.mpr fun j hj => by rw [p11 j (List.mem_range.mp hj)]; simp]
        rfl
      rw [pl]
      exact .non
end
end K26

set_option maxHeartbeats 4000000
set_option autoImplicit false
/-! defs that raise an exception of the program's own, made without arguments. -/
namespace AsKit
open PySem PySem.Spec PyProof.Rows L2 AsSort
open Evl (Ex Ev EvT EvA)
theorem pmk_own0 {X : Cx} {C : Addr} {bmB : List Value} {B newId initId : String} {x : Str} {p pos : Pos} (F : ExcBaseFacts B newId initId bmB) (q : PySem.W.excIn X.K C bmB newId = true) (gC : X.mg x = some (.ref C)) (kC : PySem.W.keepIn X.K (.ref C) = true) (r : Raises X (.ref C)) (hg : Gl X x)
    (hdb : (x == ("__debug__" : Str)) = false := by decide) : PMk X (.Call (.Name x p) [] [] pos) (fun _ H Q => Q (.ref C) none H) := by
  intro pins s σ H Q I h
  refine wpAny_Call_Name_kw (ld_glob I hg gC ?_ hdb)
  refine PySem.W.callWith_K0 I.kIn kC ?_
  show wpAny _ _ (call (.ref C) []) _ _ _
  obtain ⟨bm, N, nm, qn, bs, hdct, sn, sub, ab, col, dd, k0, k1, k2, k3, k5, mN, hC, hN, hni, T⟩ := exc_obj I.kIn q
  refine wpAny_call_exc_subT F T hC hN hni (fun h' e hm => ?_) (Nat.zero_le _)
  exact mk_of I hm r h (I.hok.gone hm.new)
/-- a class of the top, over ValueError, without its own __init__ -/
structure Ec (K : PySem.W.Frag) (mg : Str → Option Value) (x : Str) (C : Addr) : Prop where
  g : mg x = some (.ref C)
  ex : PySem.W.excIn K C [.type "ValueError", .type "Exception", .type "BaseException", .type "object"] "ValueError.__new__" = true
  kp : PySem.W.keepIn K (.ref C) = true
  sb : PySem.W.subIn K (.ref C) (.type "BaseException") = some true
  ty : PySem.W.typeIn K (.ref C) = some (.type "type")
theorem ps_raise0 {X : Cx} {x : Str} {C : Addr} {W : WX} {p pos pos2 : Pos} (c : Ec X.K X.mg x C) (hc : X.calm = true) (tk : Takes X W) (hg : Gl X x) (hdb : (x == ("__debug__" : Str)) = false := by decide) : PS X (.Raise (some (.Call (.Name x p) [] [] pos)) none pos2) (fun _ σ H => W (.ref C) none σ H) :=
  ps_raise hc tk (pmk_own0 PySem.F.excBase_ValueError c.ex c.g c.kp (raises_own c.sb c.ty) hg hdb)
/-- a def that may raise -/
def Klx (P : Program) (w : World) (K : PySem.W.Frag) (mg : Str → Option Value) (base : Heap) (k : Nat) (x : Str) (ps : List Str) (sp : Sp) : Prop := ∃ f fd, FnOk P w K mg base (L2.CX P w) k f fd ps sp ∧ mg x = some (.ref f) ∧ PySem.W.keepIn K (.ref f) = true ∧ Binds K fd ps []
theorem klx_of {P : Program} {w : World} {K : PySem.W.Frag} {mg : Str → Option Value} {base : Heap} {x : Str} {st : Stmt} {N ps : List Str} {k : Nat} {sp : Sp} (D : Df K mg x st) (S : FnScope N ps (defScope st)) (len : ∀ vs H Q E, sp vs H Q E → vs.length = ps.length)
    (hb : ∀ (kV doc pm : Value) (an : Option Addr) (cdv ct : Value) (us : List Value), us.length = ps.length → bindArgs (PySem.W.fnOf x x (defArgs st) (defBody st) (defScope st) .none kV doc pm an cdv ct) ⟨us, []⟩ = pure (ps.zip us))
    (hbody : ∀ (f : Addr) (cdv : Value) (A : Around) (outer : List Env) (s : Shared) (H : Hp) (vs : List V) (Q : VK) (E : XK), Room k (A.deeper (envOfC x (defScope st) s.heap.objs.size f cdv)) → sp vs H Q E →
      ∃ t, PSs (cxOf (L2.CX P w) P w K mg base N x (defScope st) f cdv A outer s H E) (defBody st) t ∧ t { nx := fun _ H' => Q .non H', rt := Q } (start N vs) H) : Klx P w K mg base (k + 1) x ps sp := by
  obtain ⟨f, fd, F, hm⟩ := D
  exact ⟨f, fd, F.ok S len fun cdv A outer s H vs Q E hr h => hbody f cdv A outer s H vs Q E hr h, hm, F.kp, F.bindsN hb⟩
/-- the promise of a check: nothing where all is right, else the exception of the class at C -/
def spCk (K : PySem.W.Frag) (pre : List PyData → Prop) (ok : List PyData → Bool) (C : Addr) : Sp := fun vs H Q E => ∃ ds, DpAll K H vs ds ∧ pre ds ∧ (ok ds = true → ∀ H', Ex H H' → Q .non H') ∧ (ok ds = false → ∀ H', Ex H H' → E (.ref C) none H')
theorem len_ck {K : PySem.W.Frag} {pre : List PyData → Prop} {ok : List PyData → Bool} {C : Addr} {n : Nat} (h : ∀ ds, pre ds → ds.length = n) : ∀ vs H Q E, spCk K pre ok C vs H Q E → vs.length = n := fun vs H Q E ⟨ds, a, b, _⟩ => (dpAll_len a).trans (h ds b)
end AsKit

set_option maxHeartbeats 4000000
set_option autoImplicit false
/-! the checks as defs that raise. -/
namespace K26
open PySem PySem.Spec PyProof.Rows L2 AsSort AsKit AsMax AsMin
open Evl (Ex Ev EvT EvA)
open LamX (ExtN TabB)
open NdefX (TabsN NTab NScope nscope_by NF startF)
abbrev sCheckTexts : Stmt := top 26
abbrev sCheckNumber : Stmt := top 27
def intT (s : String) : Bool := (match kitB s "int" with
  | some b => b
  | none => false) && !(match kitB s "bool" with
  | some b => b
  | none => false)
theorem intT_all : intT "int" = true ∧ intT "bool" = false ∧ intT "NoneType" = false ∧ intT "str" = false ∧ intT "list" = false ∧ intT "tuple" = false ∧ intT "dict" = false := by decide +kernel
theorem isInt_T (d : PyData) : isIntD d = intT (tyName d) := rfl
theorem isInt_int (n : Int) : isIntD (.int n) = true := intT_all.1
theorem isInt_of {d : PyData} (h : isIntD d = true) : ∃ n, d = .int n := by
  obtain ⟨i1, i2, i3, i4, i5, i6, i7⟩ := intT_all
  rw [isInt_T] at h
  cases d with
  | int n => exact ⟨n, rfl⟩
  | bool b => exact absurd (h.symm.trans i2) (by decide)
  | none => exact absurd (h.symm.trans i3) (by decide)
  | str z => exact absurd (h.symm.trans i4) (by decide)
  | list z => exact absurd (h.symm.trans i5) (by decide)
  | tuple z => exact absurd (h.symm.trans i6) (by decide)
  | dict z => exact absurd (h.symm.trans i7) (by decide)
def numD (m : Int) : PyData → Bool
  | .int n => decide (0 ≤ n) && decide (n ≤ m)
  | _ => false
theorem numD_no {m : Int} {d : PyData} (h : isIntD d = false) : numD m d = false := by
  cases d with
  | int n => rw [isInt_int] at h; cases h
  | _ => rfl
def textsD (y : Str) : PyData → Bool
  | .tuple ds => decide (ds.length ≤ 20) && ds.all (withinD y 8)
  | _ => false
theorem textsD_no {y : Str} {d : PyData} (h : isD "tuple" d = false) : textsD y d = false := by
  cases d with
  | tuple z => rw [isD_tup1] at h; cases h
  | _ => rfl
section
variable {P : Program} {w : World} {K : PySem.W.Frag} {mg : Str → Option Value} {base : Heap}
def okL1 : List PyData → Bool
  | [d] => isLettersD d
  | _ => false
abbrev spXLetters (K : PySem.W.Frag) (C : Addr) : Sp := spCk K (fun ds => ∃ d, ds = [d] ∧ Tx d) okL1 C
theorem x_check_letters {C : Addr} (D : Df K mg "check_letters" sCheckLetters) (c : Ec K mg "BadLetters" C) (C1 : Cl P w K mg base 1 "is_letters" (spIsLetters K) []) : Klx P w K mg base 2 "check_letters" ["letters"] (spXLetters K C) := by
  refine klx_of D sc_check_letters (len_ck fun ds ⟨d, h, _⟩ => by rw [h]; rfl) (fun _ _ _ _ _ _ us hl => match us, hl with | [_], _ => rfl) fun f cdv A outer s H vs Q E hr h => ?_
  obtain ⟨ds, hd, ⟨d, rfl, ht⟩, q1, q2⟩ := h
  obtain ⟨v, rfl, h0⟩ := dp1 hd
  refine ⟨_, pss_one (ps_if (pt_not (pt_val (C8.pe_c C1 hr (by decide) (by rfl) (pa_cons (pv 0) pa_nil)))) (pss_one (ps_raise0 c rfl (takes_of rfl rfl rfl rfl) (by rfl))) pss_nil), ?_⟩
  exact Evl.s_if (b := !(isLettersD d)) (Evl.et_not (t_ofB (d_call (ds_cons (d_var ⟨_, rfl, h0⟩) ds_nil) ⟨d, rfl, ht⟩))) (fun hb1 H1 e1 => q2 ((Bool.not_eq_true' _).mp hb1) H1 e1) fun hb1 H1 e1 => q1 ((Bool.not_eq_false' _).mp hb1) H1 e1
def okT2 : List PyData → Bool
  | [.str y, d] => withinD y 40 d
  | _ => false
abbrev spXText (K : PySem.W.Frag) (C : Addr) : Sp := spCk K (fun ds => ∃ y d, ds = [.str y, d] ∧ Tx d) okT2 C
theorem x_check_text {C : Addr} (D : Df K mg "check_text" sCheckText) (c : Ec K mg "BadText" C) (g40 : Gn mg "LONGEST_TEXT" 40) (C1 : Cl P w K mg base 2 "is_text_within" (spIsTextWithin K) []) : Klx P w K mg base 3 "check_text" ["letters", "text"] (spXText K C) := by
  refine klx_of D sc_check_text (len_ck fun ds ⟨y, d, h, _⟩ => by rw [h]; rfl) (fun _ _ _ _ _ _ us hl => match us, hl with | [_, _], _ => rfl) fun f cdv A outer s H vs Q E hr h => ?_
  obtain ⟨ds, hd, ⟨y, d, rfl, ht⟩, q1, q2⟩ := h
  obtain ⟨v, v2, rfl, h0, h1⟩ := dp2 hd
  refine ⟨_, pss_one (ps_if (pt_not (pt_val (C8.pe_c C1 hr (by decide) (by rfl) (pa_cons (pv 0) (pa_cons (pv 1) (pa_cons (pe_gn g40) pa_nil)))))) (pss_one (ps_raise0 c rfl (takes_of rfl rfl rfl rfl) (by rfl))) pss_nil), ?_⟩
  exact Evl.s_if (b := !(withinD y 40 d)) (Evl.et_not (t_ofB (d_call (ds_cons (d_var ⟨_, rfl, h0⟩) (ds_cons (d_var ⟨_, rfl, h1⟩) (ds_cons d_int ds_nil))) ⟨y, d, 40, rfl, ht⟩))) (fun hb1 H1 e1 => q2 ((Bool.not_eq_true' _).mp hb1) H1 e1) fun hb1 H1 e1 => q1 ((Bool.not_eq_false' _).mp hb1) H1 e1
def okK2 : List PyData → Bool
  | [.str y, d] => lotD y d
  | _ => false
abbrev spXKinds (K : PySem.W.Frag) (C : Addr) : Sp := spCk K (fun ds => ∃ y d, ds = [.str y, d] ∧ TxL d) okK2 C
theorem x_check_kinds {C : Addr} (D : Df K mg "check_kinds" sCheckKinds) (c : Ec K mg "BadKinds" C) (C1 : Cl P w K mg base 4 "is_lot" (spIsLot K) []) : Klx P w K mg base 5 "check_kinds" ["letters", "kinds"] (spXKinds K C) := by
  refine klx_of D sc_check_kinds (len_ck fun ds ⟨y, d, h, _⟩ => by rw [h]; rfl) (fun _ _ _ _ _ _ us hl => match us, hl with | [_, _], _ => rfl) fun f cdv A outer s H vs Q E hr h => ?_
  obtain ⟨ds, hd, ⟨y, d, rfl, ht⟩, q1, q2⟩ := h
  obtain ⟨v, v2, rfl, h0, h1⟩ := dp2 hd
  refine ⟨_, pss_one (ps_if (pt_not (pt_val (C8.pe_c C1 hr (by decide) (by rfl) (pa_cons (pv 0) (pa_cons (pv 1) pa_nil))))) (pss_one (ps_raise0 c rfl (takes_of rfl rfl rfl rfl) (by rfl))) pss_nil), ?_⟩
  exact Evl.s_if (b := !(lotD y d)) (Evl.et_not (t_ofB (d_call (ds_cons (d_var ⟨_, rfl, h0⟩) (ds_cons (d_var ⟨_, rfl, h1⟩) ds_nil)) ⟨y, d, rfl, ht⟩))) (fun hb1 H1 e1 => q2 ((Bool.not_eq_true' _).mp hb1) H1 e1) fun hb1 H1 e1 => q1 ((Bool.not_eq_false' _).mp hb1) H1 e1
theorem letters_str {l : PyData} (h : isLettersD l = true) : ∃ y, l = .str y ∧ isLetS y = true := by
  cases l with
  | str y => exact ⟨y, rfl, h⟩
  | _ => cases h
def okN2 : List PyData → Bool
  | [d, .int m] => numD m d
  | _ => false
theorem sc_check_number : FnScope ["number", "most"] ["number", "most"] (defScope sCheckNumber) := ⟨rfl, rfl, rfl, by decide +kernel, rfl, by decide +kernel, by decide +kernel⟩
abbrev spXNumber (K : PySem.W.Frag) (C : Addr) : Sp := spCk K (fun ds => ∃ d m, ds = [d, .int m]) okN2 C
theorem x_check_number {C : Addr} (D : Df K mg "check_number" sCheckNumber) (c : Ec K mg "BadNumber" C) (C1 : Cl P w K mg base 1 "is_integer" (spIsInteger K) []) : Klx P w K mg base 2 "check_number" ["number", "most"] (spXNumber K C) := by
  refine klx_of D sc_check_number (len_ck fun ds ⟨d, m, h⟩ => by rw [h]; rfl) (fun _ _ _ _ _ _ us hl => match us, hl with | [_, _], _ => rfl) fun f cdv A outer s H vs Q E hr h => ?_
  obtain ⟨ds, hd, ⟨d, m, rfl⟩, q1, q2⟩ := h
  obtain ⟨v, v2, rfl, h0, h1⟩ := dp2 hd
  refine ⟨_, pss_one (ps_if (pw_or (pt_not (pt_val (C8.pe_c C1 hr (by decide) (by rfl) (pa_cons (pv 0) pa_nil)))) (pw_or1 (pt_not (pt_chain op_le op_le pe_int (pv 0) (pv 1))))).pt (pss_one (ps_raise0 c rfl (takes_of rfl rfl rfl rfl) (by rfl))) pss_nil), ?_⟩
  have a0 : At K (start ["number", "most"] [v, v2]) H 0 d := ⟨_, rfl, h0⟩
  have a1 : At K (start ["number", "most"] [v, v2]) H 1 (.int m) := ⟨_, rfl, h1⟩
  have t0 : EvT _ (start ["number", "most"] [v, v2]) H (!(isIntD d)) := Evl.et_not (t_ofB (K := K) (d_call (E := C8.E0) (pre := fun ds => ds.length = 1) (g := one fun d => .bool (isIntD d)) (ds_cons (d_var a0) ds_nil) rfl))
  cases hi : isIntD d with
  | true =>
    obtain ⟨n, rfl⟩ := isInt_of hi
    refine Evl.s_if (b := !(isIntD (.int n)) || !(decide ((0 : Int) ≤ n) && decide (n ≤ m))) (Evl.et_or t0 fun _ => Evl.et_not (t_ofD (d_chI (g1 := fun i j => decide (i ≤ j)) (g2 := fun i j => decide (i ≤ j)) d_int (d_var a0) fun _ => d_var a1))) (fun hb1 H1 e1 => ?_) fun hb1 H1 e1 => ?_
    · rw [hi, Bool.not_true, Bool.false_or] at hb1
      exact q2 ((Bool.not_eq_true' _).mp hb1) H1 e1
    · rw [hi, Bool.not_true, Bool.false_or] at hb1
      exact q1 ((Bool.not_eq_false' _).mp hb1) H1 e1
  | false =>
    refine Evl.s_if (b := !(isIntD d) || false) (Evl.et_or t0 fun z => by rw [hi] at z; cases z) (fun hb1 H1 e1 => q2 (numD_no hi) H1 e1) fun hb1 => by rw [hi] at hb1; cases hb1
def okX2 : List PyData → Bool
  | [.str y, d] => textsD y d
  | _ => false
def TxZ (d : PyData) : Prop := ∀ es, d = .tuple es → es.length ≤ 40000 ∧ ∀ e ∈ es, Tx e
abbrev nCheckTexts : List Str := ["letters", "texts", "text"]
theorem sc_check_texts : FnScope nCheckTexts ["letters", "texts"] (defScope sCheckTexts) := ⟨rfl, rfl, rfl, by decide +kernel, rfl, by decide +kernel, by decide +kernel⟩
abbrev spXTexts (K : PySem.W.Frag) (C : Addr) : Sp := spCk K (fun ds => ∃ y d, ds = [.str y, d] ∧ TxZ d) okX2 C
theorem x_check_texts {C : Addr} (D : Df K mg "check_texts" sCheckTexts) (c : Ec K mg "BadTexts" C) (hb : Bl mg) (g20 : Gn mg "MOST_TEXTS" 20) (g8 : Gn mg "LONGEST_OF_TEXTS" 8) (C1 : Cl P w K mg base 2 "is_text_within" (spIsTextWithin K) []) : Klx P w K mg base 3 "check_texts" ["letters", "texts"] (spXTexts K C) := by
  refine klx_of D sc_check_texts (len_ck fun ds ⟨d, m, h, _⟩ => by rw [h]; rfl) (fun _ _ _ _ _ _ us hl => match us, hl with | [_, _], _ => rfl) fun f cdv A outer s H vs Q E hr h => ?_
  obtain ⟨ds, hd, ⟨y, d, rfl, ht⟩, q1, q2⟩ := h
  obtain ⟨v, v2, rfl, d0, d1⟩ := dp2 hd
  refine ⟨_, pss_cons (ps_if (pw_or (pt_not (pt_val (pe_isi (x := "tuple") (T := "tuple") hb (pv 1)))) (pw_or1 (pt_cmpR op_gt (pe_lenQ hb (pv 1)) (pe_gn g20) (nomark _)))).pt (pss_one (ps_raise0 c rfl (takes_of rfl rfl rfl rfl) (by rfl))) pss_nil)
    (pss_one (ps_if (pt_not (pt_val (pe_allL (by rfl) hb (pe_lcn 2 sc_check_texts.nd (pi_tup (pv 1)) (fun _ _ _ _ _ => pts_nil) (fun s2 H2 C cl fp => C8.pe_c C1 hr (by decide) (by rfl) (pa_cons (pv 0) (pa_cons (pv 2) (pa_cons (pe_gn g8) pa_nil)))) (fun _ _ _ _ _ => pg_name sc_check_texts.nd rfl (.inl rfl)) (blkOk_by (N := nCheckTexts) (sc := defScope sCheckTexts) (own := [("text", 2)]) (by decide +kernel)) rfl)))) (pss_one (ps_raise0 c rfl (takes_of rfl rfl rfl rfl) (by rfl))) pss_nil)), ?_⟩
  have a0 : At K (start nCheckTexts [v, v2]) H 0 (.str y) := ⟨_, rfl, d0⟩
  have a1 : At K (start nCheckTexts [v, v2]) H 1 d := ⟨_, rfl, d1⟩
  by_cases hs : isD "tuple" d = true
  · obtain ⟨es, rfl⟩ := isD_tup hs
    obtain ⟨hl, ht⟩ := ht es rfl
    refine Evl.q_when (b := !(isD "tuple" (.tuple es)) || decide ((20 : Int) < (es.length : Int))) (Evl.et_or (Evl.et_not (t_ofB (d_isD (d_var a1)))) fun _ => t_ofD (d_cmpI (g := fun i j => decide (j < i)) (d_lenT (d_var a1)) d_int)) (fun hb1 H1 e1 => ?_) fun hb1 H1 e1 => ?_
    · rw [isD_tup1, Bool.not_true, Bool.false_or] at hb1
      have := of_decide_eq_true hb1
      refine q2 ?_ H1 e1
      show (decide (es.length ≤ 20) && es.all (withinD y 8)) = false
      rw [decide_eq_false (by omega), Bool.false_and]
    · rw [isD_tup1, Bool.not_true, Bool.false_or] at hb1
      have hl20 := of_decide_eq_false hb1
      have e : ((es.filter fun _ => true).map fun d => PyData.bool (withinD y 8 d)) = (es.map (withinD y 8)).map PyData.bool := by
        rw [List.filter_eq_self.mpr fun _ _ => rfl, List.map_map]
        rfl
      have ha : (es.map (withinD y 8)).all id = es.all (withinD y 8) := by
        rw [List.all_map]
        rfl
      have ev : textsD y (.tuple es) = es.all (withinD y 8) := by
        show (decide (es.length ≤ 20) && es.all (withinD y 8)) = _
        rw [decide_eq_true (by omega), Bool.true_and]
      refine Evl.s_if (b := !((es.map (withinD y 8)).all id)) (Evl.et_not (t_ofB (d_all (bs := es.map (withinD y 8)) (d_eqTo (d_lcT (fun _ => true) (fun d => PyData.bool (withinD y 8 d)) (d_var (a1.mono e1)) (by omega) (fun _ _ _ => rfl) fun d hd x H2 e2 hx k hk => hk _ rfl (fun H3 e3 Q q => q H3 (Ex.refl H3)) fun _ => ?_) (congrArg PyData.list e))))) (fun hb1 H2 e2 => ?_) fun hb1 H2 e2 => ?_
      · exact d_call (ds_cons (d_var ⟨_, rfl, dp_ex (e1.trans e2) d0⟩) (ds_cons (d_var ⟨_, rfl, hx⟩) (ds_cons d_int ds_nil))) ⟨y, d, 8, rfl, ht d hd⟩
      · rw [ha] at hb1
        exact q2 (ev.trans ((Bool.not_eq_true' _).mp hb1)) H2 (e1.trans e2)
      · rw [ha] at hb1
        exact q1 (ev.trans ((Bool.not_eq_false' _).mp hb1)) H2 (e1.trans e2)
  · have hs : isD "tuple" d = false := by simpa using hs
    exact Evl.q_when (b := !(isD "tuple" d) || false) (Evl.et_or (Evl.et_not (t_ofB (d_isD (d_var a1)))) fun h => by rw [hs] at h; cases h) (fun hb1 H1 e1 => q2 (textsD_no hs) H1 e1) fun hb1 => by rw [hs] at hb1; cases hb1
end
end K26

set_option maxHeartbeats 4000000
set_option autoImplicit false
/-! the defs of menders, as defs that raise. -/
namespace K26
open PySem PySem.Spec PyProof.Rows L2 AsSort AsKit AsMax AsMin
open Evl (Ex Ev EvT EvA)
open LamX (ExtN TabB)
open NdefX (TabsN NTab NScope nscope_by NF startF)
def anyLe (ps : List (Str × Str)) : Bool := (ps.map fun p => decide ((p.1.length : Int) ≤ (p.2.length : Int))).any id
theorem lot_ps {y : Str} {m : PyData} (h : lotD y m = true) : ∃ ps : List (Str × Str), m = .tuple (ps.map kD) ∧ ps.length ≤ 12 ∧ ∀ p ∈ ps, p.1.length ≤ 3 ∧ p.2.length ≤ 1 := by
  cases m with
  | tuple es =>
    have h : (decide (es.length ≤ 12) && (es.all (kindD y) && decide (es.map pairOf).Nodup)) = true := h
    simp only [Bool.and_eq_true, decide_eq_true_eq] at h
    obtain ⟨h1, h2, h3⟩ := h
    have e : es = (es.map pairOf).map kD := by
      rw [List.map_map]
      refine (List.map_id'' (fun _ => rfl) es).symm.trans (List.map_congr_left fun d hd => ?_)
      exact kD_pair (List.all_eq_true.mp h2 d hd)
    refine ⟨es.map pairOf, congrArg PyData.tuple e, by rw [List.length_map]; exact h1, fun p hp => ?_⟩
    obtain ⟨d, hd, rfl⟩ := List.mem_map.mp hp
    have hk := List.all_eq_true.mp h2 d hd
    rw [kD_pair hk] at hk
    have hk : ((withinS y (pairOf d).1 3 && withinS y (pairOf d).2 1) && !decide ((pairOf d).1 = (pairOf d).2)) = true := hk
    unfold withinS at hk
    simp only [Bool.and_eq_true, decide_eq_true_eq] at hk
    obtain ⟨⟨⟨a, _⟩, b, _⟩, _⟩ := hk
    exact ⟨by omega, by omega⟩
  | _ => cases h
/-- a mender: which error, or what is asked where it is right -/
def MR (CK CR : Addr) (y : Str) (m : PyData) (H : Hp) (E : XK) (R : Hp → Prop) : Prop := TxL m ∧ (lotD y m = false → ∀ H', Ex H H' → E (.ref CK) none H') ∧
  ∀ ps, m = .tuple (ps.map kD) → lotD y m = true → (anyLe ps = true → ∀ H', Ex H H' → E (.ref CR) none H') ∧ (anyLe ps = false → ∀ H', Ex H H' → R H')
theorem MR.ex {CK CR : Addr} {y : Str} {m : PyData} {H H1 : Hp} {E : XK} {R : Hp → Prop} (h : MR CK CR y m H E R) (e : Ex H H1) : MR CK CR y m H1 E R :=
  ⟨h.1, fun a H' x => h.2.1 a H' (e.trans x), fun ps e1 e2 => ⟨fun a H' x => (h.2.2 ps e1 e2).1 a H' (e.trans x), fun a H' x => (h.2.2 ps e1 e2).2 a H' (e.trans x)⟩⟩
def BM (CK CR : Addr) (y : Str) (m : PyData) (C : Addr) : Prop := TxL m ∧ ((C = CK ∧ lotD y m = false) ∨ (C = CR ∧ lotD y m = true ∧ ∃ ps, m = .tuple (ps.map kD) ∧ anyLe ps = true))
theorem map_kD_inj {ps qs : List (Str × Str)} (h : ps.map kD = qs.map kD) : ps = qs := by
  have := congrArg (List.map pairOf) h
  rw [List.map_map, List.map_map] at this
  have e : ∀ l : List (Str × Str), l.map (pairOf ∘ kD) = l := fun l => (List.map_congr_left fun p _ => pair_kD p).trans (List.map_id' l)
  rw [e, e] at this
  exact this
theorem mr_bad {CK CR C : Addr} {y : Str} {m : PyData} {H : Hp} {E : XK} {R : Hp → Prop} (b : BM CK CR y m C) (h : ∀ H', Ex H H' → E (.ref C) none H') : MR CK CR y m H E R := by
  obtain ⟨t, b | b⟩ := b
  · obtain ⟨rfl, b⟩ := b
    exact ⟨t, fun _ => h, fun ps e1 e2 => by rw [b] at e2; cases e2⟩
  · obtain ⟨rfl, b, ps, rfl, hp⟩ := b
    refine ⟨t, (fun z => by rw [b] at z; cases z), fun qs e1 e2 => ?_⟩
    have := map_kD_inj (PyData.tuple.inj e1)
    subst this
    exact ⟨fun _ => h, (fun z => by rw [hp] at z; cases z)⟩
theorem okm_lot {y : Str} {ps : List (Str × Str)} (o : OkM y ps) : TxL (.tuple (ps.map kD)) ∧ lotD y (.tuple (ps.map kD)) = true ∧ anyLe ps = false := by
  obtain ⟨o0, o1, o2, o5, o6, o7⟩ := o
  refine ⟨tx_kinds fun p hp => ⟨(o7 p hp).1.1, (o7 p hp).1.2.1⟩, lot_ok o5 o6 fun p hp => (o7 p hp).1, ?_⟩
  unfold anyLe
  rw [List.any_eq_false]
  intro b hb2
  obtain ⟨p, hp, rfl⟩ := List.mem_map.mp hb2
  have := (o7 p hp).2
  simp only [id, decide_eq_true_eq]
  omega
theorem mr_ok {CK CR : Addr} {y : Str} {ps : List (Str × Str)} {H : Hp} {E : XK} {R : Hp → Prop} (o : OkM y ps) (h : ∀ H', Ex H H' → R H') : MR CK CR y (.tuple (ps.map kD)) H E R := by
  obtain ⟨a, b, c⟩ := okm_lot o
  refine ⟨a, (fun z => by rw [b] at z; cases z), fun qs e1 e2 => ?_⟩
  have := map_kD_inj (PyData.tuple.inj e1)
  subst this
  exact ⟨(fun z => by rw [c] at z; cases z), fun _ => h⟩
section
variable {P : Program} {w : World} {K : PySem.W.Frag} {mg : Str → Option Value} {base : Heap} {CL CK CR CT CN CX : Addr}
def spXMender (K : PySem.W.Frag) (CK CR : Addr) : Sp := fun vs H Q E => ∃ y m, DpAll K H vs [.str y, m] ∧ MR CK CR y m H E (fun H' => Q .non H')
theorem x_check_mender (D : Df K mg "check_mender" sCheckMender) (c : Ec K mg "BadMender" CR) (hb : Bl mg) (C1 : Klx P w K mg base 5 "check_kinds" ["letters", "kinds"] (spXKinds K CK)) : Klx P w K mg base 6 "check_mender" ["letters", "mender"] (spXMender K CK CR) := by
  refine klx_of D sc_check_mender (fun vs H Q E ⟨l, k, h, _⟩ => dpAll_len h) (fun _ _ _ _ _ _ us hl => match us, hl with | [_, _], _ => rfl) fun f cdv A outer s H vs Q E hr h => ?_
  obtain ⟨y, m, hd, m1, m2, m3⟩ := h
  obtain ⟨v, v2, rfl, h0, h1⟩ := dp2 hd
  obtain ⟨f1, fd1, F1, g1, k1, b1⟩ := C1
  refine ⟨_, pss_cons (ps_expr (pe_call F1 (hr.mono (by decide)) (by rfl) g1 k1 b1 .nil (passes_call (takes_of rfl rfl rfl rfl) fun _ _ _ _ h => h) (pa_cons (pv 0) (pa_cons (pv 1) pa_nil))))
    (pss_one (ps_if (pt_val (pe_anyL (by rfl) hb (pe_lc (own := [("left", 2), ("right", 3)]) (g := gTup K 2 (gCons (gName 2) (gCons (gName 3) gNil))) rfl sc_check_mender.nd (pi_tup (pv 1)) (blkOk_by (N := nCheckMender) (sc := defScope sCheckMender) (own := [("left", 2), ("right", 3)]) (by decide +kernel))
      (fun _ _ _ _ _ => pg_tup rfl (pgs_cons (pg_name (i := 2) sc_check_mender.nd rfl (.inl rfl) (.inr rfl)) (pgs_cons (pg_name (i := 3) sc_check_mender.nd rfl (.inl rfl) (.inr rfl)) pgs_nil))) (fun _ _ _ _ _ => pts_nil) (fun _ _ _ _ _ => pe_cmpR op_le (pe_lenS hb (pv 2)) (pe_lenS hb (pv 3)) (nomark _))))) (pss_one (ps_raise0 c rfl (takes_of rfl rfl rfl rfl) (by rfl))) pss_nil)), ?_⟩
  refine ⟨v, rfl, v2, rfl, [.str y, m], .cons h0 (.cons h1 .nil), ⟨y, m, rfl, m1⟩, fun ok H1 e1 => ?_, fun no H1 e1 => m2 no H1 e1⟩
  obtain ⟨ps, rfl, pl, pb⟩ := lot_ps ok
  have a1 : At K (start nCheckMender [v, v2]) H1 1 (.tuple (ps.map kD)) := ⟨_, rfl, dp_ex e1 h1⟩
  have tst : EvD K (tCB (rAny K) (tCons (tLc (iTup K (tVar 1)) (gTup K 2 (gCons (gName 2) (gCons (gName 3) gNil))) tYes (tOp (rI0 fun i j => .bl (decide (i ≤ j))) (tCB rLenTx (tCons (tVar 2) tNil)) (tCB rLenTx (tCons (tVar 3) tNil))) [2, 3]) tNil)) (start nCheckMender [v, v2]) H1 (.bool (anyLe ps)) := by
    refine d_any (d_eqTo (d_lcT (fun _ => true) (fun d => .bool (decide (((pairOf d).1.length : Int) ≤ ((pairOf d).2.length : Int)))) (d_var a1) (by rw [List.length_map]; omega) (fun d hd _ => rfl) fun d hd x H2 e2 hx k hk => ?_) ?_)
    · obtain ⟨p, hp, rfl⟩ := List.mem_map.mp hd
      have l1 : (pairOf (kD p)).1.length ≤ 3 := (pb p hp).1
      have l2 : (pairOf (kD p)).2.length ≤ 1 := (pb p hp).2
      exact g_two hx fun va vb ha hb2 => hk _ rfl (fun H3 e3 Q q => q H3 (Ex.refl H3)) fun _ => d_cmpI (g := fun i j => decide (i ≤ j)) (d_lenS (d_var ⟨_, rfl, ha⟩) (by omega)) (d_lenS (d_var ⟨_, rfl, hb2⟩) (by omega))
    · rw [List.filter_eq_self.mpr fun _ _ => rfl, List.map_map, List.map_map]
      rfl
  dsimp only
  refine Evl.s_if (t_ofB tst) (fun hb1 H2 e2 => ?_) fun hb1 H2 e2 => ?_
  · exact (m3 ps rfl ok).1 hb1 H2 (e1.trans e2)
  · exact (m3 ps rfl ok).2 hb1 H2 (e1.trans e2)
/-- letters and mender -/
def B2 (CL CK CR : Addr) (l m : PyData) (C : Addr) : Prop := (C = CL ∧ Tx l ∧ isLettersD l = false) ∨ ∃ y, l = .str y ∧ Tx l ∧ isLetS y = true ∧ BM CK CR y m C
def LMR (CL CK CR : Addr) (l m : PyData) (H : Hp) (E : XK) (R : Hp → Prop) : Prop := Tx l ∧ (isLettersD l = false → ∀ H', Ex H H' → E (.ref CL) none H') ∧ ∀ y, l = .str y → isLetS y = true → MR CK CR y m H E R
theorem lm_bad {C : Addr} {l m : PyData} {H : Hp} {E : XK} {R : Hp → Prop} (b : B2 CL CK CR l m C) (h : ∀ H', Ex H H' → E (.ref C) none H') : LMR CL CK CR l m H E R := by
  rcases b with ⟨rfl, b1, b2⟩ | ⟨y, rfl, b1, b2, b3⟩
  · refine ⟨b1, fun _ => h, fun y e1 e2 => ?_⟩
    subst e1
    rw [show isLettersD (.str y) = isLetS y from rfl, e2] at b2
    cases b2
  · refine ⟨b1, fun z => ?_, fun y' e1 e2 => ?_⟩
    · rw [show isLettersD (.str y) = isLetS y from rfl, b2] at z
      cases z
    · cases e1
      exact mr_bad b3 h
theorem lm_ok {y : Str} {ps : List (Str × Str)} {H : Hp} {E : XK} {R : Hp → Prop} (o : OkM y ps) (h : ∀ H', Ex H H' → R H') : LMR CL CK CR (.str y) (.tuple (ps.map kD)) H E R := by
  refine ⟨fun x e => by cases e; have := o.2.1; omega, fun z => ?_, fun y' e1 e2 => ?_⟩
  · rw [show isLettersD (.str y) = isLetS y from rfl, o.2.2.1] at z
    cases z
  · cases e1
    exact mr_ok o h
def spXLM (K : PySem.W.Frag) (CL CK CR : Addr) : Sp := fun vs H Q E => ∃ l m, DpAll K H vs [l, m] ∧ LMR CL CK CR l m H E (fun H' => Q .non H')
theorem x_check_lm (D : Df K mg "check_letters_and_mender" sCheckLM) (C1 : Klx P w K mg base 2 "check_letters" ["letters"] (spXLetters K CL)) (C2 : Klx P w K mg base 6 "check_mender" ["letters", "mender"] (spXMender K CK CR)) : Klx P w K mg base 7 "check_letters_and_mender" ["letters", "mender"] (spXLM K CL CK CR) := by
  refine klx_of D sc_check_lm (fun vs H Q E ⟨l, k, h, _⟩ => dpAll_len h) (fun _ _ _ _ _ _ us hl => match us, hl with | [_, _], _ => rfl) fun f cdv A outer s H vs Q E hr h => ?_
  obtain ⟨l, m, hd, o1, o2, o3⟩ := h
  obtain ⟨v, v2, rfl, h0, h1⟩ := dp2 hd
  obtain ⟨f1, fd1, F1, g1, k1, b1⟩ := C1
  obtain ⟨f2, fd2, F2, g2, k2, b2⟩ := C2
  refine ⟨_, pss_cons (ps_expr (pe_call F1 (hr.mono (by decide)) (by rfl) g1 k1 b1 .nil (passes_call (takes_of rfl rfl rfl rfl) fun _ _ _ _ h => h) (pa_cons (pv 0) pa_nil)))
    (pss_one (ps_expr (pe_call F2 (hr.mono (by decide)) (by rfl) g2 k2 b2 .nil (passes_call (takes_of rfl rfl rfl rfl) fun _ _ _ _ h => h) (pa_cons (pv 0) (pa_cons (pv 1) pa_nil))))), ?_⟩
  refine ⟨v, rfl, [l], .cons h0 .nil, ⟨l, rfl, o1⟩, fun ok H1 e1 => ?_, fun no H1 e1 => o2 no H1 e1⟩
  obtain ⟨y, rfl, hy⟩ := letters_str ok
  exact ⟨v, rfl, v2, rfl, y, m, .cons (dp_ex e1 h0) (.cons (dp_ex e1 h1) .nil), (o3 y rfl hy).ex e1⟩
abbrev sMendingX : Stmt := top 44
def B3 (CL CK CR CT : Addr) (l m t : PyData) (C : Addr) : Prop := B2 CL CK CR l m C ∨ ∃ y ps, l = .str y ∧ m = .tuple (ps.map kD) ∧ OkM y ps ∧ C = CT ∧ Tx t ∧ withinD y 40 t = false
def spB3 (K : PySem.W.Frag) (CL CK CR CT : Addr) : Sp := fun vs H Q E => ∃ l m t C, DpAll K H vs [l, m, t] ∧ B3 CL CK CR CT l m t C ∧ ∀ H', Ex H H' → E (.ref C) none H'
theorem b3_go {C : Addr} {l m t : PyData} {v v2 v3 : V} {H : Hp} {E : XK} {σ : L2.St} {te : TE} (hσ : σ[0]? = some (some v) ∧ σ[1]? = some (some v2) ∧ σ[2]? = some (some v3)) (h0 : Dp K H v l) (h1 : Dp K H v2 m) (h2 : Dp K H v3 t) (b : B3 CL CK CR CT l m t C) (e : ∀ H', Ex H H' → E (.ref C) none H') {X1 X2 : V → Hp → Prop} {u : Hp → Prop} :
    spXLM K CL CK CR [v, v2] H (fun _ H1 => spXText K CT [v, v3] H1 (fun _ H2 => u H2) E) E := by
  rcases b with b | ⟨y, ps, rfl, rfl, om, rfl, b1, b2⟩
  · exact ⟨l, m, .cons h0 (.cons h1 .nil), lm_bad b e⟩
  · exact ⟨_, _, .cons h0 (.cons h1 .nil), lm_ok om fun H1 e1 => ⟨_, .cons (dp_ex e1 h0) (.cons (dp_ex e1 h2) .nil), ⟨y, t, rfl, b1⟩, (fun z => by rw [show okT2 [.str y, t] = withinD y 40 t from rfl, b2] at z; cases z), fun _ H2 e2 => e H2 (e1.trans e2)⟩⟩
end
end K26

set_option maxHeartbeats 4000000
set_option autoImplicit false
/-! mended, mending, is_one_way, overlap, failing, brings_back: which error. -/
namespace K26
open PySem PySem.Spec PyProof.Rows L2 AsSort AsKit AsMax AsMin
open Evl (Ex Ev EvT EvA)
open LamX (ExtN TabB)
open NdefX (TabsN NTab NScope nscope_by NF startF)
section
variable {P : Program} {w : World} {K : PySem.W.Frag} {mg : Str → Option Value} {base : Heap} {CL CK CR CT CN CX : Addr}
abbrev sOneWay : Stmt := top 45
abbrev sOverlap : Stmt := top 46
abbrev sFailing : Stmt := top 47
abbrev sBrings : Stmt := top 48
theorem sc_mendingX : FnScope nMending ["letters", "mender", "text"] (defScope sMendingX) := ⟨rfl, rfl, rfl, by decide +kernel, rfl, by decide +kernel, by decide +kernel⟩
theorem x_mended {Ts : List NTab} (D : Df K mg "mended" sMended) (C1 : Klx P w K mg base 7 "check_letters_and_mender" ["letters", "mender"] (spXLM K CL CK CR)) (C2 : Klx P w K mg base 3 "check_text" ["letters", "text"] (spXText K CT)) (C3 : Cl P w K mg base 5 "mending_of" (spMendingOf K Ts) []) : Klx P w K mg base 8 "mended" ["letters", "mender", "text"] (spB3 K CL CK CR CT) := by
  refine klx_of D sc_mended (fun vs H Q E ⟨l, m, t, C, h, _⟩ => dpAll_len h) (fun _ _ _ _ _ _ us hl => match us, hl with | [_, _, _], _ => rfl) fun f cdv A outer s H vs Q E hr h => ?_
  obtain ⟨l, m, t, C, hd, b, e⟩ := h
  obtain ⟨v, v2, v3, rfl, h0, h1, h2⟩ := dp3 hd
  obtain ⟨f1, fd1, F1, g1, k1, b1⟩ := C1
  obtain ⟨f2, fd2, F2, g2, k2, b2⟩ := C2
  refine ⟨_, pss_cons (ps_expr (pe_call F1 (hr.mono (by decide)) (by rfl) g1 k1 b1 .nil (passes_call (takes_of rfl rfl rfl rfl) fun _ _ _ _ h => h) (pa_cons (pv 0) (pa_cons (pv 1) pa_nil))))
    (pss_cons (ps_expr (pe_call F2 (hr.mono (by decide)) (by rfl) g2 k2 b2 .nil (passes_call (takes_of rfl rfl rfl rfl) fun _ _ _ _ h => h) (pa_cons (pv 0) (pa_cons (pv 2) pa_nil))))
    (pss_cons (ps_asg (C8.pe_c C3 hr (by decide) (by rfl) (pa_cons (pv 1) (pa_cons (pv 2) pa_nil))) (pg_tup rfl (pgs_cons (pg_name (i := 3) sc_mended.nd rfl (.inl rfl)) (pgs_cons (pg_name (i := 4) sc_mended.nd rfl (.inl rfl)) pgs_nil))))
    (pss_one (ps_ret (pv 4))))), ?_⟩
  rcases b with b | ⟨y, ps, rfl, rfl, om, rfl, b3, b4⟩
  · exact ⟨v, rfl, v2, rfl, l, m, .cons h0 (.cons h1 .nil), lm_bad b e⟩
  · exact ⟨v, rfl, v2, rfl, _, _, .cons h0 (.cons h1 .nil), lm_ok om fun H1 e1 => ⟨v, rfl, v3, rfl, _, .cons (dp_ex e1 h0) (.cons (dp_ex e1 h2) .nil), ⟨y, t, rfl, b3⟩, (fun z => by rw [show okT2 [.str y, t] = withinD y 40 t from rfl, b4] at z; cases z), fun _ H2 e2 => e H2 (e1.trans e2)⟩⟩
theorem x_mending {Ts : List NTab} (D : Df K mg "mending" sMendingX) (C1 : Klx P w K mg base 7 "check_letters_and_mender" ["letters", "mender"] (spXLM K CL CK CR)) (C2 : Klx P w K mg base 3 "check_text" ["letters", "text"] (spXText K CT)) (C3 : Cl P w K mg base 5 "mending_of" (spMendingOf K Ts) []) : Klx P w K mg base 8 "mending" ["letters", "mender", "text"] (spB3 K CL CK CR CT) := by
  refine klx_of D sc_mendingX (fun vs H Q E ⟨l, m, t, C, h, _⟩ => dpAll_len h) (fun _ _ _ _ _ _ us hl => match us, hl with | [_, _, _], _ => rfl) fun f cdv A outer s H vs Q E hr h => ?_
  obtain ⟨l, m, t, C, hd, b, e⟩ := h
  obtain ⟨v, v2, v3, rfl, h0, h1, h2⟩ := dp3 hd
  obtain ⟨f1, fd1, F1, g1, k1, b1⟩ := C1
  obtain ⟨f2, fd2, F2, g2, k2, b2⟩ := C2
  refine ⟨_, pss_cons (ps_expr (pe_call F1 (hr.mono (by decide)) (by rfl) g1 k1 b1 .nil (passes_call (takes_of rfl rfl rfl rfl) fun _ _ _ _ h => h) (pa_cons (pv 0) (pa_cons (pv 1) pa_nil))))
    (pss_cons (ps_expr (pe_call F2 (hr.mono (by decide)) (by rfl) g2 k2 b2 .nil (passes_call (takes_of rfl rfl rfl rfl) fun _ _ _ _ h => h) (pa_cons (pv 0) (pa_cons (pv 2) pa_nil))))
    (pss_cons (ps_asg (C8.pe_c C3 hr (by decide) (by rfl) (pa_cons (pv 1) (pa_cons (pv 2) pa_nil))) (pg_tup rfl (pgs_cons (pg_name (i := 3) sc_mendingX.nd rfl (.inl rfl)) (pgs_cons (pg_name (i := 4) sc_mendingX.nd rfl (.inl rfl)) pgs_nil))))
    (pss_one (ps_ret (pv 3))))), ?_⟩
  rcases b with b | ⟨y, ps, rfl, rfl, om, rfl, b3, b4⟩
  · exact ⟨v, rfl, v2, rfl, l, m, .cons h0 (.cons h1 .nil), lm_bad b e⟩
  · exact ⟨v, rfl, v2, rfl, _, _, .cons h0 (.cons h1 .nil), lm_ok om fun H1 e1 => ⟨v, rfl, v3, rfl, _, .cons (dp_ex e1 h0) (.cons (dp_ex e1 h2) .nil), ⟨y, t, rfl, b3⟩, (fun z => by rw [show okT2 [.str y, t] = withinD y 40 t from rfl, b4] at z; cases z), fun _ H2 e2 => e H2 (e1.trans e2)⟩⟩
/-- no kinds: no overlap -/
def spLeast0 (K : PySem.W.Frag) : Sp := fun vs H Q _ => ∃ (v : V) (y : Str), vs = [.str y, v] ∧ Dp K H v (.tuple []) ∧ y.length ≤ 4 ∧ 0 < y.length ∧ ∀ H', Ex H H' → Q .non H'
def spB2 (K : PySem.W.Frag) (CL CK CR : Addr) (r : V) : Sp := fun vs H Q E => ∃ l m, DpAll K H vs [l, m] ∧ ((∃ C, B2 CL CK CR l m C ∧ ∀ H', Ex H H' → E (.ref C) none H') ∨ ∃ y, l = .str y ∧ m = .tuple [] ∧ OkM y [] ∧ y.length ≤ 4 ∧ 0 < y.length ∧ ∀ H', Ex H H' → Q r H')
abbrev n2 : List Str := ["letters", "mender"]
theorem sc_oneway : FnScope n2 n2 (defScope sOneWay) := ⟨rfl, rfl, rfl, by decide +kernel, rfl, by decide +kernel, by decide +kernel⟩
theorem sc_overlap : FnScope n2 n2 (defScope sOverlap) := ⟨rfl, rfl, rfl, by decide +kernel, rfl, by decide +kernel, by decide +kernel⟩
theorem x_oneway (D : Df K mg "is_one_way" sOneWay) (C1 : Klx P w K mg base 7 "check_letters_and_mender" ["letters", "mender"] (spXLM K CL CK CR)) (C2 : Cl P w K mg base 6 "least_overlap" (spLeast0 K) []) : Klx P w K mg base 8 "is_one_way" ["letters", "mender"] (spB2 K CL CK CR (.bl true)) := by
  refine klx_of D sc_oneway (fun vs H Q E ⟨l, m, h, _⟩ => dpAll_len h) (fun _ _ _ _ _ _ us hl => match us, hl with | [_, _], _ => rfl) fun f cdv A outer s H vs Q E hr h => ?_
  obtain ⟨l, m, hd, o⟩ := h
  obtain ⟨v, v2, rfl, h0, h1⟩ := dp2 hd
  obtain ⟨f1, fd1, F1, g1, k1, b1⟩ := C1
  refine ⟨_, pss_cons (ps_expr (pe_call F1 (hr.mono (by decide)) (by rfl) g1 k1 b1 .nil (passes_call (takes_of rfl rfl rfl rfl) fun _ _ _ _ h => h) (pa_cons (pv 0) (pa_cons (pv 1) pa_nil))))
    (pss_one (ps_ret (pe_cmp (pc_isN (C8.pe_c C2 hr (by decide) (by rfl) (pa_cons (pv 0) (pa_cons (pv 1) pa_nil))))))), ?_⟩
  rcases o with ⟨C, b, e⟩ | ⟨y, rfl, rfl, om, y1, y2, q⟩
  · exact ⟨v, rfl, v2, rfl, l, m, .cons h0 (.cons h1 .nil), lm_bad b e⟩
  · refine ⟨v, rfl, v2, rfl, .str y, .tuple [], .cons h0 (.cons h1 .nil), lm_ok (ps := []) om fun H1 e1 => ?_⟩
    cases h0
    exact ⟨.str y, rfl, v2, rfl, v2, y, rfl, dp_ex e1 h1, y1, y2, fun H2 e2 => q H2 (e1.trans e2)⟩
theorem x_overlap (D : Df K mg "overlap" sOverlap) (C1 : Klx P w K mg base 7 "check_letters_and_mender" ["letters", "mender"] (spXLM K CL CK CR)) (C2 : Cl P w K mg base 6 "least_overlap" (spLeast0 K) []) : Klx P w K mg base 8 "overlap" ["letters", "mender"] (spB2 K CL CK CR .non) := by
  refine klx_of D sc_overlap (fun vs H Q E ⟨l, m, h, _⟩ => dpAll_len h) (fun _ _ _ _ _ _ us hl => match us, hl with | [_, _], _ => rfl) fun f cdv A outer s H vs Q E hr h => ?_
  obtain ⟨l, m, hd, o⟩ := h
  obtain ⟨v, v2, rfl, h0, h1⟩ := dp2 hd
  obtain ⟨f1, fd1, F1, g1, k1, b1⟩ := C1
  refine ⟨_, pss_cons (ps_expr (pe_call F1 (hr.mono (by decide)) (by rfl) g1 k1 b1 .nil (passes_call (takes_of rfl rfl rfl rfl) fun _ _ _ _ h => h) (pa_cons (pv 0) (pa_cons (pv 1) pa_nil))))
    (pss_one (ps_ret (C8.pe_c C2 hr (by decide) (by rfl) (pa_cons (pv 0) (pa_cons (pv 1) pa_nil))))), ?_⟩
  rcases o with ⟨C, b, e⟩ | ⟨y, rfl, rfl, om, y1, y2, q⟩
  · exact ⟨v, rfl, v2, rfl, l, m, .cons h0 (.cons h1 .nil), lm_bad b e⟩
  · refine ⟨v, rfl, v2, rfl, .str y, .tuple [], .cons h0 (.cons h1 .nil), lm_ok (ps := []) om fun H1 e1 => ?_⟩
    cases h0
    exact ⟨.str y, rfl, v2, rfl, v2, y, rfl, dp_ex e1 h1, y1, y2, fun H2 e2 => q H2 (e1.trans e2)⟩
/-- letters, kinds, how many, mender, texts -/
def B5 (CL CK CR CN CX : Addr) (l k n m z : PyData) (C : Addr) : Prop := (C = CL ∧ Tx l ∧ isLettersD l = false) ∨ ∃ y, l = .str y ∧ Tx l ∧ isLetS y = true ∧ TxL k ∧ ((C = CK ∧ lotD y k = false) ∨ (lotD y k = true ∧ ((C = CN ∧ numD 3 n = false) ∨ (numD 3 n = true ∧
  (BM CK CR y m C ∨ ∃ ps, m = .tuple (ps.map kD) ∧ OkM y ps ∧ C = CX ∧ TxZ z ∧ textsD y z = false)))))
/-- kinds of the law -/
def OkS (y : Str) (ks : List (Str × Str)) : Prop := ks.length ≤ 3 ∧ ks.Nodup ∧ ∀ k ∈ ks, Gd y k
def spB5 (K : PySem.W.Frag) (Ts : List NTab) (CL CK CR CN CX : Addr) : Sp := fun vs H Q E => ∃ l k n m z, DpAll K H vs [l, k, n, m, z] ∧ ((∃ C, B5 CL CK CR CN CX l k n m z C ∧ ∀ H', Ex H H' → E (.ref C) none H') ∨
  ∃ (y : Str) (ks ms : List (Str × Str)) (zs : List Str), l = .str y ∧ k = .tuple (ks.map kD) ∧ n = .int 0 ∧ m = .tuple (ms.map kD) ∧ z = .tuple (zs.map PyData.str) ∧ OkM y ms ∧ OkS y ks ∧ zs.length ≤ 20 ∧ (∀ z ∈ zs, TxOk y 8 z) ∧ TabsN Ts H ∧ ∀ u H', ExtN H H' → TabsN Ts H' → Q u H')
theorem dp5 {H : Hp} {vs : List V} {a b c d e : PyData} (h : DpAll K H vs [a, b, c, d, e]) : ∃ v1 v2 v3 v4 v5, vs = [v1, v2, v3, v4, v5] ∧ Dp K H v1 a ∧ Dp K H v2 b ∧ Dp K H v3 c ∧ Dp K H v4 d ∧ Dp K H v5 e := by
  cases h with
  | cons h1 h =>
    obtain ⟨v2, v3, v4, v5, rfl, h2, h3, h4, h5⟩ := AsKit.dp4 h
    exact ⟨_, _, _, _, _, rfl, h1, h2, h3, h4, h5⟩
abbrev nFailing : List Str := ["letters", "kinds", "many", "mender", "texts", "ends", "text", "copy"]
theorem sc_failing : FnScope nFailing ["letters", "kinds", "many", "mender", "texts"] (defScope sFailing) := ⟨rfl, rfl, rfl, by decide +kernel, rfl, by decide +kernel, by decide +kernel⟩
theorem x_failing {Ts : List NTab} (D : Df K mg "failing" sFailing) (g3 : Gn mg "MOST_DEEDS" 3) (C1 : Klx P w K mg base 2 "check_letters" ["letters"] (spXLetters K CL)) (C2 : Klx P w K mg base 5 "check_kinds" ["letters", "kinds"] (spXKinds K CK)) (C3 : Klx P w K mg base 2 "check_number" ["number", "most"] (spXNumber K CN)) (C4 : Klx P w K mg base 6 "check_mender" ["letters", "mender"] (spXMender K CK CR)) (C5 : Klx P w K mg base 3 "check_texts" ["letters", "texts"] (spXTexts K CX)) (C6 : Cl P w K mg base 7 "first_unmended" (spFirst K Ts) []) : Klx P w K mg base 8 "failing" ["letters", "kinds", "many", "mender", "texts"] (spB5 K Ts CL CK CR CN CX) := by
  refine klx_of D sc_failing (fun vs H Q E ⟨_, _, _, _, _, h, _⟩ => dpAll_len h) (fun _ _ _ _ _ _ us hl => match us, hl with | [_, _, _, _, _], _ => rfl) fun f cdv A outer s H vs Q E hr h => ?_
  obtain ⟨l, k, n, m, z, hd, o⟩ := h
  obtain ⟨v0, v, vn, vm, vt, rfl, h0, h1, h2, h3, h4⟩ := dp5 hd
  obtain ⟨f1, fd1, F1, g1, k1, b1⟩ := C1
  obtain ⟨f2, fd2, F2, g2, k2, b2⟩ := C2
  obtain ⟨f3, fd3, F3, gg3, k3, b3⟩ := C3
  obtain ⟨f4, fd4, F4, g4, k4, b4⟩ := C4
  obtain ⟨f5, fd5, F5, g5, k5, b5⟩ := C5
  refine ⟨_, pss_cons (ps_expr (pe_call F1 (hr.mono (by decide)) (by rfl) g1 k1 b1 .nil (passes_call (takes_of rfl rfl rfl rfl) fun _ _ _ _ h => h) (pa_cons (pv 0) pa_nil)))
    (pss_cons (ps_expr (pe_call F2 (hr.mono (by decide)) (by rfl) g2 k2 b2 .nil (passes_call (takes_of rfl rfl rfl rfl) fun _ _ _ _ h => h) (pa_cons (pv 0) (pa_cons (pv 1) pa_nil))))
    (pss_cons (ps_expr (pe_call F3 (hr.mono (by decide)) (by rfl) gg3 k3 b3 .nil (passes_call (takes_of rfl rfl rfl rfl) fun _ _ _ _ h => h) (pa_cons (pv 2) (pa_cons (pe_gn g3) pa_nil))))
    (pss_cons (ps_expr (pe_call F4 (hr.mono (by decide)) (by rfl) g4 k4 b4 .nil (passes_call (takes_of rfl rfl rfl rfl) fun _ _ _ _ h => h) (pa_cons (pv 0) (pa_cons (pv 3) pa_nil))))
    (pss_cons (ps_expr (pe_call F5 (hr.mono (by decide)) (by rfl) g5 k5 b5 .nil (passes_call (takes_of rfl rfl rfl rfl) fun _ _ _ _ h => h) (pa_cons (pv 0) (pa_cons (pv 4) pa_nil))))
    (pss_cons (ps_set (i := 5) sc_failing.nd rfl (.inl rfl) pe_dnewK)
    (pss_cons (ps_for (passes_of rfl) rfl (pi_tup (pv 4)) (pg_name (i := 6) sc_failing.nd rfl (.inl rfl))
      (pss_cons (ps_set (i := 7) sc_failing.nd rfl (.inl rfl) (C8.pe_c C6 hr (by decide) (by rfl) (pa_cons (pv 1) (pa_cons (pv 2) (pa_cons (pv 3) (pa_cons (pv 6) (pa_cons (pv 5) pa_nil)))))))
      (pss_one (ps_if (pt_cmp (pc_notN (pv 7))) (pss_one (ps_ret (pe_tup (pa_cons (pv 6) (pa_cons (pv 7) pa_nil))))) pss_nil))))
    (pss_one (ps_ret pe_non)))))))), ?_⟩
  have a0 : At K (start nFailing [v0, v, vn, vm, vt]) H 0 l := ⟨_, rfl, h0⟩
  rcases o with ⟨C, b, e⟩ | ⟨y, ks, ms, zs, rfl, rfl, rfl, rfl, rfl, om, ok, hzl, hz, hT, q⟩
  · rcases b with ⟨rfl, c1, c2⟩ | ⟨y, rfl, c1, c2, c3, b⟩
    · exact ⟨v0, rfl, [l], .cons h0 .nil, ⟨l, rfl, c1⟩, (fun z => by rw [show okL1 [l] = isLettersD l from rfl, c2] at z; cases z), fun _ H1 e1 => e H1 e1⟩
    · refine ⟨v0, rfl, [.str y], .cons h0 .nil, ⟨_, rfl, c1⟩, fun _ H1 e1 => ?_, (fun z => by rw [show okL1 [.str y] = isLetS y from rfl, c2] at z; cases z)⟩
      refine ⟨v0, rfl, v, rfl, [.str y, k], .cons (dp_ex e1 h0) (.cons (dp_ex e1 h1) .nil), ⟨y, k, rfl, c3⟩, fun okk H2 e2 => ?_, fun nok H2 e2 => ?_⟩
      · rcases b with ⟨_, b⟩ | ⟨_, b⟩
        · rw [show okK2 [.str y, k] = lotD y k from rfl, b] at okk
          cases okk
        · have f2 := e1.trans e2
          refine ⟨vn, rfl, [n, .int 3], .cons (dp_ex f2 h2) (.cons (.int 3) .nil), ⟨n, 3, rfl⟩, fun okn H3 e3 => ?_, fun nok H3 e3 => ?_⟩
          · rcases b with ⟨_, b⟩ | ⟨_, b⟩
            · rw [show okN2 [n, .int 3] = numD 3 n from rfl, b] at okn
              cases okn
            · have f3 := f2.trans e3
              rcases b with b | ⟨ps, rfl, om, rfl, b3, b4⟩
              · exact ⟨v0, rfl, vm, rfl, y, m, .cons (dp_ex f3 h0) (.cons (dp_ex f3 h3) .nil), mr_bad b fun H4 e4 => e H4 (f3.trans e4)⟩
              · refine ⟨v0, rfl, vm, rfl, y, _, .cons (dp_ex f3 h0) (.cons (dp_ex f3 h3) .nil), mr_ok om fun H4 e4 => ?_⟩
                have f4 := f3.trans e4
                exact ⟨v0, rfl, vt, rfl, _, .cons (dp_ex f4 h0) (.cons (dp_ex f4 h4) .nil), ⟨y, z, rfl, b3⟩, (fun q => by rw [show okX2 [.str y, z] = textsD y z from rfl, b4] at q; cases q), fun _ H5 e5 => e H5 (f4.trans e5)⟩
          · rcases b with ⟨rfl, b⟩ | ⟨b, _⟩
            · exact e H3 (f2.trans e3)
            · rw [show okN2 [n, .int 3] = numD 3 n from rfl, b] at nok
              cases nok
      · rcases b with ⟨rfl, b⟩ | ⟨b, _⟩
        · exact e H2 (e1.trans e2)
        · rw [show okK2 [.str y, k] = lotD y k from rfl, b] at nok
          cases nok
  · have om' := om
    obtain ⟨o0, o1, o2, o3, o4, o5⟩ := om'
    obtain ⟨kk1, kk2, kk3⟩ := ok
    have lk : lotD y (.tuple (ks.map kD)) = true := lot_ok (by omega) kk2 kk3
    have tz : textsD y (.tuple (zs.map PyData.str)) = true := by
      show (decide ((zs.map PyData.str).length ≤ 20) && (zs.map PyData.str).all (withinD y 8)) = true
      rw [decide_eq_true (by rw [List.length_map]; exact hzl), Bool.true_and, List.all_map]
      refine List.all_eq_true.mpr fun z hz1 => ?_
      obtain ⟨l1, l2⟩ := hz z hz1
      show withinS y z 8 = true
      unfold withinS
      rw [l2, decide_eq_true (by omega : (z.length : Int) ≤ 8)]
      rfl
    refine ⟨v0, rfl, [.str y], .cons h0 .nil, ⟨_, rfl, fun x e => by cases e; omega⟩, fun _ H1 e1 => ?_, (fun z => by rw [show okL1 [.str y] = isLetS y from rfl, o2] at z; cases z)⟩
    refine ⟨v0, rfl, v, rfl, [.str y, .tuple (ks.map kD)], .cons (dp_ex e1 h0) (.cons (dp_ex e1 h1) .nil), ⟨y, _, rfl, tx_kinds fun p hp => ⟨(kk3 p hp).1, (kk3 p hp).2.1⟩⟩, fun _ H2 e2 => ?_, (fun z => by rw [show okK2 [.str y, .tuple (ks.map kD)] = lotD y (.tuple (ks.map kD)) from rfl, lk] at z; cases z)⟩
    have f2 := e1.trans e2
    refine ⟨vn, rfl, [.int 0, .int 3], .cons (dp_ex f2 h2) (.cons (.int 3) .nil), ⟨_, 3, rfl⟩, fun _ H3 e3 => ?_, (fun z => by rw [show okN2 [.int 0, .int 3] = true by decide +kernel] at z; cases z)⟩
    have f3 := f2.trans e3
    refine ⟨v0, rfl, vm, rfl, y, _, .cons (dp_ex f3 h0) (.cons (dp_ex f3 h3) .nil), mr_ok om fun H4 e4 => ?_⟩
    have f4 := f3.trans e4
    refine ⟨v0, rfl, vt, rfl, _, .cons (dp_ex f4 h0) (.cons (dp_ex f4 h4) .nil), ⟨y, _, rfl, fun es e => ?_⟩, fun _ H5 e5 => ?_, (fun q => by rw [show okX2 [.str y, .tuple (zs.map PyData.str)] = textsD y (.tuple (zs.map PyData.str)) from rfl, tz] at q; cases q)⟩
    · have := PyData.tuple.inj e
      subst this
      refine ⟨by rw [List.length_map]; omega, fun d hd' z1 ez => ?_⟩
      obtain ⟨z2, hz2, rfl⟩ := List.mem_map.mp hd'
      cases ez
      have := (hz _ hz2).1
      omega
    have f5 := f4.trans e5
    cases h2
    refine fun d nd => ?_
    have h45 := dp_ex f5 h4
    cases h45 with
    | tup hq hx =>
      rename_i ta txs
      have bl : zs.length = txs.length := by rw [dpAll_len hx, List.length_map]
      have x6 : Ex H5 (upd H5 d (.dK [])) := Ex.new nd
      have nat : ∀ G, Kp d H5 G → SqT K G ta txs := fun G b => by
        rcases hq with (z2 | ⟨o, z2⟩) | z2
        · exact .inl (.inl (b _ _ (fun e => by rw [e, nd] at z2; cases z2) z2 (fun _ e => nomatch e)))
        · exact .inl (.inr ⟨o, b _ _ (fun e => by rw [e, nd] at z2; cases z2) z2 (fun _ e => nomatch e)⟩)
        · exact .inr z2
      refine ⟨.ref ta, rfl, ta, rfl, ⟨_, nat _ (kp_ex x6)⟩, for_tup (xs := txs) (fun i σ' G => ∃ x6 x7 kvs, σ' = [some v0, some v, some (.int 0), some vm, some (.ref ta), some (.ref d), x6, x7] ∧ Kp d H5 G ∧ G d = some (.dK kvs) ∧ EndsOk ms kvs ∧ kvs.length ≤ 12 * i ∧ TabsN Ts G)
        ⟨_, _, [], rfl, kp_ex x6, upd_same, (fun s v h => by rw [valV_nil] at h; cases h), Nat.zero_le _, (hT.ext f5).ext x6⟩ (fun i σ' G _ p => ?_) (fun i x σ' G hi p => ?_) fun σ' G p => ?_⟩
      · obtain ⟨_, _, _, _, p, _⟩ := p
        exact nat _ p
      · obtain ⟨x6', x7', kvs, rfl, p1, p2, p3, p4, p5⟩ := p
        have hil := (List.getElem?_eq_some_iff.mp hi).1
        obtain ⟨z, hz1⟩ : ∃ z, zs[i]? = some z := ⟨_, List.getElem?_eq_getElem (by omega)⟩
        have dz : Dp K H5 x (.str z) := dpAll_get hx hi (by rw [List.getElem?_map, hz1]; rfl)
        cases dz
        dsimp only [gName]
        have hd5 : ∀ {v : V} {x : PyData}, Dp K H v x → Dp K G v x := fun h => dp_extN (fun b o hb nt => p1 b o (fun e => by rw [e, nd] at hb; cases hb) hb nt) (dp_ex f5 h)
        have l1 : lvS (0 + 1) = 12 := rfl
        refine ⟨v, rfl, .int 0, rfl, vm, rfl, .str z, rfl, .ref d, rfl, v, vm, y, ks, ms, z, 0, d, kvs, rfl, hd5 h1, hd5 h3, o0, kk3, kk1, o3, o5, by omega, hz z (List.mem_of_getElem? hz1), p2, p3, by omega, p5, fun u G2 kvs2 r1 r2 r3 r4 r5 r6 => ?_⟩
        dsimp only [gName]
        rw [l1] at r4
        have back : ExtN H G2 := fun b o hb nt => r1 _ _ (fun e => by have := f5 _ _ hb; rw [e, nd] at this; cases this) (p1 _ _ (fun e => by have := f5 _ _ hb; rw [e, nd] at this; cases this) (f5 _ _ hb) nt) nt
        refine ⟨u, rfl, !decide (u = .non), rfl, ?_⟩
        dsimp only
        by_cases hu : u = .non
        · rw [if_neg (by simp [hu])]
          exact ⟨_, _, kvs2, rfl, p1.trans r1, r2, r3, by omega, r5⟩
        · rw [if_pos (by simp [hu])]
          refine ⟨.str z, rfl, u, rfl, Evl.sz_of (by show 2 ≤ 100000; decide), fun q1 nq1 => ?_⟩
          exact q _ _ (back.trans (extN_ex (Ex.new nq1))) (r5.ext (Ex.new nq1))
      · obtain ⟨x6', x7', kvs, rfl, p1, p2, p3, p4, p5⟩ := p
        exact q .non G (fun b o hb nt => p1 _ _ (fun e => by have := f5 _ _ hb; rw [e, nd] at this; cases this) (f5 _ _ hb) nt) p5
abbrev n5 : List Str := ["letters", "kinds", "many", "mender", "texts"]
theorem sc_brings : FnScope n5 n5 (defScope sBrings) := ⟨rfl, rfl, rfl, by decide +kernel, rfl, by decide +kernel, by decide +kernel⟩
theorem x_brings {Ts : List NTab} (D : Df K mg "brings_back" sBrings) (C1 : Klx P w K mg base 8 "failing" ["letters", "kinds", "many", "mender", "texts"] (spB5 K Ts CL CK CR CN CX)) : Klx P w K mg base 9 "brings_back" ["letters", "kinds", "many", "mender", "texts"] (spB5 K Ts CL CK CR CN CX) := by
  refine klx_of D sc_brings (fun vs H Q E ⟨_, _, _, _, _, h, _⟩ => dpAll_len h) (fun _ _ _ _ _ _ us hl => match us, hl with | [_, _, _, _, _], _ => rfl) fun f cdv A outer s H vs Q E hr h => ?_
  obtain ⟨l, k, n, m, z, hd, o⟩ := h
  obtain ⟨v0, v, vn, vm, vt, rfl, h0, h1, h2, h3, h4⟩ := dp5 hd
  obtain ⟨f1, fd1, F1, g1, k1, b1⟩ := C1
  refine ⟨_, pss_one (ps_ret (pe_cmp (pc_isN (pe_call F1 (hr.mono (by decide)) (by rfl) g1 k1 b1 .nil (passes_call (takes_of rfl rfl rfl rfl) fun _ _ _ _ h => h) (pa_cons (pv 0) (pa_cons (pv 1) (pa_cons (pv 2) (pa_cons (pv 3) (pa_cons (pv 4) pa_nil))))))))), ?_⟩
  refine ⟨v0, rfl, v, rfl, vn, rfl, vm, rfl, vt, rfl, l, k, n, m, z, hd, ?_⟩
  rcases o with o | ⟨y, ks, ms, zs, e1, e2, e3, e4, e5, om, ok, hzl, hz, hT, q⟩
  · exact .inl o
  · exact .inr ⟨y, ks, ms, zs, e1, e2, e3, e4, e5, om, ok, hzl, hz, hT, fun u H' e t => q _ H' e t⟩
end
end K26

set_option maxHeartbeats 4000000
set_option autoImplicit false
/-! max(xs, default=n) of a list of ints. -/
namespace AsMaxD
open PySem PySem.Spec PyProof.Rows L2 LamX NdefX AsSort AsMax
open Evl (Ex)
section
variable {X : Cx}
def rMaxDf (K : PySem.W.Frag) : List V → List V → Hp → VK → Prop := fun vs zs H Q => ∃ (a : Addr) (ns : List Int) (d : Int), vs = [.ref a] ∧ zs = [.int d] ∧ SqL K H a (ns.map V.int) ∧ (ns = [] → Q (.int d) H) ∧ ∀ n r, ns = n :: r → Q (.int (r.foldl max n)) H
theorem dpi {K : PySem.W.Frag} {H : Hp} : ∀ ns : List Int, DpAll K H (ns.map V.int) (ns.map PyData.int)
  | [] => .nil
  | n :: ns => .cons (.int n) (dpi ns)
theorem dpi_depth : ∀ ns : List Int, PyData.depthAll (ns.map PyData.int) = 0
  | [] => by simp [PyData.depthAll]
  | n :: ns => by simp [PyData.depthAll, PyData.depth, dpi_depth ns]
theorem dpi_alike (ns : List Int) : PySem.W.AlikeAll (ns.map PyData.int) := by
  refine ⟨fun a ha b hb => ?_, fun a ha => ?_⟩
  · obtain ⟨x, _, rfl⟩ := List.mem_map.mp ha
    obtain ⟨y, _, rfl⟩ := List.mem_map.mp hb
    simp [PySem.W.alike]
  · obtain ⟨x, _, rfl⟩ := List.mem_map.mp ha
    exact fun e => nomatch e
theorem cr_maxDf (hc : X.calm = true) (hu : X.A.units + 1 < cLine) : CallRK X (.builtin "max") [Str.ofString "default"] (rMaxDf X.K) := by
  intro pins s σ H vs zs us ws Q I r rz h
  obtain ⟨a, ns, d, rfl, rfl, hs, q0, q1⟩ := h
  obtain ⟨its, rv, hl, _⟩ := I.list hs
  obtain rfl := Vals.ref1 r
  obtain ⟨w1, rfl, e1⟩ := vals1 rz
  obtain ⟨as, hr⟩ := Dp.readsAll I (ns.map PyData.int) _ _ (dpi ns) rv
  refine PySem.W.max_list_default (I.ok.hd hc) hl.isList hr (dpi_alike ns) (by rw [dpi_depth]; exact hu) (fun e h' tk hk => ?_) fun y ys i v h' tk bs e hi rd hk => ?_
  · exact ⟨.int d, H, I.kept hk, e1, q0 (List.map_eq_nil_iff.mp e)⟩
  · cases ns with
    | nil => cases e
    | cons n r =>
      have e2 : y = .int n ∧ ys = r.map PyData.int := by
        have := List.cons.inj e
        exact ⟨this.1.symm, this.2.symm⟩
      obtain ⟨rfl, rfl⟩ := e2
      rw [PySem.W.maxD_ints] at rd
      cases rd
      exact ⟨.int _, H, I.kept hk, ⟨_, rfl⟩, q1 n r rfl⟩
end
end AsMaxD

set_option maxHeartbeats 4000000
set_option autoImplicit false
/-! texts_within, least_overlap of no kinds. -/
namespace K26
open PySem PySem.Spec PyProof.Rows L2 AsSort AsKit AsMax AsMin AsMaxD
open Evl (Ex Ev EvT EvA)
open LamX (ExtN TabB)
open NdefX (TabsN NTab NScope nscope_by NF startF)
def oneS (c : Nat) : Str := ⟨#[c]⟩
def nextT (y : Str) (ts : List Str) : List Str := ts.flatMap fun t => y.cps.toList.map fun c => t ++ oneS c
def lastT (y : Str) : Nat → List Str
  | 0 => [""]
  | n + 1 => nextT y (lastT y n)
def allT (y : Str) : Nat → List Str
  | 0 => [""]
  | n + 1 => allT y n ++ lastT y (n + 1)
theorem next_len (y : Str) : ∀ ts : List Str, (nextT y ts).length = ts.length * y.length
  | [] => by simp [nextT]
  | t :: ts => by
    have e : nextT y (t :: ts) = (y.cps.toList.map fun c => t ++ oneS c) ++ nextT y ts := rfl
    have h : y.cps.toList.length = y.length := Array.length_toList
    rw [e, List.length_append, List.length_map, next_len y ts, h, List.length_cons, Nat.succ_mul]
    omega
theorem last_len {y : Str} (h : y.length ≤ 4) : ∀ n, (lastT y n).length ≤ 4 ^ n
  | 0 => Nat.le_refl _
  | n + 1 => by
    show (nextT y (lastT y n)).length ≤ _
    rw [next_len, Nat.pow_succ]
    exact Nat.mul_le_mul (last_len h n) h
theorem last_len2 {y : Str} (h : y.length ≤ 4) {n : Nat} (hn : n ≤ 5) : (lastT y n).length ≤ 1024 := by
  have := last_len h n
  have h2 : 4 ^ n ≤ 4 ^ 5 := Nat.pow_le_pow_right (by decide) hn
  have h3 : 4 ^ 5 = 1024 := by decide
  omega
theorem all_len {y : Str} (h : y.length ≤ 4) : ∀ n, n ≤ 5 → (allT y n).length ≤ (n + 1) * 1024
  | 0, _ => by show 1 ≤ _; decide
  | n + 1, hn => by
    show (allT y n ++ lastT y (n + 1)).length ≤ _
    rw [List.length_append]
    have h1 := all_len h n (by omega)
    have h2 := last_len2 h hn
    omega
theorem last_tl {y : Str} : ∀ n, ∀ t ∈ lastT y n, t.length = n
  | 0, t, ht => by rw [List.mem_singleton.mp ht]; rfl
  | n + 1, t, ht => by
    obtain ⟨s, hs, h2⟩ := List.mem_flatMap.mp ht
    obtain ⟨c, hc, rfl⟩ := List.mem_map.mp h2
    have := last_tl n s hs
    rw [add_len, this]
    rfl
section
variable {P : Program} {w : World} {K : PySem.W.Frag} {mg : Str → Option Value} {base : Heap}
abbrev sTextsWithin : Stmt := top 30
abbrev sLeast : Stmt := top 38
abbrev nTextsW : List Str := ["letters", "longest", "texts", "last", "_", "text", "letter"]
theorem sc_textsw : FnScope nTextsW ["letters", "longest"] (defScope sTextsWithin) := ⟨rfl, rfl, rfl, by decide +kernel, rfl, by decide +kernel, by decide +kernel⟩
def spTextsW (K : PySem.W.Frag) : Sp := fun vs H Q _ => ∃ (y : Str) (n : Nat), vs = [.str y, .int (n : Int)] ∧ y.length ≤ 4 ∧ n ≤ 5 ∧ ∀ l H', H l = none → Ex H H' → H' l = some (.lst ((allT y n).map V.str)) → Q (.ref l) H'
abbrev tNextT (K : PySem.W.Frag) : TE := tLc2 (iList K (tVar 3)) (gName 5) tYes (iStr (tVar 0)) (gName 6) tYes (tOp AsKit.rAddS (tVar 5) (tVar 6)) [5, 6] [6]
theorem next_take (y : Str) {ts : List Str} {i : Nat} {t : Str} (h : ts[i]? = some t) : nextT y (ts.take (i + 1)) = nextT y (ts.take i) ++ y.cps.toList.map fun c => t ++ oneS c := by
  unfold nextT
  rw [List.take_add_one, h, List.flatMap_append]
  simp
theorem ev_next {y : Str} {v1 v2 : V} {a : Addr} {x4 x5 x6 : Option V} {ts : List Str} {H : Hp} {Q : VK} (ha : H a = some (.lst (ts.map V.str))) (hl : ts.length ≤ 2000) (hy : y.length ≤ 4) (ht : ∀ t ∈ ts, t.length ≤ 100) (q : ∀ D H', H D = none → Ex H H' → H' D = some (.lst ((nextT y ts).map V.str)) → Q (.ref D) H') :
    tNextT K [some (.str y), some v1, some v2, some (.ref a), x4, x5, x6] H Q := by
  have yl : y.cps.toList.length = y.length := Array.length_toList
  have ys : y.cps.size = y.length := rfl
  refine ⟨.ref a, rfl, a, rfl, ⟨_, Evl.sq_of ha⟩, fun D nD => ⟨fun i m H' => m = ts.length - i ∧ i ≤ ts.length ∧ Ex H H' ∧ H' D = some (.lst ((nextT y (ts.take i)).map V.str)), ⟨ts.length, by omega, Nat.zero_le _, Ex.new nD, upd_same⟩, fun i m H' hW => ?_⟩⟩
  obtain ⟨rfl, hi, ex, hD⟩ := hW
  by_cases hlt : i < ts.length
  · obtain ⟨t, ht1⟩ : ∃ t, ts[i]? = some t := ⟨_, List.getElem?_eq_getElem hlt⟩
    have hg : (ts.map V.str)[i]? = some (.str t) := by rw [List.getElem?_map, ht1]; rfl
    have ha' := ex _ _ ha
    have tl := ht t (List.mem_of_getElem? ht1)
    refine .inr ⟨⟨_, _, Evl.sq_of ha', hg⟩, fun H'' => Ex H H'' ∧ H'' D = some (.lst ((nextT y (ts.take (i + 1))).map V.str)), fun H'' h => ⟨ts.length - (i + 1), by omega, rfl, by omega, h.1, h.2⟩, fun x H'' yl2 => ?_⟩
    obtain ⟨rfl, hx⟩ := yl2
    have hx := Option.some.inj (hg.symm.trans (hx _ (Evl.sq_of ha')))
    subst hx
    refine ⟨rfl, .str y, rfl, y, rfl, fun j k H2 => k = y.length - j ∧ j ≤ y.length ∧ Ex H H2 ∧ H2 D = some (.lst ((nextT y (ts.take i) ++ (y.cps.toList.take j).map fun c => t ++ oneS c).map V.str)), ⟨y.length, by omega, Nat.zero_le _, ex, by rw [List.take_zero, List.map_nil, List.append_nil]; exact hD⟩, fun j k H2 hW1 => ?_⟩
    obtain ⟨rfl, hj, ex2, hD2⟩ := hW1
    by_cases hjl : j < y.length
    · have hjc : j < y.cps.size := hjl
      refine .inr ⟨hjc, fun H3 => Ex H H3 ∧ H3 D = some (.lst ((nextT y (ts.take i) ++ (y.cps.toList.take (j + 1)).map fun c => t ++ oneS c).map V.str)), fun H3 h => ⟨y.length - (j + 1), by omega, rfl, by omega, h.1, h.2⟩, fun x H3 yl3 => ?_⟩
      obtain ⟨rfl, c, hc, rfl⟩ := yl3
      have hc2 : y.cps.toList[j]? = some c := by rw [Array.getElem?_toList]; exact hc
      have nl : (nextT y (ts.take i)).length ≤ 8000 := by
        rw [next_len]
        have h1 := List.length_take_le' i ts
        exact Nat.le_trans (Nat.mul_le_mul h1 hy) (by omega)
      have tkl := List.length_take_le' j y.cps.toList
      refine ⟨rfl, .str t, rfl, .str (oneS c), rfl, t, oneS c, rfl, rfl, Evl.sz_of (by show t.length + 1 ≤ _; omega), _, hD2, Evl.sz_lt (by rw [List.length_map, List.length_append, List.length_map]; omega), Ex.mut ex2 nD, ?_⟩
      rw [upd_same, List.take_add_one, hc2, List.map_append, List.map_append, List.map_append, List.append_assoc]
      simp
    · have e : j = y.length := by omega
      subst e
      refine .inl ⟨Nat.le_refl _, ex2, ?_⟩
      rw [next_take y ht1]
      rw [show y.cps.toList.take y.length = y.cps.toList by rw [← yl, List.take_length]] at hD2
      exact hD2
  · have e : i = ts.length := by omega
    subst e
    rw [List.take_length] at hD
    exact .inl ⟨⟨_, Evl.sq_of (ex _ _ ha), by rw [List.length_map]; exact Nat.le_refl _⟩, q D H' nD ex hD⟩
theorem c_textsw (D : Df K mg "texts_within" sTextsWithin) (hb : Bl mg) : Cl P w K mg base 1 "texts_within" (spTextsW K) [] := by
  refine cl_of D sc_textsw (fun vs H Q E ⟨y, n, h, _⟩ => by rw [h]; rfl) (fun _ _ _ _ _ _ us hl => match us, hl with | [_, _], _ => rfl) fun f cdv A outer s H vs Q E hr h => ?_
  obtain ⟨y, n, rfl, hy, hn, q⟩ := h
  refine ⟨_, pss_cons (ps_set (i := 2) sc_textsw.nd rfl (.inl rfl) (pe_lst (pa_cons pe_str pa_nil)))
    (pss_cons (ps_set (i := 3) sc_textsw.nd rfl (.inl rfl) (pe_lst (pa_cons pe_str pa_nil)))
    (pss_cons (ps_for PassesOwn.never rfl (pi_range1 (by rfl) (hb _ (by decide +kernel)) (pa_cons (pv 1) pa_nil)) (pg_name (i := 4) sc_textsw.nd rfl (.inl rfl))
      (pss_cons (ps_setLc2 (i := 3) (own := [("text", 5), ("letter", 6)]) (vs1 := [6]) rfl sc_textsw.nd rfl rfl (sw_true rfl rfl rfl (by decide +kernel)) (pi_list (pv 3)) (blkOk_by (N := nTextsW) (sc := defScope sTextsWithin) (own := [("text", 5), ("letter", 6)]) (by decide +kernel)) (by simp)
        (fun _ _ _ _ _ => pg_name (i := 5) sc_textsw.nd rfl (.inl rfl) (.inr rfl)) (fun _ _ _ _ _ => pts_nil) (fun _ _ _ _ _ => pi_str (pv 0)) (fun _ _ _ _ _ => pg_name (i := 6) sc_textsw.nd rfl (.inl rfl) (.inr rfl)) (fun _ _ _ _ _ => pts_nil) (fun _ _ _ _ _ => pe_op op_add_str (pv 5) (pv 6)))
      (pss_one (ps_expr (pe_bm PySem.F.plainAttrs_list PySem.F.slot_list_extend PySem.F.type_list_extend mt_extend (pv 2) (pa_cons (pv 3) pa_nil))))))
    (pss_one (ps_ret (pv 2))))), ?_⟩
  have ne : ∀ {x y : Addr}, H x = none → (upd H x (.lst [.str ""])) y = none → y ≠ x := fun h1 h2 e => by rw [e, upd_same] at h2; cases h2
  refine ⟨Evl.sz_of (by show 1 ≤ _; decide), fun lt nt => ?_⟩
  refine ⟨Evl.sz_of (by show 1 ≤ _; decide), fun la na => ?_⟩
  have nla := ne nt na
  refine Evl.q_forR1 (n := (n : Int)) (ds_ev (K := K) (ds_cons (d_var (i := 1) ⟨_, rfl, .int _⟩) ds_nil)) (by omega)
    (fun i σ' H' => ∃ (a : Addr) (x4 x5 x6 : Option V), σ' = [some (.str y), some (.int (n : Int)), some (.ref lt), some (.ref a), x4, x5, x6] ∧ Ex H H' ∧ H' lt = some (.lst ((allT y i).map V.str)) ∧ H' a = some (.lst ((lastT y i).map V.str)) ∧ a ≠ lt)
    (fun H1 e1 => ⟨la, _, _, _, rfl, ((Ex.new nt).trans (Ex.new na)).trans e1, e1 _ _ (Ex.new na _ _ upd_same), e1 _ _ upd_same, nla⟩) (fun i σ' H' hi p => ?_) fun σ' H' p => ?_
  · obtain ⟨a, x4, x5, x6, rfl, p1, p2, p3, p4⟩ := p
    have hi2 : i < n := by omega
    have l1 := last_len2 (n := i) hy (by omega)
    have l2 := last_len2 (n := i + 1) hy (by omega)
    have l3 := all_len hy i (by omega)
    refine ev_next (K := K) (Q := fun x H1 => gName 3 x _ H1 _) p3 (by omega) hy (fun t ht => by have := last_tl i t ht; omega) fun D H2 nD e2 hD => ?_
    dsimp only [gName]
    have nDl : D ≠ lt := fun e => by rw [e, p2] at nD; cases nD
    have h2 := e2 _ _ p2
    refine ⟨.ref lt, rfl, .inl ⟨rfl, _, Evl.sq_of h2⟩, .ref D, rfl, lt, D, _, _, rfl, rfl, h2, hD, Evl.sz_of (by rw [List.length_map, List.length_map]; show _ + (lastT y (i + 1)).length ≤ _; omega), ?_⟩
    refine ⟨D, _, _, _, rfl, Ex.mut (p1.trans e2) nt, by rw [upd_same, ← List.map_append]; rfl, (upd_ne nDl).trans hD, nDl⟩
  · obtain ⟨a, x4, x5, x6, rfl, p1, p2, p3, p4⟩ := p
    rw [Int.toNat_natCast] at p2
    exact ⟨_, rfl, q lt H' nt p1 p2⟩
theorem q_max0 {te : TE} {σ : L2.St} {H : Hp} {D : Ends} {tz : TS} {i : Nat} (h : EvD K te σ H (.list [])) (k : ∀ H1, Ex H H1 → tz D (σ.set i (some (.int 1))) H1) : tSeq (tAsg (tCKw (rMaxDf K) (tCons te tNil) (tCons (tC (.int 1)) tNil)) (gName i)) tz D σ H :=
  h H (Ex.refl H) _ fun u H1 e1 hu1 => by
    cases hu1 with
    | lst hs hx =>
      rename_i ul xs
      have ex : xs = [] := by cases hx; rfl
      subst ex
      exact ⟨ul, [], 1, rfl, rfl, hs, fun _ => k H1 e1, fun n r e => nomatch e⟩
abbrev nLeast : List Str := ["letters", "mender", "longest", "left", "_", "ends", "text", "behind", "deed", "end"]
theorem sc_least : FnScope nLeast ["letters", "mender"] (defScope sLeast) := ⟨rfl, rfl, rfl, by decide +kernel, rfl, by decide +kernel, by decide +kernel⟩
theorem c_least (D : Df K mg "least_overlap" sLeast) (hb : Bl mg) (hmx : mg "max" = none) (C1 : Cl P w K mg base 1 "texts_within" (spTextsW K) []) (C2 : Cl P w K mg base 5 "deeds_on" (spDeedsOn K) []) (C3 : Cl P w K mg base 1 "text_behind" (spTextBehind K) []) : Cl P w K mg base 6 "least_overlap" (spLeast0 K) [] := by
  refine cl_of D sc_least (fun vs H Q E ⟨v, y, h, _⟩ => by rw [h]; rfl) (fun _ _ _ _ _ _ us hl => match us, hl with | [_, _], _ => rfl) fun f cdv A outer s H vs Q E hr h => ?_
  obtain ⟨v, y, rfl, h0, hy, hy0, q⟩ := h
  have hu : (A.deeper (envOfC "least_overlap" (defScope sLeast) s.heap.objs.size f cdv)).units + 1 < cLine := by have := hr.un; omega
  refine ⟨_, pss_cons (ps_set (i := 2) sc_least.nd rfl (.inl rfl) (pe_callBK (cr_maxDf rfl hu) (by rfl) hmx (by decide +kernel) (pa_cons (pe_lc (own := [("left", 3), ("_", 4)]) (g := gTup K 2 (gCons (gName 3) (gCons (gName 4) gNil))) rfl sc_least.nd (pi_tup (pv 1)) (blkOk_by (N := nLeast) (sc := defScope sLeast) (own := [("left", 3), ("_", 4)]) (by decide +kernel))
      (fun _ _ _ _ _ => pg_tup rfl (pgs_cons (pg_name (i := 3) sc_least.nd rfl (.inl rfl) (.inr rfl)) (pgs_cons (pg_name (i := 4) sc_least.nd rfl (.inl rfl) (.inr rfl)) pgs_nil))) (fun _ _ _ _ _ => pts_nil) (fun _ _ _ _ _ => pe_lenS hb (pv 3))) pa_nil) (pk_cons pe_int pk_nil)))
    (pss_cons (ps_set (i := 5) sc_least.nd rfl (.inr rfl) pe_dnewK)
    (pss_cons (ps_for PassesOwn.never rfl (pi_list (C8.pe_c C1 hr (by decide) (by rfl) (pa_cons (pv 0) (pa_cons (pe_op op_sub (pe_op op_mul pe_int (pv 2)) pe_int) pa_nil)))) (pg_name (i := 6) sc_least.nd rfl (.inr rfl))
      (pss_cons (ps_set (i := 7) sc_least.nd rfl (.inr rfl) (pe_lcn 8 sc_least.nd (pi_tup (C8.pe_c C2 hr (by decide) (by rfl) (pa_cons (pv 1) (pa_cons (pv 6) pa_nil)))) (fun _ _ _ _ _ => pts_nil) (fun _ _ _ _ _ => pe_dget hu (pv 5) (C8.pe_c C3 hr (by decide) (by rfl) (pa_cons (pv 6) (pa_cons (pv 8) pa_nil))) (fun _ _ => rfl)) (fun _ _ _ _ _ => pg_name (i := 8) sc_least.nd rfl (.inl rfl)) (blkOk_by (N := nLeast) (sc := defScope sLeast) (own := [("deed", 8)]) (by decide +kernel)) rfl))
      (pss_cons (ps_if (pt_val (pe_anyL rfl hb (pe_lcn 9 sc_least.nd (pi_list (pv 7)) (fun _ _ _ _ _ => pts_nil) (fun _ _ _ _ _ => pe_cmpR op_ne (pv 9) (pe_ix (r := rIxL K) ix_list (pv 7) pe_int (fun _ _ => rfl)) (nomark _)) (fun _ _ _ _ _ => pg_name (i := 9) sc_least.nd rfl (.inl rfl)) (blkOk_by (N := nLeast) (sc := defScope sLeast) (own := [("end", 9)]) (by decide +kernel)) rfl))) (pss_one (ps_ret (pv 6))) pss_nil)
      (pss_one (ps_dput hu (pv 5) (pv 6) (pe_ifExp (pt_cmpR op_gt (pe_lenQ hb (pv 7)) pe_int (nomark _)) (pe_ix (r := rIxL K) ix_list (pv 7) pe_int (fun _ _ => rfl)) (pv 6)) rfl)))))
    (pss_one (ps_ret pe_non)))), ?_⟩
  have non : ∀ z, deedsL [] z = [] := fun z => List.eq_nil_iff_forall_not_mem.mpr fun d hd => by
    obtain ⟨p, k, _, hk, _⟩ := deed_in hd
    exact absurd hk List.not_mem_nil
  have hmax : EvD K (tLc (iTup K (tVar 1)) (gTup K 2 (gCons (gName 3) (gCons (gName 4) gNil))) tYes (tCB rLenTx (tCons (tVar 3) tNil)) [3, 4]) (L2.start nLeast [.str y, v]) H (.list []) :=
    d_lcT (ds := []) (fun _ => true) (fun d => d) (d_var (i := 1) ⟨_, rfl, h0⟩) (by decide) (fun d hd => absurd hd List.not_mem_nil) fun d hd => absurd hd List.not_mem_nil
  refine q_max0 (K := K) hmax fun H1 e1 => ?_
  refine fun d nd => ?_
  dsimp only [gName]
  obtain ⟨G, eG⟩ : ∃ G, G = upd H1 d (.dK []) := ⟨_, rfl⟩
  have xG : Ex H1 G := by rw [eG]; exact Ex.new nd
  have hdG : G d = some (.dK []) := by rw [eG, upd_same]
  rw [← eG]
  refine ⟨.str y, rfl, .int 1, rfl, 2, 1, rfl, rfl, .inl ⟨by decide, by decide⟩, 2, 1, rfl, rfl, y, 1, rfl, hy, by decide, fun l H2 nl e2 hl => ?_⟩
  have hd2 := e2 _ _ hdG
  have nld : l ≠ d := fun e => by rw [e, hdG] at nl; cases nl
  have al := all_len hy 1 (by decide)
  have tl1 : ∀ t ∈ allT y 1, t.length ≤ 1 := fun t ht => by
    rcases List.mem_append.mp ht with ht | ht
    · rw [List.mem_singleton.mp ht]; exact Nat.zero_le _
    · rw [last_tl 1 t ht]; exact Nat.le_refl _
  have hv2 : Dp K H2 v (.tuple []) := dp_ex ((e1.trans xG).trans e2) h0
  refine ⟨l, rfl, ⟨_, Evl.sq_of hl⟩, for_list (xs := (allT y 1).map V.str) (fun i σ' H' => ∃ x6 x7 x8 x9 kvs, σ' = [some (.str y), some v, some (.int 1), none, none, some (.ref d), x6, x7, x8, x9] ∧ Kp d H2 H' ∧ Ex H H' ∧ H' d = some (.dK kvs) ∧ kvs.length ≤ i)
    ⟨_, _, _, _, [], rfl, Kp.refl d H2, (e1.trans xG).trans e2, hd2, Nat.le_refl _⟩ (fun i σ' H' _ ⟨_, _, _, _, _, _, p, _⟩ => Evl.sq_of (p _ _ nld hl (fun _ e => nomatch e))) (fun i x σ' H' hi p => ?_) fun σ' H' p => ?_⟩
  · obtain ⟨x6, x7, x8, x9, kvs, rfl, p1, p2, p3, p4⟩ := p
    have hil := (List.getElem?_eq_some_iff.mp hi).1
    rw [List.length_map] at hil
    obtain ⟨z, hz⟩ : ∃ z, (allT y 1)[i]? = some z := ⟨_, List.getElem?_eq_getElem hil⟩
    rw [List.getElem?_map, hz] at hi
    have hx1 : V.str z = x := Option.some.inj hi
    subst hx1
    have zl := tl1 z (List.mem_of_getElem? hz)
    dsimp only [gName]
    have hv3 : Dp K H' v (.tuple []) := dp_ex p2 h0
    have hc : EvD K (tCall (spDeedsOn K) [] C8.E0 (tCons (tVar 1) (tCons (tVar 6) tNil))) [some (.str y), some v, some (.int 1), none, none, some (.ref d), some (.str z), x7, x8, x9] H' (.tuple []) :=
      d_eqTo (d_call (ds_cons (d_var (i := 1) ⟨_, rfl, hv3⟩) (ds_cons (d_var (i := 6) ⟨_, rfl, .str z⟩) ds_nil)) ⟨_, _, rfl, [], z, rfl, rfl, by omega, by decide, fun p hp => absurd hp List.not_mem_nil⟩) (show PyData.tuple (deedsL (pairsOf (.tuple [])) z) = .tuple [] by rw [show pairsOf (.tuple []) = [] from rfl, non])
    refine AsKit.q_asg (K := K) (d := .list []) (d_lcT (ds := []) (fun _ => true) (fun d => d) hc (by decide) (fun d hd => absurd hd List.not_mem_nil) fun d hd => absurd hd List.not_mem_nil) fun v7 H3 e3 h7 => ?_
    refine Evl.q_when (b := ([] : List Bool).any id) (t_ofB (K := K) (d_any (bs := []) (d_eqTo (d_lcL (ds := []) (fun _ => true) (fun d => d) (d_var (i := 7) ⟨_, rfl, h7⟩) (by decide) (fun d hd => absurd hd List.not_mem_nil) fun d hd => absurd hd List.not_mem_nil) rfl))) (fun hb1 => by cases hb1) fun _ H4 e4 => ?_
    have tst := t_ofD (K := K) (σ := [some (.str y), some v, some (.int 1), none, none, some (.ref d), some (.str z), some v7, x8, x9]) (d_cmpI (g := fun i j => decide (j < i)) (d_lenL (ds := []) (d_var (i := 7) ⟨_, rfl, dp_ex e4 h7⟩)) (d_int (i := 0)))
    refine tst H4 (Ex.refl H4) _ fun H5 e5 => ?_
    have ed : decide ((0 : Int) < (([] : List PyData).length : Int)) = false := by decide
    rw [ed]
    have e35 := (e3.trans e4).trans e5
    have hd5 := e35 _ _ p3
    have kl : kvs.length ≤ 3000 := by omega
    refine ⟨.str z, rfl, .ref d, rfl, .str z, rfl, d, _, rfl, DPut.k (k := .inr z) hd5 (Evl.sz_lt (by omega)), ?_⟩
    have lk := length_putK kvs (.inr z) (V.str z)
    have nHd : H d = none := by
      cases hq : H d with
      | none => rfl
      | some o => have := e1 _ _ hq; rw [nd] at this; cases this
    exact ⟨_, _, _, _, _, rfl, (p1.trans (kp_ex e35)).trans kp_upd, fun b o hb => (upd_ne (fun e => by rw [e, nHd] at hb; cases hb)).trans (e35 _ _ (p2 _ _ hb)), upd_same, by omega⟩
  · obtain ⟨x6, x7, x8, x9, kvs, rfl, p1, p2, p3, p4⟩ := p
    exact q H' p2
end
end K26

set_option maxHeartbeats 4000000
set_option autoImplicit false
/-! try with several clauses, with and without a name. -/
namespace AsTry
open PySem PySem.Spec PyProof.Rows L2
/-- the ends of a suite whose name, slot i, goes behind it -/
def goneE (i : Nat) (D : Ends) : Ends := { nx := fun σ H => D.nx (σ.set i none) H, rt := D.rt, bk := fun σ H => D.bk (σ.set i none) H, ct := fun σ H => D.ct (σ.set i none) H }
abbrev Sui := Addr → Value → Option Addr → TS
/-- one clause: its class, its suite's reading -/
inductive Hd (X : Cx) : ExceptHandler → Value × Sui → Prop
  | plain {x : Str} {c : Value} {ts : Sui} {b : Stmt} {bs : List Stmt} {p1 p2 : Pos} (nm : Names X x c)
      (su : ∀ (a : Addr) (oe : Obj) (cls : Value) (d : Option Addr) (pn : List (Addr × Obj)), Zc cls d oe → (∃ vs, oe.data = .fields vs) → PSs (X.suite a ((a, oe) :: pn)) (b :: bs) (ts a cls d)) : Hd X (.ExceptHandler (some (.Name x p1)) none (b :: bs) p2) (c, ts)
  | named {x n : Str} {i : Nat} {c : Value} {ts : Sui} {b : Stmt} {bs : List Stmt} {p1 p2 : Pos} (nm : Names X x c) (nd : X.N.Nodup) (at_ : X.N[i]? = some n) (lo : X.env.kindOf n = some .local)
      (su : ∀ (a : Addr) (oe : Obj) (cls : Value) (d : Option Addr) (pn : List (Addr × Obj)), Zc cls d oe → (∃ vs, oe.data = .fields vs) → PSs (X.suite a ((a, oe) :: pn)) (b :: bs) (ts a cls d)) :
      Hd X (.ExceptHandler (some (.Name x p1)) (some n) (b :: bs) p2) (c, fun a cls d D σ H => (σ.set i (some (.ref a)))[i]? = some (some (.ref a)) → ts a cls d (goneE i D) (σ.set i (some (.ref a))) H)
inductive Hds (X : Cx) : List ExceptHandler → List (Value × Sui) → Prop
  | nil : Hds X [] []
  | cons {h : ExceptHandler} {q : Value × Sui} {hs : List ExceptHandler} {l : List (Value × Sui)} (a : Hd X h q) (r : Hds X hs l) : Hds X (h :: hs) (q :: l)
section
variable {X : Cx} {pins : List (Addr × Obj)} {σ σ1 : L2.St} {H H1 : Hp} {s s1 sI : Shared} {D : Ends} {B : Heap} {a : Addr} {cls : Value} {d : Option Addr} {Wout : WX}
/-- a suite's end, told of the context of the try -/
theorem end_plain {oe : Obj} {fl : Flow} {pn : List (Addr × Obj)} (ok : X.Ok) (h : SP (X.suite a ((a, oe) :: (X.pn ++ pins))) [] D fl s1) : SP X pins D fl s1 := by
  cases fl with
  | ret u =>
    obtain ⟨v, τ, G, S, rv, q⟩ := h
    exact ⟨v, τ, G, S.unsuite ok, rv, q⟩
  | next =>
    obtain ⟨τ, G, S, q⟩ := h
    exact ⟨τ, G, S.unsuite ok, q⟩
  | brk =>
    obtain ⟨τ, G, S, q⟩ := h
    exact ⟨τ, G, S.unsuite ok, q⟩
  | cont =>
    obtain ⟨τ, G, S, q⟩ := h
    exact ⟨τ, G, S.unsuite ok, q⟩
/-- .. with the clause's name taken away -/
theorem end_named {oe : Obj} {fl : Flow} {n : Str} {i : Nat} {p2 : Pos} {E : Value → Shared → Prop} {A : Around} (ok : X.Ok) (nd : X.N.Nodup) (at_ : X.N[i]? = some n) (lo : X.env.kindOf n = some .local)
    (h : SP (X.suite a ((a, oe) :: (X.pn ++ pins))) [] (goneE i D) fl s1) : wpAny (model X.prog X.w) A (do bindName X.env n .none; unbindBehindTheSuite X.env n p2) (fun _ s2 => SP X pins D fl s2) E s1 := by
  cases fl with
  | ret u =>
    obtain ⟨v, τ, G, S, rv, q⟩ := h
    exact gone_ok (S.unsuite ok) nd at_ lo fun s2 J => ⟨v, τ.set i none, G, J, rv, q⟩
  | next =>
    obtain ⟨τ, G, S, q⟩ := h
    exact gone_ok (S.unsuite ok) nd at_ lo fun s2 J => ⟨τ.set i none, G, J, q⟩
  | brk =>
    obtain ⟨τ, G, S, q⟩ := h
    exact gone_ok (S.unsuite ok) nd at_ lo fun s2 J => ⟨τ.set i none, G, J, q⟩
  | cont =>
    obtain ⟨τ, G, S, q⟩ := h
    exact gone_ok (S.unsuite ok) nd at_ lo fun s2 J => ⟨τ.set i none, G, J, q⟩
/-- an exception that has come down to the try at h3, and the clauses that are left -/
theorem clauses {h3 : Heap} (hs : X.stack = X.env :: X.outer) (hf : X.env.frame = some X.env.locals) (tk : Takes X Wout) (J : Inv X pins σ H sI) (nb : ∀ b o, sI.heap.get? b = some o → b ∉ frs X.stack → B.get? b = some o) (up : sI.heap.UpToSlots h3)
    (fl3 : HandSPX.FlyingZ B (X.env :: X.outer) a (Zc cls d) h3) (na : H a = none) (os : s.os = sI.os) (ag : AllBare s.gens) : ∀ {hds : List ExceptHandler} {l : List (Value × Sui)}, Hds X hds l → wMany X.K Wout D l cls d σ H →
    wpAny (model X.prog X.w) X.A (handleBy (.ref a) X.env hds) (SP X pins D) X.xe { s with heap := h3 } := by
  have ok := J.ok
  have fresh : ∀ {h : Heap}, HandSPX.FlyingZ B (X.env :: X.outer) a (Zc cls d) h → a ≠ X.env.locals ∧ a ∉ X.fs := fun {h} fz => by
    obtain ⟨o, vs, e, _, dd⟩ := fz.there
    have no : a ∉ frs (X.env :: X.outer) := fun hm => by
      obtain ⟨_, o', e', nf⟩ := fz.2.2.1.mem hm
      cases e.symm.trans e'
      exact nf _ dd
    refine ⟨fun z => no (List.mem_filterMap.mpr ⟨X.env, List.mem_cons_self, by rw [hf, z]⟩), fun hm => ?_⟩
    obtain ⟨e', he', z⟩ := List.mem_filterMap.mp hm
    exact no (List.mem_filterMap.mpr ⟨e', List.mem_cons_of_mem _ he', z⟩)
  have land : ∀ {h : Heap}, HandSPX.FlyingZ B (X.env :: X.outer) a (Zc cls d) h → sI.heap.UpToSlots h → ∃ oe, Zc cls d oe ∧ (∃ vs, oe.data = .fields vs) ∧ h.get? a = some oe ∧ Inv (X.suite a ((a, oe) :: (X.pn ++ pins))) [] σ H { s with heap := h } := fun {h} fz u => by
    obtain ⟨o, vs, e, z, dd⟩ := fz.there
    exact ⟨o, z, ⟨vs, dd⟩, e, (Inv.landed (s' := { s with heap := h }) J nb fz.1 u os ag).suite e dd na (fresh fz).1 (fresh fz).2⟩
  intro hds l hk
  induction hk with
  | nil =>
    intro w
    obtain ⟨_, _, _, oe, vs, T, oT, ts', he, hz, hd, h1, _⟩ := id fl3
    refine wpAny_handleBy_nil ?_
    unfold PySem.passOn
    refine wpAny_bind (wpAny_field he hd h1 ?_)
    rw [if_neg (show ¬ ((Value.ref T == Value.none) = true) from by simp)]
    have out : wpAny (model X.prog X.w) X.A (setFlight (.ref a) X.env.frame) (fun _ s4 => wpAny (model X.prog X.w) X.A (throw (.ref a) : Sem Flow) (SP X pins D) X.xe s4) X.xe { s with heap := h3 } := by
      rw [hf]
      exact HandSPX.setFlight_upZ fl3 fun h4 x4 u4 => wpAny_throw (tk _ _ ⟨a, B, sI, pins, σ, H, cls, d, rfl, J, nb, up.trans u4, .inr (.inr (by rw [hs]; exact x4)), na, os, ag, w⟩)
    first | exact wpAny_bind (wpAny_pure (wpAny_bind out)) | exact wpAny_bind out
  | @cons hh q hs2 l2 ha hr ih =>
    intro w
    obtain ⟨c, ts⟩ := q
    obtain ⟨yes, e1, w1, w2⟩ := w
    obtain ⟨oe3, z3, f3, he3, S3⟩ := land fl3 up
    have LT : PySem.W.Looks (model X.prog X.w) h3 (typeOf (.ref a)) cls := fun A Q E s k q => wpAny_typeOf_ref (k _ _ he3) (by rw [z3.1]; exact q)
    have LM := PySem.W.exm_one (M := model X.prog X.w) S3.kIn LT e1
    have test : ∀ {x : Str} {np : Pos} {Q : Value → Shared → Prop} {E : Value → Shared → Prop}, Names X x c → Q c { s with heap := h3 } → wpAny (model X.prog X.w) (X.A.mark (some (.ref a))) (eval (.Name x np) X.env) Q E { s with heap := h3 } := fun {x np Q E} nm q => by
      obtain ⟨g, db, m | ⟨m, v, nn⟩⟩ := nm
      · exact ld_glob (X := X.suite a ((a, oe3) :: (X.pn ++ pins))) S3 g m q db
      · exact ld_blt (X := X.suite a ((a, oe3) :: (X.pn ++ pins))) S3 g m v q nn db
    cases ha with
    | plain nm su =>
      refine wpAny_handleBy_cons (codeAny_handlers_test ?_) (by intro z; cases z)
      refine test nm (LM.here ?_)
      cases yes with
      | false => exact ih (w2 rfl)
      | true =>
        refine codeAny_handlers_suite (HandSPX.lands_againZ fl3 fun h4 fl4 u4 => ?_)
        obtain ⟨oe4, z4, f4, he4, S4⟩ := land fl4 (up.trans u4)
        exact wpAny_mono ((su a oe4 cls d (X.pn ++ pins) z4 f4).run [] _ _ H _ S4 (w1 rfl a na)) (fun fl s6 q => end_plain (pn := []) ok q) fun _ _ z => z.elim
    | named nm nd at_ lo su =>
      refine wpAny_handleBy_cons (codeAny_handlers_test ?_) (by intro z; cases z)
      refine test nm (LM.here ?_)
      cases yes with
      | false => exact ih (w2 rfl)
      | true =>
        refine codeAny_handlers_suite_as (HandSPX.lands_againZ fl3 fun h4 fl4 u4 => ?_)
        obtain ⟨oe4, z4, f4, he4, S4⟩ := land fl4 (up.trans u4)
        refine store_ok (X := X.suite a ((a, oe4) :: (X.pn ++ pins))) (v := .ref a) S4 nd at_ (.inl lo) rfl (fun s5 S5 => ?_) (.inr lo)
        exact wpAny_mono ((su a oe4 cls d (X.pn ++ pins) z4 f4).run [] s5 _ H _ S5 (w1 rfl a na (by rw [List.getElem?_set_self (by rw [J.len]; exact (List.getElem?_eq_some_iff.mp at_).1)]))) (fun fl s6 q => end_named ok nd at_ lo q) fun _ _ z => z.elim
end
section
variable {X : Cx} {body : List Stmt} {h0 : ExceptHandler} {hds : List ExceptHandler} {l : List (Value × Sui)} {pos : Pos} {tb : WX → TS} {Wout : WX}
/-- try: body / except A: .. / except B as e: .. -/
theorem ps_tryMix (hs : X.stack = X.env :: X.outer) (hf : X.env.frame = some X.env.locals) (tk : Takes X Wout)
    (hb : ∀ (W : WX) (pn : List (Addr × Obj)) (xe : Value → Shared → Prop), Takes (X.tr pn xe) W → PassesOwn (model X.prog X.w) X.A X.env xe → PSs (X.tr pn xe) body (tb W)) (hh : Hds X (h0 :: hds) l) :
    PS X (.Try body (h0 :: hds) [] [] pos) (fun D σ H => tb (wMany X.K Wout D l) D σ H) := by
  refine ⟨fun pins s σ H D I h => wpAny_Try_except ?_⟩
  have ok := I.ok
  have fr : X.A.frames = some (X.env :: X.outer) := ok.frames.trans (by rw [hs])
  have run := (hb (wMany X.K Wout D l) (X.pn ++ pins) (fun e s1 => wpAny (model X.prog X.w) X.A (noteFrame e X.env) (fun _ s2 => wpAny (model X.prog X.w) X.A (setFlight e none)
    (fun _ s3 => wpAny (model X.prog X.w) X.A (handleBy e X.env (h0 :: hds)) (SP X pins D) X.xe s3) X.xe s2) X.xe s1) (fun u s' x => ?_) PassesOwn.looking).run [] s σ H D (I.toTry _) h
  · refine wpAny_mono run (fun fl s1 q => ?_) fun _ _ z => z
    cases fl with
    | next =>
      obtain ⟨τ, G, J, q⟩ := q
      exact wpAny_execs_nil ⟨τ, G, J.ofTry ok, q⟩
    | ret u =>
      obtain ⟨v, τ, G, J, rv, q⟩ := q
      exact ⟨v, τ, G, J.ofTry ok, rv, q⟩
    | brk =>
      obtain ⟨τ, G, J, q⟩ := q
      exact ⟨τ, G, J.ofTry ok, q⟩
    | cont =>
      obtain ⟨τ, G, J, q⟩ := q
      exact ⟨τ, G, J.ofTry ok, q⟩
  · obtain ⟨a, B, sI, pins', τ, G, cls, d, rfl, J', nb, up, sky, na, os, ag, w⟩ := x
    have J : Inv X pins τ G sI := J'.ofTry ok
    have sky' : Sky B (X.env :: X.outer) a (Zc cls d) X.env.locals s'.heap := by
      rw [← hs]
      exact sky
    exact Sky.land Zc.steady fr hf sky' fun h3 fl3 up3 => clauses hs hf tk J nb (up.trans up3) fl3 na os ag hh w
end
/-- isinstance(e, T), e the caught exception of the class at C, with a dict or without, T a built-in class above C -/
def rIsV (T : String) (a : Addr) : List V → Hp → VK → Prop := fun xs H Q => xs = [.ref a, .ty T] ∧ Q (.bl true) H
section
open PySem.W
theorem says_true {K : Frag} {a : Addr} {t : Value} {T : String} {S : Heap → Prop} (ty : ∀ (M : Model) (h : Heap), S h → Looks M h (typeOf (.ref a)) t) (e : kitCls K t (.type T) = some true) (ne : (t == .type T) = false) : Answers (fun s => K.In s.heap ∧ S s.heap) (.ref a) (.type T) true := by
  intro dep tk prog w A R s ⟨⟨X, p⟩, hq⟩
  obtain ⟨hp, g, dr, tt, os⟩ := s
  obtain ⟨y1, y2, y3⟩ := kit_cls (M := model prog w) X e
  have L := ty (model prog w) hp p
  unfold Builtin.«isinstance.nested»
  refine wpAny_bind (L.at ?_)
  rw [if_neg (by rw [ne]; exact Bool.false_ne_true)]
  refine wpAny_bind (y1.at ?_)
  rw [if_pos (by decide)]
  k_delta "plainIsInstance"
  refine wpAny_bind (wpAny_bind (y2.at ?_))
  simp only [Bool.not_true, Bool.false_eq_true, if_false]
  refine wpAny_bind ((L.andThen y3 : Looks (model prog w) hp (isInstance (.ref a) (.type T)) true).at ?_)
  first | exact wpAny_pure (wpAny_pure (hq tt)) | (simp only [if_true]; first | exact wpAny_pure (wpAny_pure (hq tt)) | exact wpAny_pure (hq tt) | exact wpAny_bind (wpAny_pure (wpAny_pure (hq tt))))
end
theorem call_isV {X : Cx} {a C : Addr} {oe : Obj} {d : Option Addr} {T : String} {pn : List (Addr × Obj)} (e : PySem.W.kitCls X.K (.ref C) (.type T) = some true) (hz : Zc (.ref C) d oe) : CallR (X.suite a ((a, oe) :: pn)) (.builtin "isinstance") (rIsV T a) := by
  intro pins s σ H xs us Q I r h
  obtain ⟨rfl, q⟩ := h
  cases r with
  | cons rx rr =>
    cases rr with
    | cons rt rr =>
      cases rr
      cases rx
      cases rt
      have at_ := (I.pin (a, oe) (List.mem_append.mpr (.inl List.mem_cons_self))).1
      refine PySem.call_isinstance (S := fun _ R s => (X.K.In s.heap ∧ s.heap.get? a = some oe) ∧ ∀ tk, R (.ok (.ret (.bool true))) { s with toks := tk })
        (fun prog w A R s hs => PySem.isinstance_outer (says_true (S := fun h => h.get? a = some oe) (fun M h p A Q E s k q => wpAny_typeOf_ref (k _ _ p) (by rw [hz.1]; exact q)) e (by rfl) 0 _ prog w A R s hs) (fun z => nomatch z)) ⟨⟨I.kIn, at_⟩, fun tk => ⟨.bl true, H, I.kept (t' := tk) fun _ _ z => z, rfl, q⟩⟩
end AsTry

set_option maxHeartbeats 4000000
set_option autoImplicit false
/-! lambdas that capture names, with defaults or without: made, kept in a list, called by a def that they are handed to. -/
namespace AsAct
open PySem PySem.Spec PyProof.Rows L2 LamX NdefX
/-- a lambda's words; bn: its parameters, all of which have defaults -/
structure Lw where
  params : Arguments
  body : Expr
  scope : Scope
  bn : List Str
abbrev lfd (L : Lw) (q : Str) (cl : List (Str × Addr)) (dV doc pm ctv : Value) (c' : Addr) : FuncData := PySem.W.kdv_fn "<lambda>" q L.params (.expr L.body) L.scope cl dV doc pm (.ref c') ctv
/-- the lambda's object -/
def LmO (f : Addr) (L : Lw) (q : Str) (cl : List (Str × Addr)) (dV : Value) (c' : Addr) : HO := .ext fun h => ∃ (od : Option Addr) (sl : Array (Option Value)) (doc pm ctv : Value), h.get? f = some (⟨.type "function", od, .func (lfd L q cl dV doc pm ctv c'), sl⟩ : Obj)
/-- its defaults -/
def DfO (T : Addr) (ds : List Value) : HO := .ext fun h => h.get? T = some (PySem.W.kdv_tup ds)
/-- the lambda stands at f -/
def LmAt (X : Cx) (f : Addr) (L : Lw) (H : Hp) : Prop := ∃ (dV : Value) (c' : Addr) (ds : List Value), H f = some (LmO f L (X.env.qual ++ "<lambda>") (cloFrom X.env.cells L.scope.names []) dV c') ∧ H c' = some (CodeO c' (X.env.qual ++ "<lambda>")) ∧ ds.length = L.bn.length ∧
  ((ds = [] ∧ dV = .none) ∨ (ds ≠ [] ∧ ∃ T, dV = .ref T ∧ H T = some (DfO T ds)))
theorem LmAt.ext {X : Cx} {f : Addr} {L : Lw} {H G : Hp} (h : LmAt X f L H) (e : ExtN H G) : LmAt X f L G := by
  obtain ⟨dV, c', ds, h1, h2, h3, h4⟩ := h
  refine ⟨dV, c', ds, e _ _ h1 fun ps z => ?_, e _ _ h2 codeO_ne, h3, h4.imp id fun ⟨en, T, e1, e2⟩ => ⟨en, T, e1, e _ _ e2 fun ps z => ?_⟩⟩
  · unfold LmO at z; cases z
  · unfold DfO at z; cases z
section
variable {X : Cx} {pins : List (Addr × Obj)} {σ : L2.St} {H : Hp} {s : Shared}
theorem inv_lm {L : Lw} {q : Str} {cl : List (Str × Addr)} {dV doc pm ctv : Value} {c' : Addr} {t' : Nat} (I : Inv X pins σ H s) :
    Inv X pins σ (upd H s.heap.objs.size (LmO s.heap.objs.size L q cl dV c')) { s with heap := s.heap.push { cls := .type "function", data := .func (lfd L q cl dV doc pm ctv c') }, toks := t' } := by
  have z : (s.heap.push ({ cls := .type "function", data := .func (lfd L q cl dV doc pm ctv c') } : Obj)).get? s.heap.objs.size = some _ := Heap.get?_push_size _ rfl
  exact I.laid (a := s.heap.objs.size) (fun b u q => Heap.get?_push_of_some _ q) (Nat.le_refl _) ⟨⟨_, _, doc, pm, ctv, z⟩, ⟨_, z⟩, fun h1 h2 ⟨od, sl, d, p, t, y⟩ st => ⟨od, sl, d, p, t, st _ y⟩⟩
/-- the tail of its making; dV its defaults -/
theorem lm_tail {T : List NTab} {nm : Nat → Nat → Str} {c P : Addr} {L : Lw} {pos : Pos} {dV : Value} {E : Value → Shared → Prop} {Q : Value → Shared → Prop} (I : Inv X pins σ H s) (TB : TabB X.base X.mg c P) (hcode : X.env.code = .ref c)
    (hm : (P, nm) ∈ T) (hn : nm pos.line pos.col = X.env.qual ++ "<lambda>") (hu : ∀ p ∈ T, p.1 = P → p.2 = nm) (hT : TabsN T H) (hfree : ∀ y ∈ L.scope.names, y.2 = .free → ∃ c, X.env.cells.lookup y.1 = some c)
    (h : ∀ (f c' : Addr) (G : Hp) (z : Shared), Inv X pins σ G z → ExtN H G → TabsN T G → H f = none → G f = some (LmO f L (X.env.qual ++ "<lambda>") (cloFrom X.env.cells L.scope.names []) dV c') → G c' = some (CodeO c' (X.env.qual ++ "<lambda>")) → Q (.ref f) z) :
    wpAny (model X.prog X.w) X.A (makeTail "<lambda>" (X.env.qual ++ "<lambda>") L.params (.expr L.body) L.scope X.env dV .none none pos pos.line) Q E s := by
  obtain ⟨ps, hP, ht, ha⟩ := (show TabN H P nm from hT _ hm)
  have bP : s.heap.BuiltinsAt X.mg P := TB.bm.keeps I.bk
  have oP : s.heap.get? P = some { cls := .none, data := .fields ps } := I.hok P _ hP
  cases hc : codeAmong pos ps.toList with
  | some cv =>
    obtain ⟨c', rfl, hco⟩ := ha pos cv hc
    rw [hn] at hco
    refine PySem.W.kdv_makeTailHit (mg := X.mg) (c := c) (P := P) (ps := ps) (closure_ok hfree) I.ok.glob (I.mod.glob.keeps I.bk) hcode (TB.code.keeps I.bk) oP ht hc bP fun ctv doc h' tk hx _ => ?_
    have I1 : Inv X pins σ H { s with heap := h', toks := tk } := I.kept hx
    have nF : H h'.objs.size = none := I1.hok.fresh (Nat.le_refl _)
    have I2 := inv_lm (L := L) (q := X.env.qual ++ "<lambda>") (cl := cloFrom X.env.cells L.scope.names []) (dV := dV) (doc := doc) (pm := (X.mg "__name__").getD .none) (ctv := ctv) (c' := c') (t' := tk) I1
    exact h h'.objs.size c' _ _ I2 (fun b o e _ => (upd_ne (ne_of_none e nF)).trans e) (hT.ext fun b o e => (upd_ne (ne_of_none e nF)).trans e) nF upd_same ((upd_ne (ne_of_none hco nF)).trans hco)
  | none =>
    refine PySem.W.kdv_makeTail (mg := X.mg) (c := c) (P := P) (ps := ps) (closure_ok hfree) I.ok.glob (I.mod.glob.keeps I.bk) hcode (TB.code.keeps I.bk) oP ht hc TB.gP bP fun c' ctv doc h' tk hx hge hlt hrec htb => ?_
    obtain ⟨c2, oc, vs, t, e2, hoc, hd, hv⟩ := hrec
    cases e2
    have nC : H c' = none := I.hok.fresh hge
    obtain ⟨more, emore⟩ : ∃ more : Array Value, more = #[rawInt pos.line, rawInt pos.col, .ref c'] := ⟨_, rfl⟩
    rw [← emore] at htb
    obtain ⟨G, eG⟩ : ∃ G, G = upd (upd H P (.tbl (ps ++ more))) c' (CodeO c' (X.env.qual ++ "<lambda>")) := ⟨_, rfl⟩
    have I1 : Inv X pins σ G { s with heap := h', toks := tk } := by
      rw [eG]
      exact inv_table (t' := tk) (more := more) (h' := h') I hP (fun b o hb e => hx b o hb e) htb hge ⟨oc, vs, t, hoc, hd, hv⟩
    have gE : ExtN H G := fun b o e n => by
      rw [eG, upd_ne (ne_of_none e nC), upd_ne (fun z => n ps (Option.some.inj (e.symm.trans (by rw [z]; exact hP))))]
      exact e
    have gC : G c' = some (CodeO c' (X.env.qual ++ "<lambda>")) := by rw [eG]; exact upd_same
    have gP : G P = some (.tbl (ps ++ more)) := by rw [eG, upd_ne (ne_of_none hP nC), upd_same]
    have eL : (ps ++ more).toList = ps.toList ++ [rawInt pos.line, rawInt pos.col, .ref c'] := by rw [emore]; simp
    have gT : TabsN T G := fun p hp => by
      by_cases hb : p.1 = P
      · rw [hu p hp hb, hb]
        refine ⟨_, gP, by rw [eL]; exact PySem.TriplesOk_snoc _ _ _ _ ht, fun p' cv hcv => ?_⟩
        rw [eL] at hcv
        rcases among_app2 _ ht hcv with z | ⟨z, z1, z2⟩
        · obtain ⟨c0, e1, e3⟩ := ha p' cv z
          exact ⟨c0, e1, gE _ _ e3 codeO_ne⟩
        · exact ⟨c', z, by rw [← z1, ← z2, hn]; exact gC⟩
      · obtain ⟨ps', a1, a2, a3⟩ := hT p hp
        refine ⟨ps', by rw [eG, upd_ne (ne_of_none a1 nC), upd_ne hb]; exact a1, a2, fun p' cv hcv => ?_⟩
        obtain ⟨c0, e1, e3⟩ := a3 p' cv hcv
        exact ⟨c0, e1, gE _ _ e3 codeO_ne⟩
    have nF : G h'.objs.size = none := I1.hok.fresh (Nat.le_refl _)
    have nF0 : H h'.objs.size = none := I.hok.fresh (Nat.le_trans hge (Nat.le_of_lt hlt))
    have I2 := inv_lm (L := L) (q := X.env.qual ++ "<lambda>") (cl := cloFrom X.env.cells L.scope.names []) (dV := dV) (doc := doc) (pm := (X.mg "__name__").getD .none) (ctv := ctv) (c' := c') (t' := tk) I1
    refine h h'.objs.size c' _ _ I2 (fun b o e n => (upd_ne (ne_of_none (gE b o e n) nF)).trans (gE b o e n)) (gT.ext fun b o e => (upd_ne (ne_of_none e nF)).trans e) nF0 upd_same ((upd_ne (Nat.ne_of_lt hlt)).trans gC)
/-- the reading of a lambda -/
def tLm (X : Cx) (T : List NTab) (L : Lw) : TE := fun _ H Q => TabsN T H ∧ ∀ (f : Addr) (G : Hp), ExtN H G → TabsN T G → H f = none → LmAt X f L G → Q (.ref f) G
theorem pe_lm0 {T : List NTab} {nm : Nat → Nat → Str} {c P : Addr} {L : Lw} {pos : Pos} (TB : TabB X.base X.mg c P) (hcode : X.env.code = .ref c) (hm : (P, nm) ∈ T) (hn : nm pos.line pos.col = X.env.qual ++ "<lambda>") (hu : ∀ p ∈ T, p.1 = P → p.2 = nm)
    (hfree : ∀ y ∈ L.scope.names, y.2 = .free → X.env.scope.names.lookup y.1 = some .cell ∨ X.env.scope.names.lookup y.1 = some .free) (h0 : L.bn = []) (hdef : defaultsOf L.params X.env = ([], []) := by rfl) : PE X (.Lambda L.params L.body L.scope pos) (tLm X T L) := by
  refine ⟨fun pins s σ H Q I ⟨hT, h⟩ => PySem.W.kla_eval hdef ?_⟩
  rw [makeFunction_eq]
  simp only [List.zip_nil_right, List.filterMap_nil, List.isEmpty_nil, if_true, pure_bind]
  refine lm_tail I TB hcode hm hn hu hT (fun y hy e => (hfree y hy e).elim (fun z => I.ok.has _ (.inl z)) fun z => I.ok.has _ (.inr z)) fun f c' G z J e1 e3 e4 e5 e6 => ⟨.ref f, G, J, rfl, h f G e1 e3 e4 ⟨.none, c', [], e5, e6, by rw [h0]; rfl, .inl ⟨rfl, rfl⟩⟩⟩
theorem pe_lm1 {T : List NTab} {nm : Nat → Nat → Str} {c P : Addr} {L : Lw} {pos p0 : Pos} {x : Str} {i : Int} {k : Nat} (TB : TabB X.base X.mg c P) (hcode : X.env.code = .ref c) (hm : (P, nm) ∈ T) (hn : nm pos.line pos.col = X.env.qual ++ "<lambda>") (hu : ∀ p ∈ T, p.1 = P → p.2 = nm)
    (hfree : ∀ y ∈ L.scope.names, y.2 = .free → X.env.scope.names.lookup y.1 = some .cell ∨ X.env.scope.names.lookup y.1 = some .free) (h0 : L.bn = [x]) (hd : L.params.defaults = [.Constant (.int i) k p0]) (hk : L.params.kw_defaults = []) : PE X (.Lambda L.params L.body L.scope pos) (tLm X T L) := by
  refine ⟨fun pins s σ H Q I ⟨hT, h⟩ => PySem.W.kdv_lam (by rw [hd]; rfl) hk ?_⟩
  rw [hd]
  refine PySem.W.kdv_all1 (thn ((pe_int (X := X) (i := i) (pos := p0)).run pins s σ H (fun v G => v = .int i ∧ G = H) I ⟨rfl, rfl⟩) fun v s1 ⟨x1, H1, I1, r1, e1, e2⟩ => PySem.W.kdv_all0 ?_)
  subst e1
  rw [e2] at I1
  rw [makeFunction_eq]
  simp only [List.zip_nil_right, List.filterMap_nil, List.isEmpty_nil, List.isEmpty_cons, Bool.false_eq_true, if_false, if_true, pure_bind]
  refine wpAny_bind (wpAny_newTextTuple ?_)
  have z : (s1.heap.push (PySem.W.kdv_tup [v])).get? s1.heap.objs.size = some _ := Heap.get?_push_size _ rfl
  have nT : H s1.heap.objs.size = none := I1.hok.fresh (Nat.le_refl _)
  have I2 : Inv X pins σ (upd H s1.heap.objs.size (DfO s1.heap.objs.size [v])) { s1 with heap := s1.heap.push (PySem.W.kdv_tup [v]) } := I1.laid (a := s1.heap.objs.size) (fun b u q => Heap.get?_push_of_some _ q) (Nat.le_refl _) ⟨z, ⟨_, z⟩, fun h1 h2 y st => st _ y⟩
  have e0 : ∀ b o, H b = some o → upd H s1.heap.objs.size (DfO s1.heap.objs.size [v]) b = some o := fun b o e => (upd_ne (ne_of_none e nT)).trans e
  refine lm_tail I2 TB hcode hm hn hu (hT.ext e0) (fun y hy e => (hfree y hy e).elim (fun z => I.ok.has _ (.inl z)) fun z => I.ok.has _ (.inr z)) fun f c' G z2 J e1 e3 e4 e5 e6 => ⟨.ref f, G, J, rfl, h f G ((ExtN.of e0).trans e1) e3 ?_ ⟨.ref s1.heap.objs.size, c', [v], e5, e6, by rw [h0]; rfl, .inr ⟨fun z => (nomatch z), _, rfl, e1 _ _ upd_same fun ps z => ?_⟩⟩⟩
  · cases q : H f with
    | none => rfl
    | some o => rw [e0 f o q] at e4; cases e4
  · unfold DfO at z; cases z
end
end AsAct

set_option maxHeartbeats 4000000
set_option autoImplicit false
/-! such a lambda called, by the def that it is handed to. -/
namespace AsAct
open PySem PySem.Spec PyProof.Rows L2 LamX NdefX
/-- its names: parameters that the maker has no names for, captured ones, globals -/
structure LmS (N : List Str) (sc : Scope) (L : Lw) : Prop where
  kind : L.scope.kind = .function
  co : L.scope.isCoroutine = false
  gen : L.scope.isGenerator = false
  nocell : ∀ y ∈ L.scope.names, y.2 ≠ .cell
  own : ∀ y ∈ L.scope.names, y.2 = .local → y.1 ∉ N
  par : ∀ x ∈ L.bn, L.scope.names.lookup x = some .local
  free : ∀ y ∈ L.scope.names, y.2 = .free → sc.names.lookup y.1 = some .cell ∨ sc.names.lookup y.1 = some .free
def lmSB (N : List Str) (sc : Scope) (L : Lw) : Bool :=
  decide (L.scope.kind = .function) && !L.scope.isCoroutine && !L.scope.isGenerator && L.scope.names.all (fun y => !decide (y.2 = .cell)) && L.scope.names.all (fun y => !decide (y.2 = .local) || !decide (y.1 ∈ N)) && L.bn.all (fun x => decide (L.scope.names.lookup x = some .local))
    && L.scope.names.all (fun y => !decide (y.2 = .free) || (decide (sc.names.lookup y.1 = some .cell) || decide (sc.names.lookup y.1 = some .free)))
theorem lmS_by {N : List Str} {sc : Scope} {L : Lw} (h : lmSB N sc L = true) : LmS N sc L := by
  unfold lmSB at h
  simp only [Bool.and_eq_true, Bool.not_eq_true', decide_eq_true_eq, List.all_eq_true, Bool.or_eq_true, decide_eq_false_iff_not] at h
  obtain ⟨⟨⟨⟨⟨⟨h1, h2⟩, h3⟩, h4⟩, h5⟩, h6⟩, h7⟩ := h
  exact ⟨h1, h2, h3, h4, fun y hy e => (h5 y hy).elim (fun z => absurd e z) id, h6, fun y hy e => (h7 y hy).elim (fun z => absurd e z) id⟩
section
variable {X : Cx} {pins : List (Addr × Obj)} {σ : L2.St} {H HZ : Hp} {s s1 : Shared}
/-- the maker's cells stand at s1 as they did at s -/
def CellsKept (X : Cx) (s s1 : Shared) (H1 : Hp) : Prop := ∀ y c, X.env.cells.lookup y = some c → H1 c = none ∧ ∀ v, s.heap.IsCell c v → s1.heap.IsCell c v
theorem CellsKept.self (I : Inv X pins σ H s) : CellsKept X s s H := fun y c e => ⟨I.freeC y c e, fun _ z => z⟩
theorem CellsKept.un {s2 : Shared} {H1 H2 : Hp} {fs ex : List Addr} (c0 : ∀ y c, X.env.cells.lookup y = some c → ∃ v, s.heap.IsCell c v) (k : CellsKept X s s1 H1) (un : Un fs ex H1 H2 s1.heap s2.heap) (nx : ∀ y c, X.env.cells.lookup y = some c → c ∉ ex) : CellsKept X s s2 H2 := fun y c e => by
  obtain ⟨n, st⟩ := k y c e
  obtain ⟨v, z⟩ := c0 y c e
  obtain ⟨o, ho, _⟩ := st v z
  refine ⟨un.free c o ho n (nx y c e), fun v z => ?_⟩
  obtain ⟨o, ho, q⟩ := st v z
  obtain ⟨sl, e2⟩ := un.any ho n (nx y c e)
  exact ⟨_, e2, q⟩
abbrev lmEnv (X : Cx) (L : Lw) (B f c' : Addr) : Env := lamEnv X L.scope B f c'
/-- at its entry, told over the maker's names -/
theorem lm_start {A : Around} {outer : List Env} {E : XK} {L : Lw} {f c' : Addr} {h1 : Heap} {tk : Nat} {m : Str → Option Value} (I : Inv X pins σ H s) (S : LmS X.N X.env.scope L) (e0 : Env0 X.prog X.w X.K X.mg X.base A outer s1 HZ) (hd : A.handled = none)
    (ck : CellsKept X s s1 HZ) (hns : h1.Ns s1.heap.objs.size m) (kp : ∀ b o, s1.heap.get? b = some o → h1.get? b = some o) : Inv (lamCx X A outer s1 HZ E L.scope f c') [] σ HZ { s1 with heap := h1, toks := tk } := by
  have hfree : ∀ y ∈ L.scope.names, y.2 = .free → ∃ c, X.env.cells.lookup y.1 = some c := fun y hy e => (S.free y hy e).elim (fun k => I.ok.has _ (.inl k)) fun k => I.ok.has _ (.inr k)
  have cm : ∀ {y c}, (cloFrom X.env.cells L.scope.names []).lookup y = some c → X.env.cells.lookup y = some c := fun {y c} e => by
    rcases cloFrom_mem (PySem.mem_of_lookup e) with z | ⟨z1, z2⟩
    · cases z
    · obtain ⟨c1, q⟩ := hfree _ z1 rfl
      have q : X.env.cells.lookup y = some c1 := q
      have e2 : c = c1 := by rw [z2, q] <;> rfl
      rw [e2]
      exact q
  have look : ∀ {y}, L.scope.names.lookup y = some .free → ∃ c, (cloFrom X.env.cells L.scope.names []).lookup y = some c := fun {y} z => mem_lookup (cloFrom_has (cells := X.env.cells) (acc := []) (show (y, NameKind.free) ∈ L.scope.names from PySem.mem_of_lookup z))
  have stay : ∀ {y : Str} {c : Addr} {v : Option Value}, X.env.cells.lookup y = some c → s.heap.IsCell c v → h1.IsCell c v := fun {y c v} n z => by
    obtain ⟨o, ho, q⟩ := (ck y c n).2 v z
    exact ⟨_, kp _ _ ho, q⟩
  have noA : ∀ b : Addr, b ∉ (lamCx X A outer s1 HZ E L.scope f c').ex := fun b z => absurd (show b ∈ ([] : List Addr) from z) (by simp)
  refine ⟨⟨e0.mod, S.kind, rfl, rfl, Nat.le_refl _, fun y z c e1 e2 => I.ok.inj y z c (cm e1) (cm e2), fun y hy => ?_, fun y c z _ => ?_, fun _ => hd, Around.frames_deeper e0.frames, .inr ⟨rfl, rfl⟩, fun b z => absurd z (noA b), e0.bs, e0.bsz,
      fun b _ _ => noA b, fun b z => absurd z (noA b), e0.funs, e0.frf⟩,
    rfl, e0.bare, Un.kept kp, ⟨_, hns, fun i y v e1 e2 e3 => ?_⟩, fun y c e => ?_, e0.hok.fresh (Nat.le_refl _), fun y c e => ?_, fun q hq => absurd (show q ∈ ([] : List (Addr × Obj)) ++ [] from hq) (by simp), e0.hok.kept kp, I.len⟩
  · have hy : L.scope.names.lookup y = some .cell ∨ L.scope.names.lookup y = some .free := hy
    exact hy.elim (fun z => absurd rfl (S.nocell _ (PySem.mem_of_lookup z))) look
  · have z : false = true := z
    cases z
  · have e3 : Vis L.scope y := e3
    have e1 : X.N[i]? = some y := e1
    rcases e3 with k | k | k
    · exact absurd (List.mem_of_getElem? e1) (S.own _ (PySem.mem_of_lookup k) rfl)
    · exact absurd rfl (S.nocell _ (PySem.mem_of_lookup k))
    · obtain ⟨m', hn, hl⟩ := I.loc
      have way := S.free _ (PySem.mem_of_lookup k) rfl
      obtain ⟨u, r, q⟩ := hl i y v e1 e2 (way.elim (fun z => .inr (.inl z)) fun z => .inr (.inr z))
      obtain ⟨c2, h2⟩ := look k
      refine ⟨u, r, .inr ⟨.inr k, c2, h2, ?_⟩⟩
      have c1 := cm h2
      rcases q with ⟨k', _⟩ | ⟨_, c3, e', z⟩
      · have k' : X.env.scope.names.lookup y = some .local := k'
        rcases way with k2 | k2 <;> rw [show X.env.scope.names.lookup y = _ from k2] at k' <;> cases k'
      · rw [c1] at e'
        cases e'
        exact stay c1 z
  · obtain ⟨u, z⟩ := I.cell y c (cm e)
    exact ⟨u, stay (cm e) z⟩
  · exact (ck y c (cm e)).1
/-- what a lambda's body promises: its reading, over the maker's names -/
structure LmP (X : Cx) (k : Nat) (L : Lw) (t : XK → TE) : Prop where
  S : LmS X.N X.env.scope L
  bind : ∀ (s : Shared) (q : Str) (cl : List (Str × Addr)) (dV doc pm ctv : Value) (c' : Addr) (ds : List Value), ds.length = L.bn.length → ((ds = [] ∧ dV = .none) ∨ (ds ≠ [] ∧ ∃ T, dV = .ref T ∧ s.heap.get? T = some (PySem.W.kdv_tup ds))) → BindsTo s (lfd L q cl dV doc pm ctv c') ⟨[], []⟩ (L.bn.zip ds)
  body : ∀ (A : Around) (outer : List Env) (s : Shared) (H : Hp) (E : XK) (f c' : Addr), Room k (A.deeper (lmEnv X L s.heap.objs.size f c')) → PE (lamCx X A outer s H E L.scope f c') L.body (t E)
/-- call(), in the def that got the lambda: I is the maker's state ahead of that def's call -/
theorem pe_acts {CXg : CXT} {Eg : XK} {Ng : List Str} {qg : Str} {sg : Scope} {g f : Addr} {cdg : Value} {L : Lw} {t : XK → TE} {k i : Nat} {a : Str} {pn : List (Addr × Obj)} {xe : Value → Shared → Prop} {W : WX} {E : XK} {p1 p2 : Pos}
    (I : Inv X pins σ H s) {s1 : Shared} {H1 : Hp} (ck : CellsKept X s s1 H1) (P : LmP X k L t) (tk : Takes ((cxOf CXg X.prog X.w X.K X.mg X.base Ng qg sg g cdg X.A X.stack s1 H1 Eg).tr pn xe) W) (hW : ∀ cls d σ' H', E cls d H' → W cls d σ' H')
    (hr : Room (k + 1) (X.A.deeper (envOfC qg sg s1.heap.objs.size g cdg))) (hN : Ng[i]? = some a) (hv : Vis sg a) (hd : (a == ("__debug__" : Str)) = false := by decide) (hcd : (a == ("__classdict__" : Str)) = false := by decide) :
    PE ((cxOf CXg X.prog X.w X.K X.mg X.base Ng qg sg g cdg X.A X.stack s1 H1 Eg).tr pn xe) (.Call (.Name a p1) [] [] p2) (fun σZ HZ Q => σZ[i]? = some (some (.ref f)) ∧ LmAt X f L HZ ∧ t E σ HZ Q) := by
  refine ⟨fun pinsZ sZ σZ HZ Q IZ ⟨hs, hL, ht⟩ => ?_⟩
  refine wpAny_Call_Name_kw (thn ((pe_var (pos := p1) (i := i) hN hv hd hcd).run pinsZ sZ σZ HZ (fun v G => v = .ref f ∧ G = HZ) IZ ⟨.ref f, hs, rfl, rfl⟩) fun u s2 ⟨v, H2, I1, r1, ev, eH⟩ => ?_)
  subst ev
  rw [eH] at I1
  obtain rfl : u = Value.ref f := r1
  obtain ⟨dV, c', ds, h1, h2, h3, h4⟩ := hL
  obtain ⟨od, sl, doc, pm, ctv, of1⟩ : ∃ (od : Option Addr) (sl : Array (Option Value)) (doc pm ctv : Value), s2.heap.get? f = some (⟨.type "function", od, .func (lfd L (X.env.qual ++ "<lambda>") (cloFrom X.env.cells L.scope.names []) dV doc pm ctv c'), sl⟩ : Obj) := (I1.hok f _ h1).1
  have hdf : (ds = [] ∧ dV = .none) ∨ (ds ≠ [] ∧ ∃ T, dV = .ref T ∧ s2.heap.get? T = some (PySem.W.kdv_tup ds)) := h4.imp id fun ⟨en, T, e1, e2⟩ => ⟨en, T, e1, (I1.hok T _ e2).1⟩
  refine PySem.W.callWith_F0 ⟨_, _, _, _, of1⟩ ?_
  have ck2 : CellsKept X s s2 HZ := ck.un (fun y c e => I.cell y c e) I1.base fun _ _ _ z => absurd (show _ ∈ ([] : List Addr) from z) (by simp)
  have rc : codeAny (model X.prog X.w) (X.A.deeper (envOfC qg sg s1.heap.objs.size g cdg)) (.call (.ref f) ⟨[], []⟩) (CR (L2.CX X.prog X.w) (envOfC qg sg s1.heap.objs.size g cdg :: X.stack) X.prog X.w HZ s2 Q E) s2 := by
    refine PySem.W.kla_callFunE hr.depth of1 rfl P.S.co P.S.gen rfl (codeO_at I1.hok h2) ?_
    refine P.bind s2 _ _ dV doc pm ctv c' ds h3 hdf _ _ _ _ ?_
    refine wpAny_newFunctionEnv P.S.nocell (fun ⟨n, _⟩ hy => P.S.par n (List.of_mem_zip hy).1) (fun hh hns hsb => ⟨I1.nolimit.fresh _ hsb, ?_⟩) P.S.kind
    show codeAny _ _ (.expr L.body (lmEnv X L s2.heap.objs.size f c')) _ _
    have kp : ∀ b o, s2.heap.get? b = some o → hh.get? b = some o := fun b o e => hsb.extBut b o (Nat.ne_of_lt (Heap.lt_size e)) (Heap.get?_push_of_some _ e)
    have J := lm_start (E := E) (L := L) (f := f) (c' := c') (tk := s2.toks + (L.bn.zip ds).length) I P.S I1.env0 hr.hd ck2 hns kp
    refine PySem.W.kla_codeExpr (wpAny_mono ((P.body _ _ s2 HZ E f c' (hr.deeper _)).run [] _ _ HZ Q J ht) (fun v s' hq => ?_) fun e s' hq => hq)
    obtain ⟨w', H', J', rv, q⟩ := hq
    exact ⟨w', H', J'.os, J'.bare, J'.base, J'.hok, rv, q⟩
  have hx : Passes (L2.CX X.prog X.w) ((cxOf CXg X.prog X.w X.K X.mg X.base Ng qg sg g cdg X.A X.stack s1 H1 Eg).tr pn xe) E := passes_call tk hW
  refine wpAny_call (codeAny_mono rc fun r s' hq => ?_)
  cases r with
  | error e => exact hx pinsZ σZ HZ s2 e s' I1 hq
  | ok fl =>
    cases fl with
    | ret u => exact I1.after hq
    | next => exact False.elim hq
    | brk => exact False.elim hq
    | cont => exact False.elim hq
/-- the def g that calls the one lambda that it gets; TT: what it makes of the lambda's reading -/
def GivesA (X : Cx) (Ng : List Str) (x : Str) (sg : Scope) (g : Addr) (cdg : Value) (bg : List Stmt) (a : Str) (TT : (XK → Hp → VK → Prop) → Hp → VK → Prop) : Prop :=
  ∀ (f : Addr) (s : Shared) (H : Hp) (Q : VK) (PH : Hp → Prop) (tl : XK → Hp → VK → Prop),
    (∀ (W : WX) (pn : List (Addr × Obj)) (xe : Value → Shared → Prop) (E : XK) (p1 p2 : Pos), Takes ((cxOf C8.CX0 X.prog X.w X.K X.mg X.base Ng x sg g cdg X.A X.stack s H C8.E0).tr pn xe) W → (∀ cls d σ' H', E cls d H' → W cls d σ' H') →
      PE ((cxOf C8.CX0 X.prog X.w X.K X.mg X.base Ng x sg g cdg X.A X.stack s H C8.E0).tr pn xe) (.Call (.Name a p1) [] [] p2) (fun σZ HZ Q => σZ[0]? = some (some (.ref f)) ∧ PH HZ ∧ tl E HZ Q)) →
    PH H → TT tl H Q → ∃ t, PSs (cxOf C8.CX0 X.prog X.w X.K X.mg X.base Ng x sg g cdg X.A X.stack s H C8.E0).nox bg t ∧ t { nx := fun _ H' => Q .non H', rt := Q } (L2.start Ng [.ref f]) H
/-- the def at g, told as a name of the module -/
structure AskD (K : PySem.W.Frag) (mg : Str → Option Value) (x : Str) (st : Stmt) (g : Addr) (cdg : Value) : Prop where
  m : mg x = some (.ref g)
  kp : PySem.W.keepIn K (.ref g) = true
  lk : ∃ (dV kV doc pm ct oc : Value) (an od : Option Addr) (osl : Array (Option Value)), K.lookup g = some ⟨oc, od, .func (PySem.W.fnOf x x (defArgs st) (defBody st) (defScope st) dV kV doc pm an cdg ct), osl⟩ ∧ L2.Binds K (PySem.W.fnOf x x (defArgs st) (defBody st) (defScope st) dV kV doc pm an cdg ct) (["call"] : List Str) []
  cd : PySem.W.codeIn K cdg x = true
theorem ask_code {TT : (XK → Hp → VK → Prop) → Hp → VK → Prop} {x : Str} {sg : Scope} {bg : List Stmt} {pg : Arguments} {g f : Addr} {cdg dV kV doc pm ct oc : Value} {an od : Option Addr} {osl : Array (Option Value)} {Ng : List Str} {k : Nat} {L : Lw} {t : XK → TE} {Q : VK} {H1 : Hp}
    (hNg : Ng[0]? = some ("call" : Str)) (hva : Vis sg "call") (hG : GivesA X Ng x sg g cdg bg "call" TT) (hr : Room (k + 2) X.A) (I : Inv X pins σ H s) (ck : CellsKept X s s1 H1) (e0 : Env0 X.prog X.w X.K X.mg X.base X.A X.stack s1 H1)
    (lk : X.K.lookup g = some ⟨oc, od, .func (PySem.W.fnOf x x pg bg sg dV kV doc pm an cdg ct), osl⟩) (hb : L2.Binds X.K (PySem.W.fnOf x x pg bg sg dV kV doc pm an cdg ct) (["call"] : List Str) []) (cd : PySem.W.codeIn X.K cdg x = true) (Sg : FnScope Ng ["call"] sg)
    (hL : LmAt X f L H1) (hP : LmP X k L t) (hT : TT (fun E H' Q' => t E σ H' Q') H1 Q) : codeAny (model X.prog X.w) X.A (.call (.ref g) ⟨[.ref f], []⟩) (CR C8.CX0 X.stack X.prog X.w H1 s1 Q C8.E0) s1 := by
  have kin : X.K.In s1.heap := e0.mod.kin.keeps fun b o z => (e0.bs b o z).1
  refine run_ofS (N := Ng) (ps := ["call"]) (us := [.ref f]) (vs := [.ref f]) lk cd Sg hr e0 (hb s1 [.ref f] kin rfl) (.cons rfl .nil) rfl fun hr' => ?_
  obtain ⟨t', ht', hq'⟩ := hG f s1 H1 Q (LmAt X f L) (fun E H' Q' => t E σ H' Q') (fun W pn xe E p1 p2 tk hW => pe_acts (i := 0) I ck hP tk hW hr' hNg hva) hL hT
  exact ⟨t', ht'.nox, hq'⟩
/-- x(e), e one of the lambdas that R tells -/
def tAsk (X : Cx) (k : Nat) (TT : (XK → Hp → VK → Prop) → Hp → VK → Prop) (te : TE) : TE := fun σ H Q => te σ H fun v H1 => ∃ (f : Addr) (L : Lw) (t : XK → TE), [v].head? = some (.ref f) ∧ [v].length = 1 ∧ LmAt X f L H1 ∧ LmP X k L t ∧ TT (fun E H' Q' => t E σ H' Q') H1 Q
theorem pe_ask {TT : (XK → Hp → VK → Prop) → Hp → VK → Prop} {x : Str} {st : Stmt} {g : Addr} {cdg : Value} {Ng : List Str} {k : Nat} {e : Expr} {te : TE} {p pos : Pos} (D : AskD X.K X.mg x st g cdg) (hg : Gl X x) (Sg : FnScope Ng ["call"] (defScope st)) (hNg : Ng[0]? = some ("call" : Str)) (hva : Vis (defScope st) "call")
    (hG : GivesA X Ng x (defScope st) g cdg (defBody st) "call" TT) (hr : Room (k + 2) X.A) (he : PE X e te) (hdb : (x == ("__debug__" : Str)) = false := by decide) (hs : starEach [e] X.env = (false, eval e X.env) :: starEach [] X.env := by rfl) :
    PE X (.Call (.Name x p) [e] [] pos) (tAsk X k TT te) := by
  refine ⟨fun pins s σ H Q I h => ?_⟩
  obtain ⟨dV, kV, doc, pm, ct, oc, an, od, osl, lk, hb⟩ := D.lk
  refine wpAny_Call_Name_kw (ld_glob I hg D.m ?_ hdb)
  have h : tCons te tNil σ H (fun vs H1 => ∃ (f : Addr) (L : Lw) (t : XK → TE), vs.head? = some (.ref f) ∧ vs.length = 1 ∧ LmAt X f L H1 ∧ LmP X k L t ∧ TT (fun E H' Q' => t E σ H' Q') H1 Q) := h
  refine PySem.W.callWith_K (h₀ := X.base) I.ok.mod.kin D.kp (thn ((pa_cons he pa_nil hs).run pos pins s σ H _ I h) fun us s1 ⟨vs, H1, I1, r, q⟩ => ⟨I1.kIn, ?_⟩) hs rfl
  obtain ⟨f, L, t, ev, el, hL, hP, hT⟩ := q
  obtain ⟨v, rfl⟩ : ∃ v, vs = [v] := List.length_eq_one_iff.mp el
  obtain rfl : v = V.ref f := Option.some.inj ev
  obtain rfl := Vals.ref1 r
  refine wpAny_call (codeAny_mono (ask_code hNg hva hG hr I1 (.self I1) I1.env0 lk hb D.cd Sg hL hP hT) fun r s2 hq => ?_)
  cases r with
  | error e => exact (show False from hq).elim
  | ok fl =>
    cases fl with
    | ret u => exact I1.after hq
    | next => exact False.elim hq
    | brk => exact False.elim hq
    | cont => exact False.elim hq
end
end AsAct

set_option maxHeartbeats 4000000
set_option autoImplicit false
/-! [y for y in xs if c] that keeps none: the test may lean on what the def's own state was ahead of the block. -/
namespace AsLcC
open PySem PySem.Spec PyProof.Rows L2 LamX NdefX AsAct
/-- R: the test's reading at the def's slots, of an item; G: what is to hold behind it -/
abbrev RdN := L2.St → Hp → V → (Hp → Prop) → Prop
/-- W D n: n items are behind, D is the new list, empty -/
def tNone (K : PySem.W.Frag) (i : Nat) (R : RdN) : TE := fun σ H Q => ∃ (a : Addr) (xs : List V) (W : Addr → Nat → Hp → Prop), σ[i]? = some (some (.ref a)) ∧ SqL K H a xs ∧ (∀ D, H D = none → W D 0 (upd H D (.lst []))) ∧ (∀ D n G, W D n G → SqL K G a xs) ∧
  (∀ D n x G, xs[n]? = some x → W D n G → R σ G x (W D (n + 1))) ∧ ∀ D G, W D xs.length G → Q (.ref D) G
section
variable {X : Cx} {c : Expr} {R : RdN} {scope : Scope} {y : Str} {j : Nat}
/-- what the test promises in the block, the def's state ahead of the block being told -/
def TestN (X : Cx) (c : Expr) (scope : Scope) (j : Nat) (R : RdN) : Prop := ∀ (pins : List (Addr × Obj)) (s : Shared) (σ : L2.St) (H : Hp), Inv X pins σ H s → ∀ (C : Addr) (cl : List (Str × Addr)) (fp : List Addr), (∀ b ∈ fp, FpOk X pins H b ∧ b < s.heap.objs.size) →
  ∀ (pn2 : List (Addr × Obj)) (s2 : Shared) (σ2 : L2.St) (H2 : Hp) (G : Hp → Prop) (x : V), Inv (X.blk s H scope (compEnvC scope cl C X.env) fp) pn2 σ2 H2 s2 → σ2[j]? = some (some x) → R σ H2 x G →
    wpAny (model X.prog X.w) X.A (isTrue c (compEnvC scope cl C X.env) (eval c (compEnvC scope cl C X.env))) (fun b s3 => b = false ∧ ∃ H3, Inv (X.blk s H scope (compEnvC scope cl C X.env) fp) pn2 σ2 H3 s3 ∧ G H3) (fun _ _ => False) s2
/-- back from the block -/
theorem back {pins : List (Addr × Obj)} {σ σ2 : L2.St} {H H2 : Hp} {s s2 : Shared} {ce : Env} {fp : List Addr} (I : Inv X pins σ H s) (f : ∀ b ∈ fp, FpOk X pins H b ∧ b < s.heap.objs.size) (J : Inv (X.blk s H scope ce fp) [] σ2 H2 s2) : Inv X pins σ H2 s2 := by
  refine I.call' (ch := fp) J.os J.base J.hok J.bare fun b hb => ?_
  obtain ⟨⟨_, f2, f3, f4, f5, f6⟩, _⟩ := f b hb
  exact ⟨f4, f2, f5, f6⟩
theorem pe_lcN {i : Nat} {z : Str} {p1 p2 p3 pos : Pos} (hc : X.calm = true) (hN : X.N.Nodup) (hi : X.N[i]? = some z) (hv : Vis X.env.scope z) (ok : BlkOk X.N X.env.scope scope [(y, j)]) (hg : ∀ (s : Shared) (H : Hp) (C : Addr) (cl : List (Str × Addr)) (fp : List Addr), PG (X.blk s H scope (compEnvC scope cl C X.env) fp) (.Name y p2) (gName j)) (ht : TestN X c scope j R)
    (hs : ∀ x, foldedSetIterable (.Name z p3) X.env x = pure x := by intro _; rfl) (hd : (z == ("__debug__" : Str)) = false := by decide) (hcd : (z == ("__classdict__" : Str)) = false := by decide) :
    PE X (.ListComp (.Name y p1) [⟨.Name y p2, .Name z p3, [c], 0⟩] scope pos) (tNone X.K i R) := by
  refine ⟨fun pins s σ H Q I ⟨a, xs, W, ha, hq, w0, wk, ws, wE⟩ => ?_⟩
  rw [eval_ListComp]
  have cellsOk : ∀ q ∈ scope.names, q.2 = .free → ∃ c, X.env.cells.lookup q.1 = some c := fun q hq e => (ok.free q hq e).elim (fun k => I.ok.has _ (.inl k)) fun k => I.ok.has _ (.inr k)
  have iter := (pi_list (tg := .Name y p2) (pe_var (X := X) (pos := p3) hi hv hd hcd)).run pins s σ H (fun J G => J = Itl X.K a ∧ G = H) I ⟨_, ha, a, rfl, ⟨xs, hq⟩, rfl, rfl⟩
  refine wpAny_comprehension_free rfl hs (closure_ok cellsOk) ok.kind (fun q hq e => (ok.uniq q hq).trans (congrArg some e)) (thn iter fun _ _ h1 => thn h1 fun _ s1 h2 => ?_)
  obtain ⟨it, fp, tn, J, H1, rfl, I1, T, t1, f1, rfl, rfl⟩ := h2
  refine wpAny_newObj_type (newEnv_comp ?_) (Nat.zero_le _)
  obtain ⟨D, eD⟩ : ∃ D, D = s1.heap.objs.size := ⟨_, rfl⟩
  have fresh : H1 D = none := I1.hok.fresh (by rw [eD]; exact Nat.le_refl _)
  obtain ⟨lo, elo⟩ : ∃ lo : Obj, lo = { cls := .type "list", data := .seq ([] : List Value).toArray } := ⟨_, rfl⟩
  obtain ⟨s2, e2⟩ : ∃ s2 : Shared, s2 = { s1 with heap := s1.heap.push lo } := ⟨_, rfl⟩
  have up2 : ∀ b o, s1.heap.get? b = some o → s2.heap.get? b = some o := fun b o q => by rw [e2]; exact Heap.get?_push_of_some _ q
  have at2 : s2.heap.get? D = some lo := by
    rw [e2, eD]
    exact Heap.get?_push_size _ (by rw [elo]; rfl)
  have I2 : Inv X pins σ (upd H1 D (.lst [])) s2 := by
    rw [e2]
    refine I1.laid (t' := s1.toks) (fun b o q => Heap.get?_push_of_some _ q) (by rw [eD]; exact Nat.le_refl _) ⟨Nat.zero_le _, [], 0, .nil, ?_⟩
    rw [e2] at at2
    rw [elo] at at2 ⊢
    exact at2
  have f2 : ∀ b ∈ fp, FpOk X pins (upd H1 D (.lst [])) b ∧ b < s2.heap.objs.size := fun b hb => by
    obtain ⟨o, q, _⟩ := T.obj _ _ t1 b hb
    have lt := Heap.lt_size q
    have nD : b ≠ D := fun z => by rw [z, eD] at lt; exact Nat.lt_irrefl _ lt
    exact ⟨⟨(upd_ne nD).trans (f1 b hb).1, (f1 b hb).2⟩, Heap.lt_size (up2 b o q)⟩
  obtain ⟨ce, ece⟩ : ∃ ce, ce = compEnvC scope (cellsFrom (s2.heap.objs.size + 1) scope.names (cloFrom X.env.cells scope.names [])) s2.heap.objs.size X.env := ⟨_, rfl⟩
  have locE : ce.locals = s2.heap.objs.size := by rw [ece]; rfl
  obtain ⟨s3, e3⟩ : ∃ s3 : Shared, s3 = { s2 with heap := pushCells (s2.heap.push { cls := .type "dict", data := .dict #[] }) scope.names } := ⟨_, rfl⟩
  have up3 : ∀ b o, s2.heap.get? b = some o → s3.heap.get? b = some o := fun b o q => by rw [e3]; exact pushCells_keeps _ _ _ _ (Heap.get?_push_of_some _ q)
  have I3 : Inv (X.blk s2 (upd H1 D (.lst [])) scope ce fp) [] (wipe σ [j]) (upd H1 D (.lst [])) s3 := by
    rw [ece, e3]
    exact block_start I2 ok hN f2
  have t3 : tn 0 s3.heap := T.keep _ _ _ t1 fun b _ o q => up3 b o (up2 b o q)
  have test := ht pins s2 σ (upd H1 D (.lst [])) I2 s2.heap.objs.size (cellsFrom (s2.heap.objs.size + 1) scope.names (cloFrom X.env.cells scope.names [])) fp f2
  have target := hg s2 (upd H1 D (.lst [])) s2.heap.objs.size (cellsFrom (s2.heap.objs.size + 1) scope.names (cloFrom X.env.cells scope.names [])) fp
  rw [← ece] at test target
  have nfp0 : ∀ b ∈ fp, upd H1 D (.lst []) b = none := fun b hb => (f2 b hb).1.1
  have W0 := w0 D fresh
  have here : ∀ {τ : L2.St} {G : Hp} {t : Shared}, Inv (X.blk s2 (upd H1 D (.lst [])) scope ce fp) [] τ G t → (∀ b ∈ fp, G b = none) → ∀ b ∈ fp, FpOk (X.blk s2 (upd H1 D (.lst [])) scope ce fp) [] G b := fun {τ G t} K n b hb =>
    ⟨n b hb, (K.ok.exf b hb).1, K.ok.exfs b hb, .inl hb, fun q c e => (K.ok.exf b hb).2 q c e, fun p hp => absurd (show p ∈ ([] : List (Addr × Obj)) ++ [] from hp) (by simp)⟩
  have post : ∀ {τ : L2.St} {G : Hp} {t : Shared}, Inv (X.blk s2 (upd H1 D (.lst [])) scope ce fp) [] τ G t → W D xs.length G → compPost (model X.prog X.w) X.A X.xe none (EP X pins σ Q) (.ref D) s2.heap.objs.size (.ok .next) t := fun {τ G t} K w => by
    obtain ⟨m, hn, _⟩ := K.loc
    have hn : t.heap.Ns ce.locals m := hn
    rw [locE] at hn
    refine ⟨m, hn, fun h' sb => ?_⟩
    have KX := back I2 f2 K
    have nC : G s2.heap.objs.size = none := by
      have z : G ce.locals = none := K.free
      rwa [locE] at z
    obtain ⟨g0, g1, g2, g3, g4, g5⟩ := I2.fpOk (Nat.le_refl _) nC
    exact ⟨.ref D, G, KX.turned (t' := t.toks) (fun b o hb e => (sb.2 b hb).trans e) g0 g1 g3 g4 g5, rfl, wE D G w⟩
  have loop : codeAny (model X.prog X.w) X.A (.compLoop (.ListComp (.Name y p1) [⟨.Name y p2, .Name z p3, [c], 0⟩] scope pos) 0 (.ref it) (.ref D) ce) (compPost (model X.prog X.w) X.A X.xe none (EP X pins σ Q) (.ref D) s2.heap.objs.size) s3 := by
    refine compLoop_any (fun left t => ∃ n G, Inv (X.blk s2 (upd H1 D (.lst [])) scope ce fp) [] (wipe σ [j]) G t ∧ tn n t.heap ∧ (∀ b ∈ fp, G b = none) ∧ W D n G ∧ n + left = xs.length) ?_ xs.length ⟨0, _, I3, t3, nfp0, W0, by omega⟩
    rintro left t4 ⟨n, G, I4, u4, n4, w4, en⟩
    by_cases hlt : n < xs.length
    · have hx : xs[n]? = some xs[n] := List.getElem?_eq_getElem hlt
      refine thnF (T.item (X.blk s2 (upd H1 D (.lst [])) scope ce fp) rfl rfl rfl hc n [] t4 _ G (fun _ _ => False) I4 (here I4 n4) u4 ⟨xs, xs[n], wk D n G w4, hx⟩) fun r t5 ⟨u, er, h5⟩ => ?_
      subst er
      refine thnF h5 fun _ t6 ⟨x, G6, I6, r6, y6, u6, n6⟩ => ?_
      obtain ⟨eG, ex⟩ := y6
      subst eG
      have exn : xs[n] = x := Option.some.inj (hx.symm.trans (ex xs (wk D n G6 w4)))
      have I6p := I6.pinned (here I6 n6) (T.obj _ _ u6)
      have jl : j < (wipe σ [j]).length := by
        rw [wipe_length, I.len]
        exact (List.getElem?_eq_some_iff.mp (ok.ix (y, j) (List.mem_singleton.mpr rfl))).1
      refine thnF (target.run _ t6 _ G6 x u (fun τ K => τ = (wipe σ [j]).set j (some x) ∧ K = G6) I6p r6 ⟨rfl, rfl⟩) fun _ t7 ⟨τ, K, I7, eτ, eK⟩ => ?_
      subst eτ eK
      refine wpAny_tests_one (thnF (test _ t7 _ K (W D (n + 1)) x I7 (List.getElem?_set_self jl) (ws D n x K (by rw [hx, exn]) w4)) fun b t8 ⟨eb, K8, I8, w8⟩ => ?_)
      subst eb
      have stay : ∀ b ∈ fp, ∀ o, t6.heap.get? b = some o → t8.heap.get? b = some o ∧ K8 b = none := fun b hb o e =>
        have q := I8.pin (b, o) (List.mem_append_right _ (List.mem_append_right _ (mem_pinsAt hb e)))
        ⟨q.1, q.2.1⟩
      refine ⟨left - 1, by omega, n + 1, K8, (I8.unpinned (pins := [])).weak (by rw [List.length_set]) (fun k v e => ?_), T.keep _ _ _ u6 fun b hb o e => (stay b hb o e).1, fun b hb => ?_, w8, by omega⟩
      · have z := wipe_some (σ := σ) (vs := [j]) e
        rw [List.getElem?_set_ne (fun q => z.2 (by rw [q]; exact List.mem_singleton.mpr rfl))]
        exact e
      · obtain ⟨o, e, _⟩ := T.obj _ _ u6 b hb
        exact (stay b hb o e).2
    · refine thnF (T.done (X.blk s2 (upd H1 D (.lst [])) scope ce fp) rfl rfl rfl hc n [] t4 _ G (fun _ _ => False) I4 (here I4 n4) u4 ⟨xs, wk D n G w4, by omega⟩) fun r t5 ⟨er, I5⟩ => ?_
      subst er
      have enx : n = xs.length := by omega
      rw [enx] at w4
      exact post I5 w4
  have fin := codeAny_compStart_list loop (T.self X.A 0 _ _ _ t3 loop)
  rw [ece, e3] at fin
  subst e2 elo
  rw [eD] at fin
  exact fin
end
end AsLcC

set_option maxHeartbeats 4000000
set_option autoImplicit false
/-! the test `ask(call) != text` in such a comprehension. -/
namespace AsLcC
open PySem PySem.Spec PyProof.Rows L2 LamX NdefX AsAct
section
variable {X : Cx} {k : Nat} {TT : (XK → Hp → VK → Prop) → Hp → VK → Prop} {x : Str} {st : Stmt} {g : Addr} {cdg : Value} {Ng : List Str} {scope : Scope} {j : Nat}
/-- what is asked of the answer u: it is the text w -/
def AskQ (w : Str) (G : Hp → Prop) : VK := fun u H' => rNe u (.str w) H' fun z H4 => ∃ k, z = .bl k ∧ (k = false ∧ G H4)
theorem askQ_of {w : Str} {G : Hp → Prop} {H : Hp} (h : G H) : AskQ w G (.str w) H := ⟨rfl, false, by simp, rfl, h⟩
/-- the item's lambda, asked, gives the text w -/
def rAsk (X : Cx) (k : Nat) (TT : (XK → Hp → VK → Prop) → Hp → VK → Prop) (w : Str) : RdN := fun σ H v G => ∃ (f : Addr) (L : Lw) (t : XK → TE), v = .ref f ∧ LmAt X f L H ∧ LmP X k L t ∧ TT (fun E H' Q' => t E σ H' Q') H (AskQ w G)
/-- the call in the block; σ: the def's slots ahead of the block -/
theorem pe_askB {pins : List (Addr × Obj)} {s : Shared} {σ : L2.St} {H : Hp} {C : Addr} {cl : List (Str × Addr)} {fp : List Addr} {y : Str} {p p1 pos : Pos} (I : Inv X pins σ H s) (hf : ∀ b ∈ fp, FpOk X pins H b ∧ b < s.heap.objs.size) (D : AskD X.K X.mg x st g cdg) (Sg : FnScope Ng ["call"] (defScope st)) (hNg : Ng[0]? = some ("call" : Str)) (hva : Vis (defScope st) "call")
    (hG : GivesA X Ng x (defScope st) g cdg (defBody st) "call" TT) (hr : Room (k + 2) X.A) (hg : Gl (X.blk s H scope (compEnvC scope cl C X.env) fp) x) (he : PE (X.blk s H scope (compEnvC scope cl C X.env) fp) (.Name y p1) (tVar j)) (hdb : (x == ("__debug__" : Str)) = false) :
    PE (X.blk s H scope (compEnvC scope cl C X.env) fp) (.Call (.Name x p) [.Name y p1] [] pos) (fun τ H2 Q => ∃ (f : Addr) (L : Lw) (t : XK → TE), τ[j]? = some (some (.ref f)) ∧ LmAt X f L H2 ∧ LmP X k L t ∧ TT (fun E H' Q' => t E σ H' Q') H2 Q) := by
  refine ⟨fun pn2 s2 τ H2 Q J ⟨f, L, t, e1, hL, hP, hT⟩ => ?_⟩
  obtain ⟨dV, kV, doc, pm, ct, oc, an, od, osl, lk, hb⟩ := D.lk
  refine wpAny_Call_Name_kw (ld_glob J hg D.m ?_ hdb)
  refine PySem.W.callWith_K (h₀ := X.base) J.ok.mod.kin D.kp (thn ((pa_cons he pa_nil).run pos pn2 s2 τ H2 (fun vs G => vs = [.ref f] ∧ G = H2) J ⟨_, e1, rfl, rfl⟩) fun us s3 ⟨vs, H3, J3, r, ev, eG⟩ => ⟨J3.kIn, ?_⟩)
  subst ev
  rw [eG] at J3
  obtain rfl := Vals.ref1 r
  have ck : CellsKept X s s3 H2 := (CellsKept.self I).un (fun y c e => I.cell y c e) J3.base fun y c e z => (hf c z).1.2.2.2.2.1 y c e rfl
  refine wpAny_call (codeAny_mono (ask_code (X := X) hNg hva hG hr I ck J3.env0 lk hb D.cd Sg hL hP hT) fun r s4 hq => ?_)
  cases r with
  | error e => exact (show False from hq).elim
  | ok fl =>
    cases fl with
    | ret u => exact J3.after hq
    | next => exact False.elim hq
    | brk => exact False.elim hq
    | cont => exact False.elim hq
theorem test_ask {w y : Str} {n : Nat} {p p1 p2 pos pos2 : Pos} (D : AskD X.K X.mg x st g cdg) (Sg : FnScope Ng ["call"] (defScope st)) (hNg : Ng[0]? = some ("call" : Str)) (hva : Vis (defScope st) "call")
    (hG : GivesA X Ng x (defScope st) g cdg (defBody st) "call" TT) (hr : Room (k + 2) X.A) (hgl : ∀ (s : Shared) (H : Hp) (C : Addr) (cl : List (Str × Addr)) (fp : List Addr), Gl (X.blk s H scope (compEnvC scope cl C X.env) fp) x)
    (he : ∀ (s : Shared) (H : Hp) (C : Addr) (cl : List (Str × Addr)) (fp : List Addr), PE (X.blk s H scope (compEnvC scope cl C X.env) fp) (.Name y p1) (tVar j)) (hdb : (x == ("__debug__" : Str)) = false := by decide) :
    TestN X (.Compare (.Call (.Name x p) [.Name y p1] [] pos) [.NotEq] [.Constant (.str w) n p2] pos2) scope j (rAsk X k TT w) := by
  intro pins s σ H I C cl fp hf pn2 s2 σ2 H2 G v J hj ⟨f, L, t, ev, hL, hP, hT⟩
  subst ev
  have pt := pt_cmpR (X := X.blk s H scope (compEnvC scope cl C X.env) fp) (pos := pos2) op_ne (pe_askB (pos := pos) (p := p) I hf D Sg hNg hva hG hr (hgl s H C cl fp) (he s H C cl fp) hdb) (pe_str (x := w) (j := n) (pos := p2)) (nomark _)
  refine wpAny_mono (pt.run pn2 s2 σ2 H2 (fun b K => b = false ∧ G K) J ⟨f, L, t, hj, hL, hP, hT⟩) (fun b s3 ⟨K, JK, eb, q⟩ => ⟨eb, K, JK, q⟩) fun _ _ z => z
end
end AsLcC

set_option maxHeartbeats 4000000
set_option autoImplicit false
/-! [y for y in e if c] that keeps none, e any expression. -/
namespace AsLcC
open PySem PySem.Spec PyProof.Rows L2 LamX NdefX AsAct
def tNoneE (K : PySem.W.Frag) (te : TE) (R : RdN) : TE := fun σ H Q => iList K te σ H fun J H1 => ∃ (a : Addr) (xs : List V) (W : Addr → Nat → Hp → Prop), J = Itl K a ∧ SqL K H1 a xs ∧ (∀ D, H1 D = none → W D 0 (upd H1 D (.lst []))) ∧ (∀ D n G, W D n G → SqL K G a xs) ∧
  (∀ D n x G, xs[n]? = some x → W D n G → R σ G x (W D (n + 1))) ∧ ∀ D G, W D xs.length G → Q (.ref D) G
section
variable {X : Cx} {c : Expr} {R : RdN} {scope : Scope} {y : Str} {j : Nat}
theorem pe_lcE {ie : Expr} {te : TE} {p1 p2 pos : Pos} (hc : X.calm = true) (hN : X.N.Nodup) (hie : PE X ie te) (ok : BlkOk X.N X.env.scope scope [(y, j)]) (hg : ∀ (s : Shared) (H : Hp) (C : Addr) (cl : List (Str × Addr)) (fp : List Addr), PG (X.blk s H scope (compEnvC scope cl C X.env) fp) (.Name y p2) (gName j)) (ht : TestN X c scope j R)
    (hs : ∀ x, foldedSetIterable ie X.env x = pure x := by intro _; rfl) :
    PE X (.ListComp (.Name y p1) [⟨.Name y p2, ie, [c], 0⟩] scope pos) (tNoneE X.K te R) := by
  refine ⟨fun pins s σ H Q I hred => ?_⟩
  rw [eval_ListComp]
  have cellsOk : ∀ q ∈ scope.names, q.2 = .free → ∃ c, X.env.cells.lookup q.1 = some c := fun q hq e => (ok.free q hq e).elim (fun k => I.ok.has _ (.inl k)) fun k => I.ok.has _ (.inr k)
  have iter := (pi_list (tg := .Name y p2) hie).run pins s σ H _ I hred
  refine wpAny_comprehension_free rfl hs (closure_ok cellsOk) ok.kind (fun q hq e => (ok.uniq q hq).trans (congrArg some e)) (thn iter fun _ _ h1 => thn h1 fun _ s1 h2 => ?_)
  obtain ⟨it, fp, tn, J, H1, rfl, I1, T, t1, f1, a, xs, W, rfl, hq, w0, wk, ws, wE⟩ := h2
  refine wpAny_newObj_type (newEnv_comp ?_) (Nat.zero_le _)
  obtain ⟨D, eD⟩ : ∃ D, D = s1.heap.objs.size := ⟨_, rfl⟩
  have fresh : H1 D = none := I1.hok.fresh (by rw [eD]; exact Nat.le_refl _)
  obtain ⟨lo, elo⟩ : ∃ lo : Obj, lo = { cls := .type "list", data := .seq ([] : List Value).toArray } := ⟨_, rfl⟩
  obtain ⟨s2, e2⟩ : ∃ s2 : Shared, s2 = { s1 with heap := s1.heap.push lo } := ⟨_, rfl⟩
  have up2 : ∀ b o, s1.heap.get? b = some o → s2.heap.get? b = some o := fun b o q => by rw [e2]; exact Heap.get?_push_of_some _ q
  have at2 : s2.heap.get? D = some lo := by
    rw [e2, eD]
    exact Heap.get?_push_size _ (by rw [elo]; rfl)
  have I2 : Inv X pins σ (upd H1 D (.lst [])) s2 := by
    rw [e2]
    refine I1.laid (t' := s1.toks) (fun b o q => Heap.get?_push_of_some _ q) (by rw [eD]; exact Nat.le_refl _) ⟨Nat.zero_le _, [], 0, .nil, ?_⟩
    rw [e2] at at2
    rw [elo] at at2 ⊢
    exact at2
  have f2 : ∀ b ∈ fp, FpOk X pins (upd H1 D (.lst [])) b ∧ b < s2.heap.objs.size := fun b hb => by
    obtain ⟨o, q, _⟩ := T.obj _ _ t1 b hb
    have lt := Heap.lt_size q
    have nD : b ≠ D := fun z => by rw [z, eD] at lt; exact Nat.lt_irrefl _ lt
    exact ⟨⟨(upd_ne nD).trans (f1 b hb).1, (f1 b hb).2⟩, Heap.lt_size (up2 b o q)⟩
  obtain ⟨ce, ece⟩ : ∃ ce, ce = compEnvC scope (cellsFrom (s2.heap.objs.size + 1) scope.names (cloFrom X.env.cells scope.names [])) s2.heap.objs.size X.env := ⟨_, rfl⟩
  have locE : ce.locals = s2.heap.objs.size := by rw [ece]; rfl
  obtain ⟨s3, e3⟩ : ∃ s3 : Shared, s3 = { s2 with heap := pushCells (s2.heap.push { cls := .type "dict", data := .dict #[] }) scope.names } := ⟨_, rfl⟩
  have up3 : ∀ b o, s2.heap.get? b = some o → s3.heap.get? b = some o := fun b o q => by rw [e3]; exact pushCells_keeps _ _ _ _ (Heap.get?_push_of_some _ q)
  have I3 : Inv (X.blk s2 (upd H1 D (.lst [])) scope ce fp) [] (wipe σ [j]) (upd H1 D (.lst [])) s3 := by
    rw [ece, e3]
    exact block_start I2 ok hN f2
  have t3 : tn 0 s3.heap := T.keep _ _ _ t1 fun b _ o q => up3 b o (up2 b o q)
  have test := ht pins s2 σ (upd H1 D (.lst [])) I2 s2.heap.objs.size (cellsFrom (s2.heap.objs.size + 1) scope.names (cloFrom X.env.cells scope.names [])) fp f2
  have target := hg s2 (upd H1 D (.lst [])) s2.heap.objs.size (cellsFrom (s2.heap.objs.size + 1) scope.names (cloFrom X.env.cells scope.names [])) fp
  rw [← ece] at test target
  have nfp0 : ∀ b ∈ fp, upd H1 D (.lst []) b = none := fun b hb => (f2 b hb).1.1
  have W0 := w0 D fresh
  have here : ∀ {τ : L2.St} {G : Hp} {t : Shared}, Inv (X.blk s2 (upd H1 D (.lst [])) scope ce fp) [] τ G t → (∀ b ∈ fp, G b = none) → ∀ b ∈ fp, FpOk (X.blk s2 (upd H1 D (.lst [])) scope ce fp) [] G b := fun {τ G t} K n b hb =>
    ⟨n b hb, (K.ok.exf b hb).1, K.ok.exfs b hb, .inl hb, fun q c e => (K.ok.exf b hb).2 q c e, fun p hp => absurd (show p ∈ ([] : List (Addr × Obj)) ++ [] from hp) (by simp)⟩
  have post : ∀ {τ : L2.St} {G : Hp} {t : Shared}, Inv (X.blk s2 (upd H1 D (.lst [])) scope ce fp) [] τ G t → W D xs.length G → compPost (model X.prog X.w) X.A X.xe none (EP X pins σ Q) (.ref D) s2.heap.objs.size (.ok .next) t := fun {τ G t} K w => by
    obtain ⟨m, hn, _⟩ := K.loc
    have hn : t.heap.Ns ce.locals m := hn
    rw [locE] at hn
    refine ⟨m, hn, fun h' sb => ?_⟩
    have KX := back I2 f2 K
    have nC : G s2.heap.objs.size = none := by
      have z : G ce.locals = none := K.free
      rwa [locE] at z
    obtain ⟨g0, g1, g2, g3, g4, g5⟩ := I2.fpOk (Nat.le_refl _) nC
    exact ⟨.ref D, G, KX.turned (t' := t.toks) (fun b o hb e => (sb.2 b hb).trans e) g0 g1 g3 g4 g5, rfl, wE D G w⟩
  have loop : codeAny (model X.prog X.w) X.A (.compLoop (.ListComp (.Name y p1) [⟨.Name y p2, ie, [c], 0⟩] scope pos) 0 (.ref it) (.ref D) ce) (compPost (model X.prog X.w) X.A X.xe none (EP X pins σ Q) (.ref D) s2.heap.objs.size) s3 := by
    refine compLoop_any (fun left t => ∃ n G, Inv (X.blk s2 (upd H1 D (.lst [])) scope ce fp) [] (wipe σ [j]) G t ∧ tn n t.heap ∧ (∀ b ∈ fp, G b = none) ∧ W D n G ∧ n + left = xs.length) ?_ xs.length ⟨0, _, I3, t3, nfp0, W0, by omega⟩
    rintro left t4 ⟨n, G, I4, u4, n4, w4, en⟩
    by_cases hlt : n < xs.length
    · have hx : xs[n]? = some xs[n] := List.getElem?_eq_getElem hlt
      refine thnF (T.item (X.blk s2 (upd H1 D (.lst [])) scope ce fp) rfl rfl rfl hc n [] t4 _ G (fun _ _ => False) I4 (here I4 n4) u4 ⟨xs, xs[n], wk D n G w4, hx⟩) fun r t5 ⟨u, er, h5⟩ => ?_
      subst er
      refine thnF h5 fun _ t6 ⟨x, G6, I6, r6, y6, u6, n6⟩ => ?_
      obtain ⟨eG, ex⟩ := y6
      subst eG
      have exn : xs[n] = x := Option.some.inj (hx.symm.trans (ex xs (wk D n G6 w4)))
      have I6p := I6.pinned (here I6 n6) (T.obj _ _ u6)
      have jl : j < (wipe σ [j]).length := by
        rw [wipe_length, I.len]
        exact (List.getElem?_eq_some_iff.mp (ok.ix (y, j) (List.mem_singleton.mpr rfl))).1
      refine thnF (target.run _ t6 _ G6 x u (fun τ K => τ = (wipe σ [j]).set j (some x) ∧ K = G6) I6p r6 ⟨rfl, rfl⟩) fun _ t7 ⟨τ, K, I7, eτ, eK⟩ => ?_
      subst eτ eK
      refine wpAny_tests_one (thnF (test _ t7 _ K (W D (n + 1)) x I7 (List.getElem?_set_self jl) (ws D n x K (by rw [hx, exn]) w4)) fun b t8 ⟨eb, K8, I8, w8⟩ => ?_)
      subst eb
      have stay : ∀ b ∈ fp, ∀ o, t6.heap.get? b = some o → t8.heap.get? b = some o ∧ K8 b = none := fun b hb o e =>
        have q := I8.pin (b, o) (List.mem_append_right _ (List.mem_append_right _ (mem_pinsAt hb e)))
        ⟨q.1, q.2.1⟩
      refine ⟨left - 1, by omega, n + 1, K8, (I8.unpinned (pins := [])).weak (by rw [List.length_set]) (fun k v e => ?_), T.keep _ _ _ u6 fun b hb o e => (stay b hb o e).1, fun b hb => ?_, w8, by omega⟩
      · have z := wipe_some (σ := σ) (vs := [j]) e
        rw [List.getElem?_set_ne (fun q => z.2 (by rw [q]; exact List.mem_singleton.mpr rfl))]
        exact e
      · obtain ⟨o, e, _⟩ := T.obj _ _ u6 b hb
        exact (stay b hb o e).2
    · refine thnF (T.done (X.blk s2 (upd H1 D (.lst [])) scope ce fp) rfl rfl rfl hc n [] t4 _ G (fun _ _ => False) I4 (here I4 n4) u4 ⟨xs, wk D n G w4, by omega⟩) fun r t5 ⟨er, I5⟩ => ?_
      subst er
      have enx : n = xs.length := by omega
      rw [enx] at w4
      exact post I5 w4
  have fin := codeAny_compStart_list loop (T.self X.A 0 _ _ _ t3 loop)
  rw [ece, e3] at fin
  subst e2 elo
  rw [eD] at fin
  exact fin
end
end AsLcC

set_option maxHeartbeats 4000000
set_option autoImplicit false
/-! the law's own def that calls what it gets, and tells its error. -/
namespace K26
open PySem PySem.Spec PyProof.Rows L2 AsSort AsKit AsTry AsAct AsLcC
open Evl (Ex Ev EvT EvA)
abbrev sError : Stmt := top 56
abbrev nErr : List Str := ["call"]
theorem sc_error : FnScope nErr ["call"] (defScope sError) := ⟨rfl, rfl, rfl, by decide +kernel, rfl, by decide +kernel, by decide +kernel⟩
/-- the classes of errors -/
structure Cs where
  cL : Addr
  cK : Addr
  cR : Addr
  cT : Addr
  cN : Addr
  cX : Addr
  cS : Addr
/-- the classes, and which clause takes which -/
structure Ers (K : PySem.W.Frag) (mg : Str → Option Value) (c : Cs) : Prop where
  gcL : mg "BadLetters" = some (.ref c.cL)
  gcK : mg "BadKinds" = some (.ref c.cK)
  gcR : mg "BadMender" = some (.ref c.cR)
  gcT : mg "BadText" = some (.ref c.cT)
  gcN : mg "BadNumber" = some (.ref c.cN)
  gcX : mg "BadTexts" = some (.ref c.cX)
  gcS : mg "ScribeError" = some (.ref c.cS)
  m00 : PySem.W.exmOne K (.ref c.cL) (.ref c.cL) = some true
  m10 : PySem.W.exmOne K (.ref c.cK) (.ref c.cL) = some false
  m11 : PySem.W.exmOne K (.ref c.cK) (.ref c.cK) = some true
  m20 : PySem.W.exmOne K (.ref c.cR) (.ref c.cL) = some false
  m21 : PySem.W.exmOne K (.ref c.cR) (.ref c.cK) = some false
  m22 : PySem.W.exmOne K (.ref c.cR) (.ref c.cR) = some true
  m30 : PySem.W.exmOne K (.ref c.cT) (.ref c.cL) = some false
  m31 : PySem.W.exmOne K (.ref c.cT) (.ref c.cK) = some false
  m32 : PySem.W.exmOne K (.ref c.cT) (.ref c.cR) = some false
  m33 : PySem.W.exmOne K (.ref c.cT) (.ref c.cT) = some true
  m40 : PySem.W.exmOne K (.ref c.cN) (.ref c.cL) = some false
  m41 : PySem.W.exmOne K (.ref c.cN) (.ref c.cK) = some false
  m42 : PySem.W.exmOne K (.ref c.cN) (.ref c.cR) = some false
  m43 : PySem.W.exmOne K (.ref c.cN) (.ref c.cT) = some false
  m44 : PySem.W.exmOne K (.ref c.cN) (.ref c.cN) = some true
  m50 : PySem.W.exmOne K (.ref c.cX) (.ref c.cL) = some false
  m51 : PySem.W.exmOne K (.ref c.cX) (.ref c.cK) = some false
  m52 : PySem.W.exmOne K (.ref c.cX) (.ref c.cR) = some false
  m53 : PySem.W.exmOne K (.ref c.cX) (.ref c.cT) = some false
  m54 : PySem.W.exmOne K (.ref c.cX) (.ref c.cN) = some false
  m55 : PySem.W.exmOne K (.ref c.cX) (.ref c.cX) = some true
def prs (c : Cs) : List (Addr × Str) := [(c.cL, "BadLetters"), (c.cK, "BadKinds"), (c.cR, "BadMender"), (c.cT, "BadText"), (c.cN, "BadNumber"), (c.cX, "BadTexts")]
/-- what comes of an error -/
def Eer (c : Cs) (Q : VK) : XK := fun cls _ H => ∃ p ∈ prs c, cls = .ref p.1 ∧ Q (.str p.2) H
def TTe (c : Cs) : (XK → Hp → VK → Prop) → Hp → VK → Prop := fun tl H Q => tl (Eer c Q) H (fun _ H' => Q (.str "") H')
section
variable {X : Cx}
theorem gives_err {c : Cs} {g : Addr} {cdg : Value} (F : Ers X.K X.mg c) (hb : Bl X.mg) : GivesA X nErr "_law_error" (defScope sError) g cdg (defBody sError) "call" (TTe c) := by
  intro f s H Q PH tl act hp ht
  have plain : ∀ (z : Str) (n : Nat) (p1 p2 : Pos) (a : Addr) (oe : Obj) (cls : Value) (d : Option Addr) (pn : List (Addr × Obj)), Zc cls d oe → (∃ vs, oe.data = .fields vs) →
      PSs ((cxOf C8.CX0 X.prog X.w X.K X.mg X.base nErr "_law_error" (defScope sError) g cdg X.A X.stack s H C8.E0).nox.suite a ((a, oe) :: pn)) [.Return (some (.Constant (.str z) n p1)) p2] (fun D _ H => D.rt (.str z) H) := fun z n p1 p2 a oe cls d pn _ _ => pss_one (ps_ret pe_str)
  refine ⟨_, pss_cons (ps_tryMix (X := (cxOf C8.CX0 X.prog X.w X.K X.mg X.base nErr "_law_error" (defScope sError) g cdg X.A X.stack s H C8.E0).nox)
      (tb := fun W D σ H => ∃ Ech : XK, (∀ cls d σ' H', Ech cls d H' → W cls d σ' H') ∧ σ[0]? = some (some (.ref f)) ∧ PH H ∧ tl Ech H (fun _ H' => D.nx σ H'))
      rfl rfl takes_none5 (fun W pn xe tk _ => ⟨fun pins s' σ H' D I ⟨Ech, hW, h1, h2, h3⟩ => (pss_one (ps_expr (act W pn xe Ech _ _ tk hW))).run pins s' σ H' D I ⟨h1, h2, h3⟩⟩)
      (.cons (.plain (c := .ref c.cL) ⟨by rfl, by decide, .inl F.gcL⟩ (plain _ _ _ _)) (.cons (.plain (c := .ref c.cK) ⟨by rfl, by decide, .inl F.gcK⟩ (plain _ _ _ _)) (.cons (.plain (c := .ref c.cR) ⟨by rfl, by decide, .inl F.gcR⟩ (plain _ _ _ _)) (.cons (.plain (c := .ref c.cT) ⟨by rfl, by decide, .inl F.gcT⟩ (plain _ _ _ _)) (.cons (.plain (c := .ref c.cN) ⟨by rfl, by decide, .inl F.gcN⟩ (plain _ _ _ _)) (.cons (.plain (c := .ref c.cX) ⟨by rfl, by decide, .inl F.gcX⟩ (plain _ _ _ _)) (.cons (.plain (c := .ref c.cS) ⟨by rfl, by decide, .inl F.gcS⟩ (plain _ _ _ _)) .nil))))))))
    (pss_one (ps_ret pe_str)), ?_⟩
  refine ⟨Eer c Q, fun cls d σ' H' e => ?_, rfl, hp, ht⟩
  obtain ⟨p, hm, rfl, q⟩ := e
  simp only [prs, List.mem_cons, List.not_mem_nil, or_false] at hm
  rcases hm with rfl | rfl | rfl | rfl | rfl | rfl
  · exact ⟨true, F.m00, fun _ a na => q, (fun z => nomatch z)⟩
  · exact ⟨false, F.m10, (fun z => nomatch z), fun _ => ⟨true, F.m11, fun _ a na => q, (fun z => nomatch z)⟩⟩
  · exact ⟨false, F.m20, (fun z => nomatch z), fun _ => ⟨false, F.m21, (fun z => nomatch z), fun _ => ⟨true, F.m22, fun _ a na => q, (fun z => nomatch z)⟩⟩⟩
  · exact ⟨false, F.m30, (fun z => nomatch z), fun _ => ⟨false, F.m31, (fun z => nomatch z), fun _ => ⟨false, F.m32, (fun z => nomatch z), fun _ => ⟨true, F.m33, fun _ a na => q, (fun z => nomatch z)⟩⟩⟩⟩
  · exact ⟨false, F.m40, (fun z => nomatch z), fun _ => ⟨false, F.m41, (fun z => nomatch z), fun _ => ⟨false, F.m42, (fun z => nomatch z), fun _ => ⟨false, F.m43, (fun z => nomatch z), fun _ => ⟨true, F.m44, fun _ a na => q, (fun z => nomatch z)⟩⟩⟩⟩⟩
  · exact ⟨false, F.m50, (fun z => nomatch z), fun _ => ⟨false, F.m51, (fun z => nomatch z), fun _ => ⟨false, F.m52, (fun z => nomatch z), fun _ => ⟨false, F.m53, (fun z => nomatch z), fun _ => ⟨false, F.m54, (fun z => nomatch z), fun _ => ⟨true, F.m55, fun _ a na => q, (fun z => nomatch z)⟩⟩⟩⟩⟩⟩
end
end K26

set_option maxHeartbeats 4000000
set_option autoImplicit false
/-! the law's lambdas. -/
namespace K26
open PySem PySem.Spec PyProof.Rows L2 AsSort AsKit AsTry AsAct AsLcC
open Evl (Ex Ev EvT EvA)
open LamX (ExtN TabB lamCx)
open NdefX (TabsN TabN NTab)
section
variable {K : PySem.W.Frag}
theorem row_extN {S : Addr × List Int} {H H' : Hp} {r : Addr} (e : ExtN H H') (h : Row K S H r) : Row K S H' r := by
  obtain ⟨a, b, c, h1, h2, h3, h4⟩ := h
  refine ⟨a, b, c, e _ _ h1 (fun ps z => by cases z), h2, fun G bt => ?_, h4⟩
  have z := h3 (upd H r (.tup [])) bt_upd
  have go : ∀ o, upd H r (.tup []) S.1 = some o → (∀ xs, o ≠ .tup xs) → (∀ ps, o ≠ .tbl ps) → G S.1 = some o := fun o q n1 n2 => by
    have ne : S.1 ≠ r := fun y => by
      rw [y, upd_same] at q
      exact n1 _ (Option.some.inj q).symm
    rw [upd_ne ne] at q
    exact bt _ _ ne (e _ _ q n2)
  rcases z with (z | ⟨o, z⟩) | z
  · exact .inl (.inl (go _ z (fun xs y => by cases y) fun ps y => by cases y))
  · exact .inl (.inr ⟨o, go _ z (fun xs y => by cases y) fun ps y => by cases y⟩)
  · exact .inr z
theorem tabs_bt {Ts : List NTab} {S : Addr × List Int} {H H' : Hp} {r : Addr} (h : Row K S H r) (b : Bt r H H') (t : TabsN Ts H) : TabsN Ts H' := fun p hp => by
  obtain ⟨a, x, y, h1, _⟩ := h
  obtain ⟨ps, t1, t2, t3⟩ := t p hp
  refine ⟨ps, b _ _ (fun z => by rw [z, h1] at t1; cases t1) t1, t2, fun pos cv hc => ?_⟩
  obtain ⟨c, e1, e2⟩ := t3 pos cv hc
  refine ⟨c, e1, b _ _ (fun z => ?_) e2⟩
  rw [z, h1] at e2
  have e3 := Option.some.inj e2
  unfold LamX.CodeO at e3
  cases e3
variable {σ : L2.St} {H : Hp} {ta tb : TE}
/-- a text, n times -/
def rMulS : R2 := fun x y H Q => ∃ (a : Str) (n : Int), x = .str a ∧ y = .int n ∧ MulOk a n ∧ Q (.str (Txt.mul a n)) H
theorem op_mulS {X : Cx} : OpR X (binaryOp .Mult) rMulS := by
  intro pins s σ H x y v u Q I rx ry h
  obtain ⟨a, n, rfl, rfl, ok, q⟩ := h
  obtain ⟨t, rfl⟩ := rx
  obtain ⟨t2, rfl⟩ := ry
  exact SB.mul ok fun t' k => ⟨.str (Txt.mul a n), H, I.tok k, ⟨t', rfl⟩, q⟩
theorem d_mulS {a : Str} {n : Int} (h : EvD K ta σ H (.str a)) (h2 : EvD K tb σ H (.int n)) (ok : MulOk a n) : EvD K (tOp rMulS ta tb) σ H (.str (Txt.mul a n)) := fun H1 x Q q =>
  h H1 x _ fun v H2 e hv => h2 H2 (x.trans e) _ fun w H3 e3 hw => by
    cases hv
    cases hw
    exact ⟨a, n, rfl, rfl, ok, q _ H3 (e.trans e3) (.str _)⟩
/-- a list of its own -/
def EvLD (K : PySem.W.Frag) (te : TE) (σ : L2.St) (H : Hp) (ds : List PyData) : Prop := ∀ H1, Ex H H1 → ∀ Q : VK, (∀ p vs H2, Ex H1 H2 → H2 p = some (.lst vs) → DpAll K H2 vs ds → Q (.ref p) H2) → te σ H1 Q
theorem dpAll_app {G : Hp} {ws : List V} {es : List PyData} (h2 : DpAll K G ws es) : ∀ {vs : List V} {ds : List PyData}, DpAll K G vs ds → DpAll K G (vs ++ ws) (ds ++ es)
  | [], [], .nil => h2
  | _ :: _, _ :: _, .cons a b => .cons a (dpAll_app h2 b)
theorem ld_lst {tl : TA} {ds : List PyData} (h : EvDs K tl σ H ds) (hl : ds.length ≤ 100000) : EvLD K (tLst tl) σ H ds := fun H1 x Q q =>
  h H1 x _ fun vs H2 e hv => ⟨Evl.sz_of (by rw [dpAll_len hv]; exact hl), fun p np => q p vs _ (e.trans (Ex.new np)) upd_same (dpAll_ex (Ex.new np) hv)⟩
theorem ld_var {i : Nat} {p : Addr} {vs : List V} {ds : List PyData} (hs : σ[i]? = some (some (.ref p))) (hp : H p = some (.lst vs)) (hd : DpAll K H vs ds) : EvLD K (tVar i) σ H ds := fun H1 x Q q => ⟨_, hs, q p vs H1 (Ex.refl H1) (x _ _ hp) (dpAll_ex x hd)⟩
theorem ld_cat {ds es : List PyData} (h : EvLD K ta σ H ds) (h2 : EvLD K tb σ H es) (hl : ds.length + es.length ≤ 1000) : EvLD K (tOp rCat ta tb) σ H (ds ++ es) := fun H1 x Q q =>
  h H1 x _ fun p vs H2 e hp hv => h2 H2 (x.trans e) _ fun b ws H3 e3 hb hw =>
    ⟨p, b, vs, ws, rfl, rfl, e3 _ _ hp, hb, Evl.sz_of (by rw [dpAll_len hv, dpAll_len hw]; omega), fun r nr => q r _ _ ((e.trans e3).trans (Ex.new nr)) upd_same (dpAll_app (dpAll_ex (Ex.new nr) hw) (dpAll_ex (e3.trans (Ex.new nr)) hv))⟩
theorem ld_d {ds : List PyData} {te : TE} (h : EvLD K te σ H ds) : EvD K te σ H (.list ds) := fun H1 x Q q => h H1 x Q fun p vs H2 e hp hv => q _ H2 e (.lst (Evl.sq_of hp) hv)
end
abbrev nLaw : List Str := ["script", "row", "letters", "kinds", "mender", "last", "bad", "calls", "call"]
theorem sc_law : FnScope nLaw ["script"] (defScope sLaw) := ⟨rfl, rfl, rfl, by decide +kernel, rfl, by decide +kernel, by decide +kernel⟩
def noS : Stmt := .Pass ⟨0, 0, 0, 0⟩
def noE : Expr := .Constant .none 0 ⟨0, 0, 0, 0⟩
def stB : Stmt → List Stmt
  | .For _ _ b _ _ => b
  | _ => []
def stT : Stmt → Expr
  | .If t _ _ _ => t
  | .Assign _ v _ => v
  | .Return (some e) _ => e
  | _ => noE
def exA : Expr → List Expr
  | .List es _ => es
  | .Call _ as _ _ => as
  | .BoolOp _ es _ => es
  | .BinOp _ _ (.List es _) _ => es
  | _ => []
def exL : Expr → Expr
  | .Compare l _ _ _ => l
  | e => e
def exI : Expr → Expr
  | .ListComp _ (⟨_, it, _, _⟩ :: _) _ _ => it
  | e => e
def lw (e : Expr) (bn : List Str) : Lw := match e with
  | .Lambda p b s _ => ⟨p, b, s, bn⟩
  | _ => ⟨⟨[], [], none, [], [], none, []⟩, noE, ⟨.function, [], false, false, []⟩, bn⟩
def st (i : Nat) : Stmt := (defBody sLaw).getD i noS
def lamB (i j k : Nat) : Expr := (exA (stT ((stB (st i)).getD j noS))).getD k noE
def lam6 (k : Nat) : Expr := (exA (stT (st 6))).getD k noE
def lam7 : Expr := (exA (exI (exL (stT (st 7))))).getD 0 noE
def lamP (i k : Nat) : Expr := (exA ((exA (exL (stT ((stB (st i)).getD 0 noS)))).getD k noE)).getD 0 noE
def lamR : Expr := (exA (exL ((exA (stT (st 11))).getD 0 noE))).getD 0 noE
def isLam : Expr → Bool
  | .Lambda .. => true
  | _ => false
theorem lams_there : [(lamB 3 0 0), (lamB 3 0 1), (lamB 3 0 2), (lamB 3 0 3), (lamB 3 1 0), (lamB 3 1 1), (lamB 4 0 0), (lamB 4 0 1), (lamB 4 0 2), (lamB 4 1 0), (lamB 4 1 1), (lamB 4 1 2), (lam6 0), (lam6 1), (lam6 2), (lam6 3), lam7, (lamP 8 0), (lamP 8 1), (lamP 9 0), (lamP 9 1), (lamP 10 0), (lamP 10 1), lamR].map isLam = List.replicate 24 true := by decide +kernel
section
variable {P : Program} {w : World} {K : PySem.W.Frag} {mg : Str → Option Value} {base : Heap}
abbrev lawX (P : Program) (w : World) (K : PySem.W.Frag) (mg : Str → Option Value) (base : Heap) (f : Addr) (cdv : Value) (A : Around) (outer : List Env) (s : Shared) (H : Hp) (E : XK) : Cx := (cxOf C8.CX0 P w K mg base nLaw "law" (defScope sLaw) f cdv A outer s H E).nox
theorem bind0 {L : Lw} (h : L.bn = []) (hb : ∀ (q : Str) (cl : List (Str × Addr)) (doc pm ctv : Value) (c' : Addr), bindArgs (lfd L q cl .none doc pm ctv c') ⟨[], []⟩ = pure []) : ∀ (s : Shared) (q : Str) (cl : List (Str × Addr)) (dV doc pm ctv : Value) (c' : Addr) (ds : List Value), ds.length = L.bn.length →
    ((ds = [] ∧ dV = .none) ∨ (ds ≠ [] ∧ ∃ T, dV = .ref T ∧ s.heap.get? T = some (PySem.W.kdv_tup ds))) → BindsTo s (lfd L q cl dV doc pm ctv c') ⟨[], []⟩ (L.bn.zip ds) := fun s q cl dV doc pm ctv c' ds hl hd => by
  rcases hd with ⟨rfl, rfl⟩ | ⟨ne, _⟩
  · rw [h]
    exact .of_eq (hb _ _ _ _ _ _)
  · rw [h] at hl
    exact absurd (List.length_eq_zero_iff.mp hl) ne
theorem bind1 {L : Lw} {x : Str} (h : L.bn = [x]) (hb : ∀ (q : Str) (cl : List (Str × Addr)) (T : Addr) (doc pm ctv : Value) (c' : Addr) (v : Value) (s : Shared), s.heap.get? T = some (PySem.W.kdv_tup [v]) → BindsTo s (lfd L q cl (.ref T) doc pm ctv c') ⟨[], []⟩ [(x, v)]) : ∀ (s : Shared) (q : Str) (cl : List (Str × Addr)) (dV doc pm ctv : Value) (c' : Addr) (ds : List Value), ds.length = L.bn.length →
    ((ds = [] ∧ dV = .none) ∨ (ds ≠ [] ∧ ∃ T, dV = .ref T ∧ s.heap.get? T = some (PySem.W.kdv_tup ds))) → BindsTo s (lfd L q cl dV doc pm ctv c') ⟨[], []⟩ (L.bn.zip ds) := fun s q cl dV doc pm ctv c' ds hl hd => by
  rw [h] at hl
  obtain ⟨v, rfl⟩ := List.length_eq_one_iff.mp hl
  rcases hd with ⟨z, _⟩ | ⟨_, T, rfl, ho⟩
  · cases z
  · rw [h]
    exact hb _ _ _ _ _ _ _ _ _ ho
/-- the defs of the program, as they may raise -/
structure Fns (P : Program) (w : World) (K : PySem.W.Frag) (mg : Str → Option Value) (base : Heap) (Ts : List NTab) (c : Cs) : Prop where
  me : Klx P w K mg base 8 "mended" ["letters", "mender", "text"] (spB3 K c.cL c.cK c.cR c.cT)
  mi : Klx P w K mg base 8 "mending" ["letters", "mender", "text"] (spB3 K c.cL c.cK c.cR c.cT)
  ow : Klx P w K mg base 8 "is_one_way" ["letters", "mender"] (spB2 K c.cL c.cK c.cR (.bl true))
  ov : Klx P w K mg base 8 "overlap" ["letters", "mender"] (spB2 K c.cL c.cK c.cR .non)
  fa : Klx P w K mg base 8 "failing" ["letters", "kinds", "many", "mender", "texts"] (spB5 K Ts c.cL c.cK c.cR c.cN c.cX)
  br : Klx P w K mg base 9 "brings_back" ["letters", "kinds", "many", "mender", "texts"] (spB5 K Ts c.cL c.cK c.cR c.cN c.cX)
variable {Ts : List NTab} {c : Cs} {f : Addr} {cdv : Value} {A : Around} {outer : List Env} {s : Shared} {H : Hp} {E : XK}
abbrev L_l30 : Lw := lw (lamB 3 0 0) []
abbrev t_l30 (K : PySem.W.Frag) (Ts : List NTab) (c : Cs) : XK → TE := fun E' => tCall (spB3 K c.cL c.cK c.cR c.cT) [] E' (tCons (tVar 6) (tCons (tC .non) (tCons (tC .non) tNil)))
theorem l30 (F : Fns P w K mg base Ts c) : LmP (lawX P w K mg base f cdv A outer s H E) 9 L_l30 (t_l30 K Ts c) := by
  obtain ⟨g, fd, F1, m1, k1, b1⟩ := F.me
  refine ⟨lmS_by (show lmSB nLaw (defScope sLaw) L_l30 = true by decide +kernel), bind0 rfl (fun _ _ _ _ _ _ => by rfl), fun A' outer' s' H' E' f' c' hr => ?_⟩
  exact pe_call F1 (hr.mono (by decide)) (by rfl) m1 k1 b1 .nil (passes_call (takes_of rfl rfl rfl rfl) fun _ _ _ _ h => h) (pa_cons (pv 6) (pa_cons pe_non (pa_cons pe_non pa_nil)))
abbrev L_l31 : Lw := lw (lamB 3 0 1) ["a"]
abbrev t_l31 (K : PySem.W.Frag) (Ts : List NTab) (c : Cs) : XK → TE := fun E' => tCall (spB3 K c.cL c.cK c.cR c.cT) [] E' (tCons (tVar 6) (tCons (tC .non) (tCons (tC .non) tNil)))
theorem l31 (F : Fns P w K mg base Ts c) : LmP (lawX P w K mg base f cdv A outer s H E) 9 L_l31 (t_l31 K Ts c) := by
  obtain ⟨g, fd, F1, m1, k1, b1⟩ := F.mi
  refine ⟨lmS_by (show lmSB nLaw (defScope sLaw) L_l31 = true by decide +kernel), bind1 rfl (fun _ _ _ _ _ _ _ _ _ ho => .of_defaults rfl ho rfl rfl rfl), fun A' outer' s' H' E' f' c' hr => ?_⟩
  exact pe_call F1 (hr.mono (by decide)) (by rfl) m1 k1 b1 .nil (passes_call (takes_of rfl rfl rfl rfl) fun _ _ _ _ h => h) (pa_cons (pv 6) (pa_cons pe_non (pa_cons pe_non pa_nil)))
abbrev L_l32 : Lw := lw (lamB 3 0 2) ["b"]
abbrev t_l32 (K : PySem.W.Frag) (Ts : List NTab) (c : Cs) : XK → TE := fun E' => tCall (spB2 K c.cL c.cK c.cR (.bl true)) [] E' (tCons (tVar 6) (tCons (tC .non) tNil))
theorem l32 (F : Fns P w K mg base Ts c) : LmP (lawX P w K mg base f cdv A outer s H E) 9 L_l32 (t_l32 K Ts c) := by
  obtain ⟨g, fd, F1, m1, k1, b1⟩ := F.ow
  refine ⟨lmS_by (show lmSB nLaw (defScope sLaw) L_l32 = true by decide +kernel), bind1 rfl (fun _ _ _ _ _ _ _ _ _ ho => .of_defaults rfl ho rfl rfl rfl), fun A' outer' s' H' E' f' c' hr => ?_⟩
  exact pe_call F1 (hr.mono (by decide)) (by rfl) m1 k1 b1 .nil (passes_call (takes_of rfl rfl rfl rfl) fun _ _ _ _ h => h) (pa_cons (pv 6) (pa_cons pe_non pa_nil))
abbrev L_l33 : Lw := lw (lamB 3 0 3) ["c"]
abbrev t_l33 (K : PySem.W.Frag) (Ts : List NTab) (c : Cs) : XK → TE := fun E' => tCall (spB2 K c.cL c.cK c.cR .non) [] E' (tCons (tVar 6) (tCons (tC .non) tNil))
theorem l33 (F : Fns P w K mg base Ts c) : LmP (lawX P w K mg base f cdv A outer s H E) 9 L_l33 (t_l33 K Ts c) := by
  obtain ⟨g, fd, F1, m1, k1, b1⟩ := F.ov
  refine ⟨lmS_by (show lmSB nLaw (defScope sLaw) L_l33 = true by decide +kernel), bind1 rfl (fun _ _ _ _ _ _ _ _ _ ho => .of_defaults rfl ho rfl rfl rfl), fun A' outer' s' H' E' f' c' hr => ?_⟩
  exact pe_call F1 (hr.mono (by decide)) (by rfl) m1 k1 b1 .nil (passes_call (takes_of rfl rfl rfl rfl) fun _ _ _ _ h => h) (pa_cons (pv 6) (pa_cons pe_non pa_nil))
abbrev L_l34 : Lw := lw (lamB 3 1 0) []
abbrev t_l34 (K : PySem.W.Frag) (Ts : List NTab) (c : Cs) : XK → TE := fun E' => tCall (spB5 K Ts c.cL c.cK c.cR c.cN c.cX) [] E' (tCons (tVar 6) (tCons (tC .non) (tCons (tC .non) (tCons (tC .non) (tCons (tC .non) tNil)))))
theorem l34 (F : Fns P w K mg base Ts c) : LmP (lawX P w K mg base f cdv A outer s H E) 9 L_l34 (t_l34 K Ts c) := by
  obtain ⟨g, fd, F1, m1, k1, b1⟩ := F.fa
  refine ⟨lmS_by (show lmSB nLaw (defScope sLaw) L_l34 = true by decide +kernel), bind0 rfl (fun _ _ _ _ _ _ => by rfl), fun A' outer' s' H' E' f' c' hr => ?_⟩
  exact pe_call F1 (hr.mono (by decide)) (by rfl) m1 k1 b1 .nil (passes_call (takes_of rfl rfl rfl rfl) fun _ _ _ _ h => h) (pa_cons (pv 6) (pa_cons pe_non (pa_cons pe_non (pa_cons pe_non (pa_cons pe_non pa_nil)))))
abbrev L_l35 : Lw := lw (lamB 3 1 1) ["a"]
abbrev t_l35 (K : PySem.W.Frag) (Ts : List NTab) (c : Cs) : XK → TE := fun E' => tCall (spB5 K Ts c.cL c.cK c.cR c.cN c.cX) [] E' (tCons (tVar 6) (tCons (tC .non) (tCons (tC .non) (tCons (tC .non) (tCons (tC .non) tNil)))))
theorem l35 (F : Fns P w K mg base Ts c) : LmP (lawX P w K mg base f cdv A outer s H E) 9 L_l35 (t_l35 K Ts c) := by
  obtain ⟨g, fd, F1, m1, k1, b1⟩ := F.br
  refine ⟨lmS_by (show lmSB nLaw (defScope sLaw) L_l35 = true by decide +kernel), bind1 rfl (fun _ _ _ _ _ _ _ _ _ ho => .of_defaults rfl ho rfl rfl rfl), fun A' outer' s' H' E' f' c' hr => ?_⟩
  exact pe_call F1 (hr.mono (by decide)) (by rfl) m1 k1 b1 .nil (passes_call (takes_of rfl rfl rfl rfl) fun _ _ _ _ h => h) (pa_cons (pv 6) (pa_cons pe_non (pa_cons pe_non (pa_cons pe_non (pa_cons pe_non pa_nil)))))
abbrev L_l40 : Lw := lw (lamB 4 0 0) []
abbrev t_l40 (K : PySem.W.Frag) (Ts : List NTab) (c : Cs) : XK → TE := fun E' => tCall (spB3 K c.cL c.cK c.cR c.cT) [] E' (tCons (tVar 2) (tCons (tVar 6) (tCons (tC .non) tNil)))
theorem l40 (F : Fns P w K mg base Ts c) : LmP (lawX P w K mg base f cdv A outer s H E) 9 L_l40 (t_l40 K Ts c) := by
  obtain ⟨g, fd, F1, m1, k1, b1⟩ := F.me
  refine ⟨lmS_by (show lmSB nLaw (defScope sLaw) L_l40 = true by decide +kernel), bind0 rfl (fun _ _ _ _ _ _ => by rfl), fun A' outer' s' H' E' f' c' hr => ?_⟩
  exact pe_call F1 (hr.mono (by decide)) (by rfl) m1 k1 b1 .nil (passes_call (takes_of rfl rfl rfl rfl) fun _ _ _ _ h => h) (pa_cons (pv 2) (pa_cons (pv 6) (pa_cons pe_non pa_nil)))
abbrev L_l41 : Lw := lw (lamB 4 0 1) ["a"]
abbrev t_l41 (K : PySem.W.Frag) (Ts : List NTab) (c : Cs) : XK → TE := fun E' => tCall (spB3 K c.cL c.cK c.cR c.cT) [] E' (tCons (tVar 2) (tCons (tVar 6) (tCons (tC .non) tNil)))
theorem l41 (F : Fns P w K mg base Ts c) : LmP (lawX P w K mg base f cdv A outer s H E) 9 L_l41 (t_l41 K Ts c) := by
  obtain ⟨g, fd, F1, m1, k1, b1⟩ := F.mi
  refine ⟨lmS_by (show lmSB nLaw (defScope sLaw) L_l41 = true by decide +kernel), bind1 rfl (fun _ _ _ _ _ _ _ _ _ ho => .of_defaults rfl ho rfl rfl rfl), fun A' outer' s' H' E' f' c' hr => ?_⟩
  exact pe_call F1 (hr.mono (by decide)) (by rfl) m1 k1 b1 .nil (passes_call (takes_of rfl rfl rfl rfl) fun _ _ _ _ h => h) (pa_cons (pv 2) (pa_cons (pv 6) (pa_cons pe_non pa_nil)))
abbrev L_l42 : Lw := lw (lamB 4 0 2) ["b"]
abbrev t_l42 (K : PySem.W.Frag) (Ts : List NTab) (c : Cs) : XK → TE := fun E' => tCall (spB2 K c.cL c.cK c.cR (.bl true)) [] E' (tCons (tVar 2) (tCons (tVar 6) tNil))
theorem l42 (F : Fns P w K mg base Ts c) : LmP (lawX P w K mg base f cdv A outer s H E) 9 L_l42 (t_l42 K Ts c) := by
  obtain ⟨g, fd, F1, m1, k1, b1⟩ := F.ow
  refine ⟨lmS_by (show lmSB nLaw (defScope sLaw) L_l42 = true by decide +kernel), bind1 rfl (fun _ _ _ _ _ _ _ _ _ ho => .of_defaults rfl ho rfl rfl rfl), fun A' outer' s' H' E' f' c' hr => ?_⟩
  exact pe_call F1 (hr.mono (by decide)) (by rfl) m1 k1 b1 .nil (passes_call (takes_of rfl rfl rfl rfl) fun _ _ _ _ h => h) (pa_cons (pv 2) (pa_cons (pv 6) pa_nil))
abbrev L_l43 : Lw := lw (lamB 4 1 0) []
abbrev t_l43 (K : PySem.W.Frag) (Ts : List NTab) (c : Cs) : XK → TE := fun E' => tCall (spB2 K c.cL c.cK c.cR .non) [] E' (tCons (tVar 2) (tCons (tVar 6) tNil))
theorem l43 (F : Fns P w K mg base Ts c) : LmP (lawX P w K mg base f cdv A outer s H E) 9 L_l43 (t_l43 K Ts c) := by
  obtain ⟨g, fd, F1, m1, k1, b1⟩ := F.ov
  refine ⟨lmS_by (show lmSB nLaw (defScope sLaw) L_l43 = true by decide +kernel), bind0 rfl (fun _ _ _ _ _ _ => by rfl), fun A' outer' s' H' E' f' c' hr => ?_⟩
  exact pe_call F1 (hr.mono (by decide)) (by rfl) m1 k1 b1 .nil (passes_call (takes_of rfl rfl rfl rfl) fun _ _ _ _ h => h) (pa_cons (pv 2) (pa_cons (pv 6) pa_nil))
abbrev L_l44 : Lw := lw (lamB 4 1 1) ["b"]
abbrev t_l44 (K : PySem.W.Frag) (Ts : List NTab) (c : Cs) : XK → TE := fun E' => tCall (spB5 K Ts c.cL c.cK c.cR c.cN c.cX) [] E' (tCons (tVar 2) (tCons (tVar 6) (tCons (tC .non) (tCons (tC .non) (tCons (tC .non) tNil)))))
theorem l44 (F : Fns P w K mg base Ts c) : LmP (lawX P w K mg base f cdv A outer s H E) 9 L_l44 (t_l44 K Ts c) := by
  obtain ⟨g, fd, F1, m1, k1, b1⟩ := F.fa
  refine ⟨lmS_by (show lmSB nLaw (defScope sLaw) L_l44 = true by decide +kernel), bind1 rfl (fun _ _ _ _ _ _ _ _ _ ho => .of_defaults rfl ho rfl rfl rfl), fun A' outer' s' H' E' f' c' hr => ?_⟩
  exact pe_call F1 (hr.mono (by decide)) (by rfl) m1 k1 b1 .nil (passes_call (takes_of rfl rfl rfl rfl) fun _ _ _ _ h => h) (pa_cons (pv 2) (pa_cons (pv 6) (pa_cons pe_non (pa_cons pe_non (pa_cons pe_non pa_nil)))))
abbrev L_l45 : Lw := lw (lamB 4 1 2) ["a"]
abbrev t_l45 (K : PySem.W.Frag) (Ts : List NTab) (c : Cs) : XK → TE := fun E' => tCall (spB5 K Ts c.cL c.cK c.cR c.cN c.cX) [] E' (tCons (tVar 2) (tCons (tVar 3) (tCons (tC (.int 3)) (tCons (tVar 6) (tCons (tC .non) tNil)))))
theorem l45 (F : Fns P w K mg base Ts c) : LmP (lawX P w K mg base f cdv A outer s H E) 9 L_l45 (t_l45 K Ts c) := by
  obtain ⟨g, fd, F1, m1, k1, b1⟩ := F.br
  refine ⟨lmS_by (show lmSB nLaw (defScope sLaw) L_l45 = true by decide +kernel), bind1 rfl (fun _ _ _ _ _ _ _ _ _ ho => .of_defaults rfl ho rfl rfl rfl), fun A' outer' s' H' E' f' c' hr => ?_⟩
  exact pe_call F1 (hr.mono (by decide)) (by rfl) m1 k1 b1 .nil (passes_call (takes_of rfl rfl rfl rfl) fun _ _ _ _ h => h) (pa_cons (pv 2) (pa_cons (pv 3) (pa_cons pe_int (pa_cons (pv 6) (pa_cons pe_non pa_nil)))))
abbrev L_l60 : Lw := lw (lam6 0) []
abbrev t_l60 (K : PySem.W.Frag) (Ts : List NTab) (c : Cs) : XK → TE := fun E' => tCall (spB3 K c.cL c.cK c.cR c.cT) [] E' (tCons (tVar 2) (tCons (tVar 6) (tCons (tC .non) tNil)))
theorem l60 (F : Fns P w K mg base Ts c) : LmP (lawX P w K mg base f cdv A outer s H E) 9 L_l60 (t_l60 K Ts c) := by
  obtain ⟨g, fd, F1, m1, k1, b1⟩ := F.me
  refine ⟨lmS_by (show lmSB nLaw (defScope sLaw) L_l60 = true by decide +kernel), bind0 rfl (fun _ _ _ _ _ _ => by rfl), fun A' outer' s' H' E' f' c' hr => ?_⟩
  exact pe_call F1 (hr.mono (by decide)) (by rfl) m1 k1 b1 .nil (passes_call (takes_of rfl rfl rfl rfl) fun _ _ _ _ h => h) (pa_cons (pv 2) (pa_cons (pv 6) (pa_cons pe_non pa_nil)))
abbrev L_l61 : Lw := lw (lam6 1) ["a"]
abbrev t_l61 (K : PySem.W.Frag) (Ts : List NTab) (c : Cs) : XK → TE := fun E' => tCall (spB3 K c.cL c.cK c.cR c.cT) [] E' (tCons (tVar 2) (tCons (tVar 6) (tCons (tC .non) tNil)))
theorem l61 (F : Fns P w K mg base Ts c) : LmP (lawX P w K mg base f cdv A outer s H E) 9 L_l61 (t_l61 K Ts c) := by
  obtain ⟨g, fd, F1, m1, k1, b1⟩ := F.mi
  refine ⟨lmS_by (show lmSB nLaw (defScope sLaw) L_l61 = true by decide +kernel), bind1 rfl (fun _ _ _ _ _ _ _ _ _ ho => .of_defaults rfl ho rfl rfl rfl), fun A' outer' s' H' E' f' c' hr => ?_⟩
  exact pe_call F1 (hr.mono (by decide)) (by rfl) m1 k1 b1 .nil (passes_call (takes_of rfl rfl rfl rfl) fun _ _ _ _ h => h) (pa_cons (pv 2) (pa_cons (pv 6) (pa_cons pe_non pa_nil)))
abbrev L_l62 : Lw := lw (lam6 2) ["b"]
abbrev t_l62 (K : PySem.W.Frag) (Ts : List NTab) (c : Cs) : XK → TE := fun E' => tCall (spB2 K c.cL c.cK c.cR (.bl true)) [] E' (tCons (tVar 2) (tCons (tVar 6) tNil))
theorem l62 (F : Fns P w K mg base Ts c) : LmP (lawX P w K mg base f cdv A outer s H E) 9 L_l62 (t_l62 K Ts c) := by
  obtain ⟨g, fd, F1, m1, k1, b1⟩ := F.ow
  refine ⟨lmS_by (show lmSB nLaw (defScope sLaw) L_l62 = true by decide +kernel), bind1 rfl (fun _ _ _ _ _ _ _ _ _ ho => .of_defaults rfl ho rfl rfl rfl), fun A' outer' s' H' E' f' c' hr => ?_⟩
  exact pe_call F1 (hr.mono (by decide)) (by rfl) m1 k1 b1 .nil (passes_call (takes_of rfl rfl rfl rfl) fun _ _ _ _ h => h) (pa_cons (pv 2) (pa_cons (pv 6) pa_nil))
abbrev L_l63 : Lw := lw (lam6 3) ["c"]
abbrev t_l63 (K : PySem.W.Frag) (Ts : List NTab) (c : Cs) : XK → TE := fun E' => tCall (spB2 K c.cL c.cK c.cR .non) [] E' (tCons (tVar 2) (tCons (tVar 6) tNil))
theorem l63 (F : Fns P w K mg base Ts c) : LmP (lawX P w K mg base f cdv A outer s H E) 9 L_l63 (t_l63 K Ts c) := by
  obtain ⟨g, fd, F1, m1, k1, b1⟩ := F.ov
  refine ⟨lmS_by (show lmSB nLaw (defScope sLaw) L_l63 = true by decide +kernel), bind1 rfl (fun _ _ _ _ _ _ _ _ _ ho => .of_defaults rfl ho rfl rfl rfl), fun A' outer' s' H' E' f' c' hr => ?_⟩
  exact pe_call F1 (hr.mono (by decide)) (by rfl) m1 k1 b1 .nil (passes_call (takes_of rfl rfl rfl rfl) fun _ _ _ _ h => h) (pa_cons (pv 2) (pa_cons (pv 6) pa_nil))
abbrev L_l70 : Lw := lw lam7 []
abbrev t_l70 (K : PySem.W.Frag) (Ts : List NTab) (c : Cs) : XK → TE := fun E' => tCall (spB5 K Ts c.cL c.cK c.cR c.cN c.cX) [] E' (tCons (tVar 2) (tCons (tVar 3) (tCons (tC (.int 0)) (tCons (tVar 6) (tCons (tC .non) tNil)))))
theorem l70 (F : Fns P w K mg base Ts c) : LmP (lawX P w K mg base f cdv A outer s H E) 9 L_l70 (t_l70 K Ts c) := by
  obtain ⟨g, fd, F1, m1, k1, b1⟩ := F.fa
  refine ⟨lmS_by (show lmSB nLaw (defScope sLaw) L_l70 = true by decide +kernel), bind0 rfl (fun _ _ _ _ _ _ => by rfl), fun A' outer' s' H' E' f' c' hr => ?_⟩
  exact pe_call F1 (hr.mono (by decide)) (by rfl) m1 k1 b1 .nil (passes_call (takes_of rfl rfl rfl rfl) fun _ _ _ _ h => h) (pa_cons (pv 2) (pa_cons (pv 3) (pa_cons pe_int (pa_cons (pv 6) (pa_cons pe_non pa_nil)))))
abbrev L_l80 : Lw := lw (lamP 8 0) []
abbrev t_l80 (K : PySem.W.Frag) (Ts : List NTab) (c : Cs) : XK → TE := fun E' => tCall (spB3 K c.cL c.cK c.cR c.cT) [] E' (tCons (tVar 2) (tCons (tVar 4) (tCons (tVar 6) tNil)))
theorem l80 (F : Fns P w K mg base Ts c) : LmP (lawX P w K mg base f cdv A outer s H E) 9 L_l80 (t_l80 K Ts c) := by
  obtain ⟨g, fd, F1, m1, k1, b1⟩ := F.me
  refine ⟨lmS_by (show lmSB nLaw (defScope sLaw) L_l80 = true by decide +kernel), bind0 rfl (fun _ _ _ _ _ _ => by rfl), fun A' outer' s' H' E' f' c' hr => ?_⟩
  exact pe_call F1 (hr.mono (by decide)) (by rfl) m1 k1 b1 .nil (passes_call (takes_of rfl rfl rfl rfl) fun _ _ _ _ h => h) (pa_cons (pv 2) (pa_cons (pv 4) (pa_cons (pv 6) pa_nil)))
abbrev L_l81 : Lw := lw (lamP 8 1) ["a"]
abbrev t_l81 (K : PySem.W.Frag) (Ts : List NTab) (c : Cs) : XK → TE := fun E' => tCall (spB3 K c.cL c.cK c.cR c.cT) [] E' (tCons (tVar 2) (tCons (tVar 4) (tCons (tVar 6) tNil)))
theorem l81 (F : Fns P w K mg base Ts c) : LmP (lawX P w K mg base f cdv A outer s H E) 9 L_l81 (t_l81 K Ts c) := by
  obtain ⟨g, fd, F1, m1, k1, b1⟩ := F.mi
  refine ⟨lmS_by (show lmSB nLaw (defScope sLaw) L_l81 = true by decide +kernel), bind1 rfl (fun _ _ _ _ _ _ _ _ _ ho => .of_defaults rfl ho rfl rfl rfl), fun A' outer' s' H' E' f' c' hr => ?_⟩
  exact pe_call F1 (hr.mono (by decide)) (by rfl) m1 k1 b1 .nil (passes_call (takes_of rfl rfl rfl rfl) fun _ _ _ _ h => h) (pa_cons (pv 2) (pa_cons (pv 4) (pa_cons (pv 6) pa_nil)))
abbrev L_l90 : Lw := lw (lamP 9 0) []
abbrev t_l90 (K : PySem.W.Frag) (Ts : List NTab) (c : Cs) : XK → TE := fun E' => tCall (spB5 K Ts c.cL c.cK c.cR c.cN c.cX) [] E' (tCons (tVar 2) (tCons (tVar 3) (tCons (tVar 6) (tCons (tC .non) (tCons (tC .non) tNil)))))
theorem l90 (F : Fns P w K mg base Ts c) : LmP (lawX P w K mg base f cdv A outer s H E) 9 L_l90 (t_l90 K Ts c) := by
  obtain ⟨g, fd, F1, m1, k1, b1⟩ := F.fa
  refine ⟨lmS_by (show lmSB nLaw (defScope sLaw) L_l90 = true by decide +kernel), bind0 rfl (fun _ _ _ _ _ _ => by rfl), fun A' outer' s' H' E' f' c' hr => ?_⟩
  exact pe_call F1 (hr.mono (by decide)) (by rfl) m1 k1 b1 .nil (passes_call (takes_of rfl rfl rfl rfl) fun _ _ _ _ h => h) (pa_cons (pv 2) (pa_cons (pv 3) (pa_cons (pv 6) (pa_cons pe_non (pa_cons pe_non pa_nil)))))
abbrev L_l91 : Lw := lw (lamP 9 1) ["a"]
abbrev t_l91 (K : PySem.W.Frag) (Ts : List NTab) (c : Cs) : XK → TE := fun E' => tCall (spB5 K Ts c.cL c.cK c.cR c.cN c.cX) [] E' (tCons (tVar 2) (tCons (tVar 3) (tCons (tVar 6) (tCons (tC .non) (tCons (tC .non) tNil)))))
theorem l91 (F : Fns P w K mg base Ts c) : LmP (lawX P w K mg base f cdv A outer s H E) 9 L_l91 (t_l91 K Ts c) := by
  obtain ⟨g, fd, F1, m1, k1, b1⟩ := F.br
  refine ⟨lmS_by (show lmSB nLaw (defScope sLaw) L_l91 = true by decide +kernel), bind1 rfl (fun _ _ _ _ _ _ _ _ _ ho => .of_defaults rfl ho rfl rfl rfl), fun A' outer' s' H' E' f' c' hr => ?_⟩
  exact pe_call F1 (hr.mono (by decide)) (by rfl) m1 k1 b1 .nil (passes_call (takes_of rfl rfl rfl rfl) fun _ _ _ _ h => h) (pa_cons (pv 2) (pa_cons (pv 3) (pa_cons (pv 6) (pa_cons pe_non (pa_cons pe_non pa_nil)))))
abbrev L_lA0 : Lw := lw (lamP 10 0) []
abbrev t_lA0 (K : PySem.W.Frag) (Ts : List NTab) (c : Cs) : XK → TE := fun E' => tCall (spB5 K Ts c.cL c.cK c.cR c.cN c.cX) [] E' (tCons (tVar 2) (tCons (tVar 3) (tCons (tC (.int 0)) (tCons (tVar 4) (tCons (tVar 6) tNil)))))
theorem lA0 (F : Fns P w K mg base Ts c) : LmP (lawX P w K mg base f cdv A outer s H E) 9 L_lA0 (t_lA0 K Ts c) := by
  obtain ⟨g, fd, F1, m1, k1, b1⟩ := F.fa
  refine ⟨lmS_by (show lmSB nLaw (defScope sLaw) L_lA0 = true by decide +kernel), bind0 rfl (fun _ _ _ _ _ _ => by rfl), fun A' outer' s' H' E' f' c' hr => ?_⟩
  exact pe_call F1 (hr.mono (by decide)) (by rfl) m1 k1 b1 .nil (passes_call (takes_of rfl rfl rfl rfl) fun _ _ _ _ h => h) (pa_cons (pv 2) (pa_cons (pv 3) (pa_cons pe_int (pa_cons (pv 4) (pa_cons (pv 6) pa_nil)))))
abbrev L_lA1 : Lw := lw (lamP 10 1) ["a"]
abbrev t_lA1 (K : PySem.W.Frag) (Ts : List NTab) (c : Cs) : XK → TE := fun E' => tCall (spB5 K Ts c.cL c.cK c.cR c.cN c.cX) [] E' (tCons (tVar 2) (tCons (tVar 3) (tCons (tC (.int 0)) (tCons (tVar 4) (tCons (tVar 6) tNil)))))
theorem lA1 (F : Fns P w K mg base Ts c) : LmP (lawX P w K mg base f cdv A outer s H E) 9 L_lA1 (t_lA1 K Ts c) := by
  obtain ⟨g, fd, F1, m1, k1, b1⟩ := F.br
  refine ⟨lmS_by (show lmSB nLaw (defScope sLaw) L_lA1 = true by decide +kernel), bind1 rfl (fun _ _ _ _ _ _ _ _ _ ho => .of_defaults rfl ho rfl rfl rfl), fun A' outer' s' H' E' f' c' hr => ?_⟩
  exact pe_call F1 (hr.mono (by decide)) (by rfl) m1 k1 b1 .nil (passes_call (takes_of rfl rfl rfl rfl) fun _ _ _ _ h => h) (pa_cons (pv 2) (pa_cons (pv 3) (pa_cons pe_int (pa_cons (pv 4) (pa_cons (pv 6) pa_nil)))))
abbrev L_lR : Lw := lw lamR []
abbrev t_lR (K : PySem.W.Frag) (Ts : List NTab) (c : Cs) : XK → TE := fun E' => tCall (spB5 K Ts c.cL c.cK c.cR c.cN c.cX) [] E' (tCons (tVar 2) (tCons (tVar 3) (tCons (tC (.int 0)) (tCons (tVar 4) (tCons (tOp (rRepT K) (tTup (tCons (tOp rMulS (tVar 5) (tC (.int 8))) tNil)) (tC (.int 20))) tNil)))))
theorem lR (F : Fns P w K mg base Ts c) : LmP (lawX P w K mg base f cdv A outer s H E) 9 L_lR (t_lR K Ts c) := by
  obtain ⟨g, fd, F1, m1, k1, b1⟩ := F.fa
  refine ⟨lmS_by (show lmSB nLaw (defScope sLaw) L_lR = true by decide +kernel), bind0 rfl (fun _ _ _ _ _ _ => by rfl), fun A' outer' s' H' E' f' c' hr => ?_⟩
  exact pe_call F1 (hr.mono (by decide)) (by rfl) m1 k1 b1 .nil (passes_call (takes_of rfl rfl rfl rfl) fun _ _ _ _ h => h) (pa_cons (pv 2) (pa_cons (pv 3) (pa_cons pe_int (pa_cons (pv 4) (pa_cons (pe_op op_repT (pe_tup (pa_cons (pe_op op_mulS (pv 5) pe_int) pa_nil)) pe_int) pa_nil)))))
end
end K26

set_option maxHeartbeats 4000000
set_option autoImplicit false
/-! the law's loops over wrong values: what a turn does. -/
namespace K26
open PySem PySem.Spec PyProof.Rows L2 AsSort AsKit AsTry AsAct AsLcC
open Evl (Ex Ev EvT EvA)
open LamX (ExtN TabB lamCx)
open NdefX (TabsN TabN NTab)
section
variable {K : PySem.W.Frag} {σ : L2.St} {H : Hp}
theorem d_non : EvD K (tC .non) σ H .none := fun H1 _ _ q => q _ H1 (Ex.refl H1) .non
theorem s_forE {D : Ends} {te : TE} {tu : TS} {g : TG} {ds : List PyData} (h : EvD K te σ H (.list ds)) (k : ∀ H1, Ex H H1 → ∃ Pv : Nat → L2.St → Hp → Prop, Pv 0 σ H1 ∧ (∀ j σ' H', Pv j σ' H' → ExtN H1 H') ∧
    (∀ j d x σ' H', ds[j]? = some d → Dp K H' x d → Pv j σ' H' → g x σ' H' fun σ2 H2 => tu { D with nx := Pv (j + 1), ct := Pv (j + 1), bk := D.nx } σ2 H2) ∧ ∀ σ' H', Pv ds.length σ' H' → D.nx σ' H') : tFor (iList K te) g tu D σ H := by
  refine h H (Ex.refl H) _ fun v H1 e hv => ?_
  cases hv with
  | lst hq hl =>
    obtain ⟨Pv, p0, px, ps, pe⟩ := k H1 e
    refine ⟨_, rfl, ⟨_, hq⟩, for_list Pv p0 (fun j σ' H' _ p => seq_extN (px j σ' H' p) hq) (fun j x σ' H' hj p => ?_) fun σ' H' p => pe σ' H' (by rw [← dpAll_len hl]; exact p)⟩
    have hj2 : j < ds.length := by rw [← dpAll_len hl]; exact (List.getElem?_eq_some_iff.mp hj).1
    have hd2 : ds[j]? = some ds[j] := List.getElem?_eq_getElem hj2
    exact ps j _ x σ' H' hd2 (dp_extN (px j σ' H' p) (dpAll_get hl hj hd2)) p
variable {c : Cs} {C : Addr} {wd : Str} {ta : TA} {Q : VK} {l k n m z t : PyData} {Ts : List NTab} {r : V}
theorem ask3 (b : B3 c.cL c.cK c.cR c.cT l m t C) (nm : (C, wd) ∈ prs c) (h : EvDs K ta σ H [l, m, t]) (q : ∀ H', Ex H H' → Q (.str wd) H') : TTe c (fun E H' Q' => tCall (spB3 K c.cL c.cK c.cR c.cT) [] E ta σ H' Q') H Q :=
  h H (Ex.refl H) _ fun vs H1 e hv => by
    show spB3 K _ _ _ _ (vs ++ []) H1 _ _
    rw [List.append_nil]
    exact ⟨l, m, t, C, hv, b, fun H' e' => ⟨_, nm, rfl, q H' (e.trans e')⟩⟩
theorem ask2 (b : B2 c.cL c.cK c.cR l m C) (nm : (C, wd) ∈ prs c) (h : EvDs K ta σ H [l, m]) (q : ∀ H', Ex H H' → Q (.str wd) H') : TTe c (fun E H' Q' => tCall (spB2 K c.cL c.cK c.cR r) [] E ta σ H' Q') H Q :=
  h H (Ex.refl H) _ fun vs H1 e hv => by
    show spB2 K _ _ _ _ (vs ++ []) H1 _ _
    rw [List.append_nil]
    exact ⟨l, m, hv, .inl ⟨C, b, fun H' e' => ⟨_, nm, rfl, q H' (e.trans e')⟩⟩⟩
theorem ask5 (b : B5 c.cL c.cK c.cR c.cN c.cX l k n m z C) (nm : (C, wd) ∈ prs c) (h : EvDs K ta σ H [l, k, n, m, z]) (q : ∀ H', Ex H H' → Q (.str wd) H') : TTe c (fun E H' Q' => tCall (spB5 K Ts c.cL c.cK c.cR c.cN c.cX) [] E ta σ H' Q') H Q :=
  h H (Ex.refl H) _ fun vs H1 e hv => by
    show spB5 K _ _ _ _ _ _ (vs ++ []) H1 _ _
    rw [List.append_nil]
    exact ⟨l, k, n, m, z, hv, .inl ⟨C, b, fun H' e' => ⟨_, nm, rfl, q H' (e.trans e')⟩⟩⟩
end
section
variable {X : Cx} {c : Cs} {wd : Str} {Ts : List NTab} {σ : L2.St} {H : Hp} {D : Ends}
/-- the lambda, asked at these slots, tells the word -/
def PL (X : Cx) (c : Cs) (wd : Str) (σ : L2.St) (H : Hp) (L : Lw) : Prop := ∃ t, LmP X 9 L t ∧ ∀ (G : Hp) (Q : VK), ExtN H G → (∀ H', Ex G H' → Q (.str wd) H') → TTe c (fun E H' Q' => t E σ H' Q') G Q
theorem PL.ext {L : Lw} {H1 : Hp} (h : PL X c wd σ H L) (e : ExtN H H1) : PL X c wd σ H1 L := let ⟨t, a, b⟩ := h; ⟨t, a, fun G Q e1 q => b G Q (e.trans e1) q⟩
def mkT (X : Cx) (Ts : List NTab) : List Lw → TA
  | [] => tNil
  | L :: Ls => tCons (tLm X Ts L) (mkT X Ts Ls)
/-- made, one after another -/
def Made (X : Cx) (H : Hp) : List Addr → List Lw → Prop
  | [], [] => True
  | f :: fs, L :: Ls => LmAt X f L H ∧ Made X H fs Ls
  | _, _ => False
theorem Made.ext {H G : Hp} (e : ExtN H G) : ∀ {fs : List Addr} {Ls : List Lw}, Made X H fs Ls → Made X G fs Ls
  | [], [], _ => trivial
  | _ :: _, _ :: _, h => ⟨h.1.ext e, Made.ext e h.2⟩
  | [], _ :: _, h => h.elim
  | _ :: _, [], h => h.elim
theorem Made.len {H : Hp} : ∀ {fs : List Addr} {Ls : List Lw}, Made X H fs Ls → fs.length = Ls.length
  | [], [], _ => rfl
  | _ :: _, _ :: _, h => congrArg (· + 1) (Made.len h.2)
  | [], _ :: _, h => h.elim
  | _ :: _, [], h => h.elim
theorem Made.app {H : Hp} {gs : List Addr} {Ms : List Lw} (h2 : Made X H gs Ms) : ∀ {fs : List Addr} {Ls : List Lw}, Made X H fs Ls → Made X H (fs ++ gs) (Ls ++ Ms)
  | [], [], _ => h2
  | _ :: _, _ :: _, h => ⟨h.1, Made.app h2 h.2⟩
  | [], _ :: _, h => h.elim
  | _ :: _, [], h => h.elim
theorem Made.at_ {H : Hp} : ∀ {fs : List Addr} {Ls : List Lw}, Made X H fs Ls → ∀ (n : Nat) (f : Addr), fs[n]? = some f → ∃ L, L ∈ Ls ∧ LmAt X f L H
  | [], [], _, n, f, e => by simp at e
  | f0 :: fs, L :: Ls, h, 0, f, e => by cases e; exact ⟨L, List.mem_cons_self .., h.1⟩
  | f0 :: fs, L :: Ls, h, n + 1, f, e => let ⟨M, a, b⟩ := Made.at_ h.2 n f e; ⟨M, List.mem_cons_of_mem _ a, b⟩
  | [], _ :: _, h, _, _, _ => h.elim
  | _ :: _, [], h, _, _, _ => h.elim
theorem mk_go : ∀ (Ls : List Lw) (H : Hp) (Q : List V → Hp → Prop), TabsN Ts H → (∀ fs G, ExtN H G → TabsN Ts G → Made X G fs Ls → Q (fs.map V.ref) G) → mkT X Ts Ls σ H Q
  | [], H, Q, hT, q => q [] H (ExtN.refl H) hT trivial
  | L :: Ls, H, Q, hT, q => ⟨hT, fun f G e t n m => mk_go Ls G _ t fun fs G2 e2 t2 m2 => q (f :: fs) G2 (e.trans e2) t2 ⟨m.ext e2, m2⟩⟩
/-- a list of lambdas -/
theorem lst_go {Ls : List Lw} {Q : VK} (hT : TabsN Ts H) (hl : Ls.length ≤ 1000) (q : ∀ p fs G, ExtN H G → TabsN Ts G → Made X G fs Ls → G p = some (.lst (fs.map V.ref)) → Q (.ref p) G) : tLst (mkT X Ts Ls) σ H Q :=
  mk_go Ls H _ hT fun fs G e t m => ⟨Evl.sz_of (by rw [List.length_map, m.len]; omega), fun p np => by
    have eP : ExtN G (upd G p (.lst (fs.map V.ref))) := ExtN.of fun b o z => (upd_ne fun y => by rw [y, np] at z; cases z).trans z
    exact q p fs _ (e.trans eP) (t.ext fun b o z => (upd_ne fun y => by rw [y, np] at z; cases z).trans z) (m.ext eP) upd_same⟩
/-- all lambdas tell the word -/
theorem none_if {p : Addr} {fs : List Addr} {Ls : List Lw} {i : Nat} (h7 : σ[i]? = some (some (.ref p))) (hp : H p = some (.lst (fs.map V.ref))) (m : Made X H fs Ls) (a : ∀ L ∈ Ls, PL X c wd σ H L) (q : ∀ G, Ex H G → D.nx σ G) :
    tIfS (tTest (tOp (rNeD X.K) (tNone X.K i (rAsk X 9 (TTe c) wd)) (tLst tNil))) (tRet (tC (.bl false))) tNext D σ H := by
  refine ⟨p, fs.map V.ref, fun D n G => Ex H G ∧ G D = some (.lst []), h7, Evl.sq_of hp, fun D nD => ⟨Ex.new nD, upd_same⟩, fun D n G ⟨a, _⟩ => Evl.ex_l a (Evl.sq_of hp), fun D n x G hx ⟨e, cD⟩ => ?_, fun D G ⟨e, cD⟩ => ?_⟩
  · rw [List.getElem?_map] at hx
    cases hf : fs[n]? with
    | none => rw [hf] at hx; cases hx
    | some f =>
      rw [hf] at hx
      have hx := Option.some.inj hx
      subst hx
      obtain ⟨L, hL, hm⟩ := m.at_ n f hf
      obtain ⟨t, P, ask⟩ := a L hL
      exact ⟨f, L, t, rfl, hm.ext (ExtN.of e), P, ask G _ (ExtN.of e) fun H' e' => askQ_of ⟨e.trans e', e' _ _ cD⟩⟩
  · refine ⟨Evl.sz_of (Nat.zero_le _), fun r nr => ⟨.list [], .list [], .lst (Evl.sq_of ((upd_ne fun z => by rw [z, nr] at cD; cases cD).trans cD)) .nil, .lst (Evl.sq_of upd_same) .nil, rfl, rfl, false, by rfl, ?_⟩⟩
    exact q _ (e.trans (Ex.new nr))
theorem none_ifE {p : Addr} {fs : List Addr} {Ls Ms : List Lw} {te : TE} (hT : TabsN Ts H) (ev : ∀ Q : VK, (∀ p fs G, ExtN H G → TabsN Ts G → Made X G fs Ls → G p = some (.lst (fs.map V.ref)) → Q (.ref p) G) → te σ H Q) (a : ∀ L ∈ Ls, PL X c wd σ H L) (q : ∀ G, ExtN H G → TabsN Ts G → D.nx σ G) :
    tIfS (tTest (tOp (rNeD X.K) (tNoneE X.K te (rAsk X 9 (TTe c) wd)) (tLst tNil))) (tRet (tC (.bl false))) tNext D σ H := by
  refine ev _ fun p fs M eM tM m hp => ?_
  refine ⟨p, rfl, ⟨_, Evl.sq_of hp⟩, p, fs.map V.ref, fun D n G => Ex M G ∧ G D = some (.lst []), rfl, Evl.sq_of hp, fun D nD => ⟨Ex.new nD, upd_same⟩, fun D n G ⟨a, _⟩ => Evl.ex_l a (Evl.sq_of hp), fun D n x G hx ⟨e, cD⟩ => ?_, fun D G ⟨e, cD⟩ => ?_⟩
  · rw [List.getElem?_map] at hx
    cases hf : fs[n]? with
    | none => rw [hf] at hx; cases hx
    | some f =>
      rw [hf] at hx
      have hx := Option.some.inj hx
      subst hx
      obtain ⟨L, hL, hm⟩ := m.at_ n f hf
      obtain ⟨t, P, ask⟩ := a L hL
      exact ⟨f, L, t, rfl, hm.ext (ExtN.of e), P, ask G _ (eM.trans (ExtN.of e)) fun H' e' => askQ_of ⟨e.trans e', e' _ _ cD⟩⟩
  · refine ⟨Evl.sz_of (Nat.zero_le _), fun r nr => ⟨.list [], .list [], .lst (Evl.sq_of ((upd_ne fun z => by rw [z, nr] at cD; cases cD).trans cD)) .nil, .lst (Evl.sq_of upd_same) .nil, rfl, rfl, false, by rfl, ?_⟩⟩
    exact q _ (eM.trans (ExtN.of (e.trans (Ex.new nr)))) (tM.ext (e.trans (Ex.new nr)))
/-- calls + [..] -/
theorem cat_go {p : Addr} {fs : List Addr} {Ls Ms : List Lw} {Q : VK} {i : Nat} (h7 : σ[i]? = some (some (.ref p))) (hp : H p = some (.lst (fs.map V.ref))) (m : Made X H fs Ls) (hT : TabsN Ts H) (hl : Ls.length + Ms.length ≤ 1000)
    (q : ∀ p fs G, ExtN H G → TabsN Ts G → Made X G fs (Ls ++ Ms) → G p = some (.lst (fs.map V.ref)) → Q (.ref p) G) : tOp rCat (tVar i) (tLst (mkT X Ts Ms)) σ H Q := by
  refine ⟨_, h7, lst_go hT (by omega) fun p2 gs G e t m2 hp2 => ⟨p, p2, _, _, rfl, rfl, e _ _ hp (fun _ z => nomatch z), hp2, Evl.sz_of (by rw [List.length_map, List.length_map, m.len, m2.len]; omega), fun r nr => ?_⟩⟩
  have eP : Ex G (upd G r (.lst (fs.map V.ref ++ gs.map V.ref))) := Ex.new nr
  exact q r (fs ++ gs) _ (e.trans (ExtN.of eP)) (t.ext eP) ((Made.app m2 (m.ext e)).ext (ExtN.of eP)) (by rw [upd_same, List.map_append])
theorem q_te {te : TE} {i : Nat} {tz : TS} {R : V → Hp → Prop} (h : ∀ Q : VK, (∀ x G, R x G → Q x G) → te σ H Q) (k : ∀ x G, R x G → tz D (σ.set i (some x)) G) : tSeq (tAsg te (gName i)) tz D σ H := h _ k
/-- a turn: calls made by two statements, each asked, all tell the word -/
theorem turn2 {Ls Ms : List Lw} (hT : TabsN Ts H) (hl : 7 < σ.length) (hs : Ls.length + Ms.length ≤ 1000) (a : ∀ v, ∀ L ∈ Ls ++ Ms, PL X c wd (σ.set 7 (some v)) H L) (q : ∀ v G, ExtN H G → TabsN Ts G → D.nx (σ.set 7 (some v)) G) :
    tSeq (tAsg (tLst (mkT X Ts Ls)) (gName 7)) (tSeq (tAsg (tOp rCat (tVar 7) (tLst (mkT X Ts Ms))) (gName 7)) (tIfS (tTest (tOp (rNeD X.K) (tNone X.K 7 (rAsk X 9 (TTe c) wd)) (tLst tNil))) (tRet (tC (.bl false))) tNext)) D σ H := by
  refine q_te (R := fun x G => ∃ p fs, x = V.ref p ∧ ExtN H G ∧ TabsN Ts G ∧ Made X G fs Ls ∧ G p = some (.lst (fs.map V.ref))) (fun Q k => lst_go (Ls := Ls) hT (by omega) fun p fs G e t m hp => k _ _ ⟨p, fs, rfl, e, t, m, hp⟩) fun x G hR => ?_
  obtain ⟨p, fs, rfl, e, t, m, hp⟩ := hR
  refine q_te (R := fun x G2 => ∃ p fs, x = V.ref p ∧ ExtN G G2 ∧ TabsN Ts G2 ∧ Made X G2 fs (Ls ++ Ms) ∧ G2 p = some (.lst (fs.map V.ref))) (fun Q k => cat_go (by rw [List.getElem?_set_self hl]) hp m t hs fun p fs G2 e2 t2 m2 hp2 => k _ _ ⟨p, fs, rfl, e2, t2, m2, hp2⟩) fun x G2 hR2 => ?_
  obtain ⟨p2, gs, rfl, e2, t2, m2, hp2⟩ := hR2
  rw [List.set_set]
  exact none_if (by rw [List.getElem?_set_self hl]) hp2 m2 (fun L hL => (a _ L hL).ext (e.trans e2)) fun G3 e3 => q _ _ ((e.trans e2).trans (ExtN.of e3)) (t2.ext e3)
/-- two lambdas asked on the spot -/
theorem pair_if {L0 L1 : Lw} (hT : TabsN Ts H) (h0 : PL X c wd σ H L0) (h1 : PL X c wd σ H L1) (hsh : SeqAt.shaped (.list [.str wd, .str wd]) = true) (q : ∀ G, ExtN H G → TabsN Ts G → D.nx σ G) :
    tIfS (tTest (tOp (rNeD X.K) (tLst (tCons (tAsk X 9 (TTe c) (tLm X Ts L0)) (tCons (tAsk X 9 (TTe c) (tLm X Ts L1)) tNil))) (tOp rRep (tLst (tCons (tC (.str wd)) tNil)) (tC (.int 2))))) (tRet (tC (.bl false))) tNext D σ H := by
  obtain ⟨u0, P0, a0⟩ := h0
  obtain ⟨u1, P1, a1⟩ := h1
  refine ⟨hT, fun f0 G0 e0 t0 n0 m0 => ⟨f0, _, _, rfl, rfl, m0, P0, a0 G0 _ e0 fun G1 x1 => ?_⟩⟩
  refine ⟨t0.ext x1, fun f1 G2 e2 t2 n2 m2 => ⟨f1, _, _, rfl, rfl, m2, P1, a1 G2 _ ((e0.trans (ExtN.of x1)).trans e2) fun G3 x3 => ?_⟩⟩
  refine ⟨Evl.sz_of (by show 2 ≤ 100000; decide), fun l1 nl1 => ⟨Evl.sz_of (by show 1 ≤ 100000; decide), fun l2 nl2 => ?_⟩⟩
  obtain ⟨U, eU⟩ : ∃ U, U = upd (upd G3 l1 (.lst [.str wd, .str wd])) l2 (.lst [.str wd]) := ⟨_, rfl⟩
  have xU : Ex G3 U := by rw [eU]; exact (Ex.new nl1).trans (Ex.new nl2)
  have hl1 : U l1 = some (.lst [.str wd, .str wd]) := by rw [eU]; exact Ex.new nl2 _ _ upd_same
  have hl2 : U l2 = some (.lst [.str wd]) := by rw [eU, upd_same]
  rw [← eU]
  refine ⟨l2, 2, [.str wd], rfl, rfl, hl2, by decide, by decide, by show 1 * 2 ≤ sizeLine; decide, fun l3 nl3 => ?_⟩
  have xW : Ex U (upd U l3 (.lst (List.replicate (2 : Int).toNat [V.str wd]).flatten)) := Ex.new nl3
  refine ⟨.list [.str wd, .str wd], .list [.str wd, .str wd], .lst (Evl.sq_of (xW _ _ hl1)) (.cons (.str _) (.cons (.str _) .nil)), .lst (Evl.sq_of upd_same) (.cons (.str _) (.cons (.str _) .nil)), hsh, hsh, false, by rw [SeqAt.eqv_refl _ (SeqAt.canLay_of_shaped hsh)]; rfl, ?_⟩
  exact q _ ((((e0.trans (ExtN.of x1)).trans e2).trans (ExtN.of (x3.trans xU))).trans (ExtN.of xW)) (((t2.ext x3).ext xU).ext xW)
end
end K26

set_option maxHeartbeats 4000000
set_option autoImplicit false
/-! the wrong values, what is wrong with them; the law's first statements. -/
namespace K26
open PySem PySem.Spec PyProof.Rows L2 AsSort AsKit AsTry AsAct AsLcC
open Evl (Ex Ev EvT EvA)
open LamX (ExtN TabB lamCx)
open NdefX (TabsN TabN NTab)
/-- the last sign of a text -/
def lastS (y : Str) : Str := match y.cps.toList.getLast? with
  | some c => ⟨#[c]⟩
  | none => ""
def txB : PyData → Bool
  | .str z => decide (z.length ≤ 40000)
  | _ => true
theorem txB_ok {d : PyData} (h : txB d = true) : Tx d := fun z e => by
  subst e
  exact of_decide_eq_true h
def txKB : PyData → Bool
  | .tuple ds => ds.all txB
  | _ => true
theorem txKB_ok {d : PyData} (h : txKB d = true) : TxK d := fun ds e x hx => by
  subst e
  exact txB_ok (List.all_eq_true.mp h x hx)
def txLB : PyData → Bool
  | .tuple ds => ds.all txKB
  | _ => true
theorem txLB_ok {d : PyData} (h : txLB d = true) : TxL d := fun ds e x hx => by
  subst e
  exact txKB_ok (List.all_eq_true.mp h x hx)
def bads3 : List PyData := [.none, (.str ""), (.str "ba"), (.str "aa"), (.str "abcde"), (.int 3), (.list [(.str "a")])]
def bads4 (l : Str) : List PyData := [.none, (.list []), (.tuple [(.tuple [(.str l), (.str l)])]), (.tuple [(.tuple [(.str (Txt.mul l 4)), (.str "")])]), (.tuple [(.tuple [(.str "?"), (.str "")])]), (.tuple [(.tuple [(.str l), (.str "")]), (.tuple [(.str l), (.str "")])]), (.int 3)]
def bads5 (y l : Str) : List (List (Str × Str)) := ([[("", l)], [(l, ""), ("", l)]] : List (List (Str × Str))) ++ (if cutS y none (some 2) = "ab" then ([[("a", "b")]] : List (List (Str × Str))) else [])
def bads8 (l : Str) : List PyData := [.none, (.int 3), (.list [(.str l)]), (.str (l ++ "?")), (.str (Txt.mul l 41))]
def bads9 : List PyData := [.none, (.int (0 - 1)), (.int 4), (.bool true), (.str "1")]
def bads10 (l : Str) : List PyData := [.none, (.list [(.str l)]), (.str l), (.tuple [(.int 3)]), (.tuple [(.str (Txt.mul l 9))]), (.tuple [(.str (l ++ "?"))]), (.tuple (List.replicate 21 [(.str l)]).flatten), (.int 3)]
def txZB : PyData → Bool
  | .tuple ds => decide (ds.length ≤ 40000) && ds.all txB
  | _ => true
theorem txZB_ok {d : PyData} (h : txZB d = true) : TxZ d := fun ds e => by
  subst e
  have h : (decide (ds.length ≤ 40000) && ds.all txB) = true := h
  rw [Bool.and_eq_true, decide_eq_true_eq] at h
  exact ⟨h.1, fun x hx => txB_ok (List.all_eq_true.mp h.2 x hx)⟩
theorem bads3_ok : bads3.all (fun d => txB d && !isLettersD d) = true := by decide +kernel
theorem bads4_ok : seven.all (fun y => (bads4 (lastS y)).all fun d => txLB d && !lotD y d) = true := by decide +kernel
theorem bads5_ok : seven.all (fun y => (bads5 y (lastS y)).all fun ps => txLB (.tuple (ps.map kD)) && (lotD y (.tuple (ps.map kD)) && anyLe ps)) = true := by decide +kernel
theorem bads8_ok : seven.all (fun y => (bads8 (lastS y)).all fun d => txB d && !withinD y 40 d) = true := by decide +kernel
theorem bads9_ok : bads9.all (fun d => !numD 3 d) = true := by decide +kernel
theorem bads10_ok : seven.all (fun y => (bads10 (lastS y)).all fun d => txZB d && !textsD y d) = true := by decide +kernel
theorem one_ok : seven.all (fun y => decide ((lastS y).length = 1) && allIn y (lastS y)) = true := by decide +kernel
theorem eight_ok : seven.all (fun y => decide ((Txt.mul (lastS y) 8).length ≤ 8) && allIn y (Txt.mul (lastS y) 8)) = true := by decide +kernel
theorem seven_ok : ∀ y ∈ seven, isLetS y = true ∧ PyData.strOk y = true ∧ 0 < y.length ∧ y.length ≤ 1000 := by decide +kernel
theorem last_at : ∀ y ∈ seven, ∃ c, atI y.cps.toList (-1) = some c ∧ lastS y = ⟨#[c]⟩ := by
  intro y hy
  have h : seven.all (fun y => match atI y.cps.toList (-1) with | some c => decide (lastS y = ⟨#[c]⟩) | none => false) = true := by decide +kernel
  have z := List.all_eq_true.mp h y hy
  cases q : atI y.cps.toList (-1) with
  | none => rw [q] at z; cases z
  | some c => rw [q] at z; exact ⟨c, rfl, of_decide_eq_true z⟩
theorem sqs_of {K : PySem.W.Frag} {H : Hp} {a p : Addr} {o : HO} {xs : List V} (h : SqL K H a xs) (np : H p = none) : SqS K (upd H p o) p a xs := fun H' b => by
  have go : ∀ u, H a = some u → H' a = some u := fun u e => b a u (fun z => by rw [z, np] at e; cases e) ((upd_ne fun z => by rw [z, np] at e; cases e).trans e)
  rcases h with (h | ⟨o, h⟩) | h
  · exact .inl (.inl (go _ h))
  · exact .inl (.inr ⟨o, go _ h⟩)
  · exact .inr h
theorem len1 (y : Str) (h : y ∈ seven) : (lastS y).length = 1 := by
  have := List.all_eq_true.mp one_ok y h
  rw [Bool.and_eq_true, decide_eq_true_eq] at this
  exact this.1
theorem mulok {a : Str} {n : Nat} (h : a.length = 1) (h1 : 1 ≤ n) (h2 : n ≤ 50) : MulOk a (n : Int) := by
  have hz := sizeLine_eq
  refine ⟨by rw [Bool.or_eq_false_iff]; exact ⟨decide_eq_false (by omega), decide_eq_false (by omega)⟩, fun _ _ => ?_, fun _ _ => ?_⟩
  · rw [h]
    have : (1 : Int) ≤ (2 ^ 63 - 1) / (n : Int) := by
      rw [Int.le_ediv_iff_mul_le (by omega)]
      omega
    omega
  · rw [h, Int.toNat_natCast]
    have hh : 1 * n ≤ 50 := by omega
    exact decide_eq_false (by omega)
section
variable {K : PySem.W.Frag} {σ : L2.St} {H : Hp} {ta tb : TE}
theorem dpAll_rep {G : Hp} {xs : List V} {ds : List PyData} (h : DpAll K G xs ds) : ∀ n, DpAll K G (List.replicate n xs).flatten (List.replicate n ds).flatten
  | 0 => .nil
  | n + 1 => by
    rw [List.replicate_succ, List.replicate_succ, List.flatten_cons, List.flatten_cons]
    exact dpAll_app (dpAll_rep h n) h
theorem d_repT {ds : List PyData} {k : Nat} (h : EvD K ta σ H (.tuple ds)) (hn : ds ≠ []) (h1 : 2 ≤ k) (h2 : k ≤ 1000) (hl : ds.length ≤ 1000) : EvD K (tOp (rRepT K) ta (tC (.int (k : Int)))) σ H (.tuple (List.replicate k ds).flatten) := fun H1 x Q q =>
  h H1 x _ fun v H2 e hv => by
    cases hv with
    | tup hs hx =>
      rename_i a xs
      have ll := dpAll_len hx
      refine ⟨a, (k : Int), xs, rfl, rfl, hs, fun z => hn (List.length_eq_zero_iff.mp (by rw [← ll, z]; rfl)), by omega, by omega, by omega, fun p np => q _ _ (e.trans (Ex.new np)) (.tup (Evl.st_of upd_same) ?_)⟩
      rw [Int.toNat_natCast]
      exact dpAll_rep (dpAll_ex (Ex.new np) hx) k
end
section
variable {P : Program} {w : World} {K : PySem.W.Frag} {mg : Str → Option Value} {base : Heap} {c : Cs} {f : Addr} {A : Around} {outer : List Env} {s : Shared} {H0 : Hp} {E : XK} {c0 PT TN g : Addr} {cdg : Value}
abbrev qL : Str := "law.<locals>.<lambda>"
def tabs2 (PT TN : Addr) : List NTab := [(PT, fun _ _ => qL), (TN, fun _ _ => lamQN)]
theorem hu2 {PT TN : Addr} (n : PT ≠ TN) : ∀ p ∈ tabs2 PT TN, p.1 = PT → p.2 = fun _ _ => qL := fun p hp e => by
  unfold tabs2 at hp
  rcases List.mem_cons.mp hp with rfl | hp
  · rfl
  · rw [List.mem_singleton.mp hp] at e
    exact absurd e.symm n
theorem hu3 {PT TN : Addr} (n : PT ≠ TN) : ∀ p ∈ tabs2 PT TN, p.1 = TN → p.2 = fun _ _ => lamQN := fun p hp e => by
  unfold tabs2 at hp
  rcases List.mem_cons.mp hp with rfl | hp
  · exact absurd e n
  · rw [List.mem_singleton.mp hp]
/-- all that the law's body is told -/
structure Wo (P : Program) (w : World) (K : PySem.W.Frag) (mg : Str → Option Value) (base : Heap) (c : Cs) (g : Addr) (cdg : Value) (c0 PT TN : Addr) : Prop where
  R : Ers K mg c
  hb : Bl mg
  D : AskD K mg "_law_error" sError g cdg
  TB : TabB base mg c0 PT
  hn : PT ≠ TN
  CP : Cl P w K mg base 2 "_law_pick" (spPick K) []
  C1 : Cl P w K mg base 3 "_law_letters" (spLetters K) []
  C2 : Cl P w K mg base 4 "_law_kinds" (spKinds K) []
  C3 : Cl P w K mg base 4 "_law_mender" (spMender K) []
  F : Fns P w K mg base (tabs2 PT TN) c
/-- the slots, the row, the kinds, the mender, the tables -/
def Stt (K : PySem.W.Frag) (Ts : List NTab) (S : Addr × List Int) (p : Addr) (y : Str) (ks ms : List (Str × Str)) (vk vm : V) (σ : L2.St) (H : Hp) : Prop := ∃ x6 x7 x8 : Option V,
  σ = [some (.ref S.1), some (.ref p), some (.str y), some vk, some vm, some (.str (lastS y)), x6, x7, x8] ∧ Row K S H p ∧ Dp K H vk (.tuple (ks.map kD)) ∧ Dp K H vm (.tuple (ms.map kD)) ∧ TabsN Ts H
/-- what was drawn -/
structure Drawn (y : Str) (ks ms : List (Str × Str)) : Prop where
  my : y ∈ seven
  om : OkM y ms
  os : OkS y ks
theorem r012 (W : Wo P w K mg base c g cdg c0 PT TN) (hr : Room 11 (A.deeper (envOfC "law" (defScope sLaw) s.heap.objs.size f (.ref c0)))) : ∃ t0 t1 t2, PS (lawX P w K mg base f (.ref c0) A outer s H0 E) (st 0) t0 ∧ PS (lawX P w K mg base f (.ref c0) A outer s H0 E) (st 1) t1 ∧ PS (lawX P w K mg base f (.ref c0) A outer s H0 E) (st 2) t2 ∧ ∀ (u : TS) (Dn : Ends) (a : Addr) (ns : List Int) (H : Hp), SqL K H a (ns.map V.int) → TabsN (tabs2 PT TN) H →
    (∀ p y ks ms vk vm σ' H', Drawn y ks ms → Stt K (tabs2 PT TN) (a, ns) p y ks ms vk vm σ' H' → u Dn σ' H') → tSeq t0 (tSeq t1 (tSeq t2 u)) Dn (L2.start nLaw [.ref a]) H := by
  obtain ⟨R, hb, D, TB, hn, CP, C1, C2, C3, F⟩ := W
  refine ⟨_, _, _, ps_set (i := 1) sc_law.nd rfl (.inl rfl) (pe_lst (pa_cons (pv 0) (pa_cons pe_int (pa_cons pe_int (pa_cons pe_int pa_nil))))), ps_set (i := 2) sc_law.nd rfl (.inr rfl) (C8.pe_c C1 hr (by decide) (by rfl) (pa_cons (pv 1) pa_nil)), ps_asg (pe_tup (pa_cons (C8.pe_c C2 hr (by decide) (by rfl) (pa_cons (pv 1) (pa_cons (pv 2) (pa_cons pe_int pa_nil)))) (pa_cons (C8.pe_c C3 hr (by decide) (by rfl) (pa_cons (pv 1) (pa_cons (pv 2) pa_nil))) (pa_cons (pe_ix ix_str (pv 2) (pe_un un_neg pe_int) (fun _ _ => rfl)) pa_nil)))) (pg_tup rfl (pgs_cons (pg_name (i := 3) sc_law.nd rfl (.inr rfl)) (pgs_cons (pg_name (i := 4) sc_law.nd rfl (.inr rfl)) (pgs_cons (pg_name (i := 5) sc_law.nd rfl (.inr rfl)) pgs_nil)))), fun u Dn a ns H hS hT k => ?_⟩
  refine ⟨.ref a, rfl, by show 4 ≤ sizeLine; decide, fun p np => ?_⟩
  have hR : Row K (a, ns) (upd H p (.lst [.ref a, .int 0, .int 7426, .int 0])) p := ⟨0, 7426, 0, upd_same, trivial, sqs_of hS np, by decide, by decide, by decide⟩
  have hT1 : TabsN (tabs2 PT TN) (upd H p (.lst [.ref a, .int 0, .int 7426, .int 0])) := hT.ext (Ex.new np)
  refine ⟨.ref p, rfl, p, (a, ns), rfl, hR, fun y H1 hy b1' R1 => ?_⟩
  obtain ⟨y1, y2, y3, y4⟩ := seven_ok y hy
  have hT2 := tabs_bt hR b1' hT1
  refine ⟨.ref p, rfl, .str y, rfl, p, (a, ns), y, 3, rfl, R1, y2, y3, y4, by decide, fun vk ks H2 hk kn kl kg b2 R2 => ?_⟩
  have hT3 := tabs_bt R1 b2 hT2
  refine ⟨.ref p, rfl, .str y, rfl, p, (a, ns), y, rfl, R2, y2, y3, y4, fun vm ms H3 hm mn ml mgd b3 R3 => ?_⟩
  have hT4 := tabs_bt R2 b3 hT3
  have himm : imm (.tuple (ks.map kD)) = true := immAll_of fun d hd => by
    obtain ⟨q, _, rfl⟩ := List.mem_map.mp hd
    rfl
  have hk3 : Dp K H3 vk (.tuple (ks.map kD)) := dp_tu (tu_bt R2 b3) himm hk
  obtain ⟨c, hc1, hc2⟩ := last_at y hy
  refine d_ixS (K := K) (z := y) (i := -1) (c := c) (d_var ⟨_, rfl, .str y⟩) (fun G _ Q q => ⟨1, rfl, q _ G (Ex.refl G) (.int _)⟩) (by omega) hc1 H3 (Ex.refl H3) _ fun vl H4 e4 hl => ?_
  cases hl
  refine ⟨Evl.sz_of (by simp), fun q nq => ⟨q, _, rfl, Evl.st_of upd_same, rfl, ?_⟩⟩
  have e5 : Ex H3 (upd H4 q (.tup [vk, vm, .str ⟨#[c]⟩])) := e4.trans (Ex.new nq)
  refine ⟨_, _, rfl, _, _, rfl, _, _, rfl, rfl, ?_⟩
  refine k p y ks ms vk vm _ _ ⟨hy, ⟨y2, y4, y1, by omega, mn, mgd⟩, ⟨kl, kn, kg⟩⟩ ?_
  unfold Stt
  rw [hc2]
  exact ⟨_, _, _, rfl, R3.ex e5, dp_ex e5 hk3, dp_ex e5 hm, hT4.ext e5⟩
def scCall : Scope := ⟨.function, [((".0" : Str), NameKind.local), (("call" : Str), NameKind.local), (("_law_error" : Str), NameKind.globalImplicit)], false, false, []⟩
/-- if [call for call in calls if _law_error(call) != w] != []: return False -/
theorem ps_ifBad {cdv : Value} {wd : Str} {n : Nat} {p1 p2 p3 p4 p5 p6 p7 p8 p9 p10 p11 p12 p13 pos : Pos} (R : Ers K mg c) (hb : Bl mg) (D : AskD K mg "_law_error" sError g cdg) (hr : Room 11 (lawX P w K mg base f cdv A outer s H0 E).A) :
    PS (lawX P w K mg base f cdv A outer s H0 E) (.If (.Compare (.ListComp (.Name "call" p1) [⟨.Name "call" p2, .Name "calls" p3, [.Compare (.Call (.Name "_law_error" p4) [.Name "call" p5] [] p6) [.NotEq] [.Constant (.str wd) n p7] p8], 0⟩] scCall p9) [.NotEq] [.List [] p10] p11) [.Return (some (.Constant (.bool false) 0 p12)) p13] [] pos)
      (tIfS (tTest (tOp (rNeD K) (tNone K 7 (rAsk (lawX P w K mg base f cdv A outer s H0 E) 9 (TTe c) wd)) (tLst tNil))) (tRet (tC (.bl false))) tNext) := by
  have hu : (lawX P w K mg base f cdv A outer s H0 E).A.units + 64 < cLine := by have := hr.un; omega
  exact ps_if (pt_cmpR (op_neD hu) (pe_lcN rfl sc_law.nd rfl (.inl rfl) (blkOk_by (N := nLaw) (sc := defScope sLaw) (own := [("call", 8)]) (by decide +kernel)) (fun _ _ _ _ _ => pg_name (i := 8) sc_law.nd rfl (.inl rfl)) (test_ask D sc_error rfl (.inl rfl) (gives_err R hb) hr (fun _ _ _ _ _ => by rfl) (fun _ _ _ _ _ => pv 8))) (pe_lst pa_nil) rfl) (pss_one (ps_ret pe_bl)) pss_nil
end
end K26

set_option maxHeartbeats 4000000
set_option autoImplicit false
namespace K26
open PySem PySem.Spec PyProof.Rows L2 AsSort AsKit AsTry AsAct AsLcC
open Evl (Ex Ev EvT EvA)
open LamX (ExtN TabB lamCx)
open NdefX (TabsN TabN NTab)
section
variable {K : PySem.W.Frag} {σ : L2.St} {H : Hp} {ta tb : TE}
theorem ld_if {tt : TT} {b : Bool} {ds es : List PyData} (ht : EvT tt σ H b) (h1 : b = true → EvLD K ta σ H ds) (h2 : b = false → EvLD K tb σ H es) : EvLD K (tIf tt ta tb) σ H (if b = true then ds else es) := fun H1 x Q q => ht H1 x _ fun H2 e => by
  cases b with
  | true => exact h1 rfl H2 (x.trans e) Q fun p vs H3 e3 hp hv => q p vs H3 (e.trans e3) hp hv
  | false => exact h2 rfl H2 (x.trans e) Q fun p vs H3 e3 hp hv => q p vs H3 (e.trans e3) hp hv
end
section
variable {P : Program} {w : World} {K : PySem.W.Frag} {mg : Str → Option Value} {base : Heap} {c : Cs} {f : Addr} {A : Around} {outer : List Env} {s : Shared} {H0 : Hp} {E : XK} {c0 PT TN g : Addr} {cdg : Value}
theorem r3 (W : Wo P w K mg base c g cdg c0 PT TN) (hr : Room 11 (A.deeper (envOfC "law" (defScope sLaw) s.heap.objs.size f (.ref c0)))) : ∃ t, PS (lawX P w K mg base f (.ref c0) A outer s H0 E) (st 3) t ∧ ∀ (Dn : Ends) (S : Addr × List Int) (p : Addr) (y : Str) (ks ms : List (Str × Str)) (vk vm : V) (σ : L2.St) (H : Hp), Drawn y ks ms → Stt K (tabs2 PT TN) S p y ks ms vk vm σ H → (∀ σ' H', Stt K (tabs2 PT TN) S p y ks ms vk vm σ' H' → Dn.nx σ' H') → t Dn σ H := by
  obtain ⟨R, hb, D, TB, hn, CP, C1, C2, C3, F⟩ := W
  have hr11 : Room 11 (lawX P w K mg base f (.ref c0) A outer s H0 E).A := hr
  have hu : (lawX P w K mg base f (.ref c0) A outer s H0 E).A.units + 64 < cLine := by have := hr11.un; omega
  refine ⟨_, ps_for PassesOwn.never rfl (pi_list (pe_lst (pa_cons pe_non (pa_cons pe_str (pa_cons pe_str (pa_cons pe_str (pa_cons pe_str (pa_cons pe_int (pa_cons (pe_lst (pa_cons pe_str pa_nil)) pa_nil))))))))) (pg_name (i := 6) sc_law.nd rfl (.inr rfl)) (pss_cons (ps_set (i := 7) sc_law.nd rfl (.inl rfl) (pe_lst (pa_cons (pe_lm0 (L := L_l30) TB rfl (List.mem_cons_self ..) rfl (hu2 hn) (lmS_by (show lmSB nLaw (defScope sLaw) L_l30 = true by decide +kernel)).free rfl rfl) (pa_cons (pe_lm1 (L := L_l31) TB rfl (List.mem_cons_self ..) rfl (hu2 hn) (lmS_by (show lmSB nLaw (defScope sLaw) L_l31 = true by decide +kernel)).free rfl rfl rfl) (pa_cons (pe_lm1 (L := L_l32) TB rfl (List.mem_cons_self ..) rfl (hu2 hn) (lmS_by (show lmSB nLaw (defScope sLaw) L_l32 = true by decide +kernel)).free rfl rfl rfl) (pa_cons (pe_lm1 (L := L_l33) TB rfl (List.mem_cons_self ..) rfl (hu2 hn) (lmS_by (show lmSB nLaw (defScope sLaw) L_l33 = true by decide +kernel)).free rfl rfl rfl) pa_nil)))))) (pss_cons (ps_set (i := 7) sc_law.nd rfl (.inl rfl) (pe_op op_cat (pv 7) (pe_lst (pa_cons (pe_lm0 (L := L_l34) TB rfl (List.mem_cons_self ..) rfl (hu2 hn) (lmS_by (show lmSB nLaw (defScope sLaw) L_l34 = true by decide +kernel)).free rfl rfl) (pa_cons (pe_lm1 (L := L_l35) TB rfl (List.mem_cons_self ..) rfl (hu2 hn) (lmS_by (show lmSB nLaw (defScope sLaw) L_l35 = true by decide +kernel)).free rfl rfl rfl) pa_nil))))) (pss_one (ps_ifBad R hb D hr11)))), fun Dn S p y ks ms vk vm σ H dr st k => ?_⟩
  obtain ⟨y1, y2, y3, y4⟩ := seven_ok y dr.my
  have h1 := len1 y dr.my
  have hl9 : (lastS y).length + ("?" : Str).length ≤ 100000 := by
    have : ("?" : Str).length = 1 := by decide
    omega
  have lot : TxL (.tuple (ks.map kD)) ∧ lotD y (.tuple (ks.map kD)) = true := ⟨tx_kinds fun q hq => ⟨(dr.os.2.2 q hq).1, (dr.os.2.2 q hq).2.1⟩, lot_ok (by have := dr.os.1; omega) dr.os.2.1 dr.os.2.2⟩
  have ty : Tx (.str y) := fun z e => by cases e; omega
  obtain ⟨x6, x7, x8, rfl, hR, hk, hm, hT⟩ := st
  have a5 : At K [some (.ref S.1), some (.ref p), some (.str y), some vk, some vm, some (.str (lastS y)), x6, x7, x8] H 5 (.str (lastS y)) := ⟨_, rfl, .str _⟩
  refine s_forE (K := K) (ds := bads3) (d_lst (ds_cons d_non (ds_cons d_str (ds_cons d_str (ds_cons d_str (ds_cons d_str (ds_cons d_int (ds_cons (d_lst (ds_cons d_str ds_nil) (Nat.le_of_ble_eq_true rfl)) ds_nil))))))) (Nat.le_of_ble_eq_true rfl)) fun H1 e1 => ⟨fun _ σ' H' => ExtN H1 H' ∧ Stt K (tabs2 PT TN) S p y ks ms vk vm σ' H', ⟨ExtN.refl H1, _, _, _, rfl, hR.ex e1, dp_ex e1 hk, dp_ex e1 hm, hT.ext e1⟩, fun j σ' H' q => q.1, fun j d x σ' H' hj hx ⟨eN, st'⟩ => ?_, fun σ' H' ⟨_, st'⟩ => k σ' H' st'⟩
  have hb3 := List.all_eq_true.mp bads3_ok d (List.mem_of_getElem? hj)
  rw [Bool.and_eq_true, Bool.not_eq_true'] at hb3
  obtain ⟨x6, x7, x8, rfl, hR, hk, hm, hT⟩ := st'
  dsimp only [gName]
  refine turn2 (X := (lawX P w K mg base f (.ref c0) A outer s H0 E)) (c := c) (wd := "BadLetters") (Ts := tabs2 PT TN) (Ls := [L_l30, L_l31, L_l32, L_l33]) (Ms := [L_l34, L_l35]) hT (by show 7 < 9; decide) (by show 4 + 2 ≤ 1000; decide) (fun v L hL => ?_) fun v G e t => ⟨eN.trans e, _, _, _, rfl, row_extN e hR, dp_extN e hk, dp_extN e hm, t⟩
  simp only [List.cons_append, List.nil_append, List.mem_cons, List.not_mem_nil, or_false] at hL
  rcases hL with rfl | rfl | rfl | rfl | rfl | rfl
  · exact ⟨_, l30 F, fun G Q e q => ask3 (K := K) (c := c) (C := c.cL) (wd := "BadLetters") (.inl (.inl ⟨rfl, txB_ok hb3.1, hb3.2⟩)) (by simp [prs]) (ds_cons (d_var ⟨_, rfl, dp_extN e hx⟩) (ds_cons d_non (ds_cons d_non ds_nil))) q⟩
  · exact ⟨_, l31 F, fun G Q e q => ask3 (K := K) (c := c) (C := c.cL) (wd := "BadLetters") (.inl (.inl ⟨rfl, txB_ok hb3.1, hb3.2⟩)) (by simp [prs]) (ds_cons (d_var ⟨_, rfl, dp_extN e hx⟩) (ds_cons d_non (ds_cons d_non ds_nil))) q⟩
  · exact ⟨_, l32 F, fun G Q e q => ask2 (K := K) (c := c) (C := c.cL) (wd := "BadLetters") (.inl ⟨rfl, txB_ok hb3.1, hb3.2⟩) (by simp [prs]) (ds_cons (d_var ⟨_, rfl, dp_extN e hx⟩) (ds_cons d_non ds_nil)) q⟩
  · exact ⟨_, l33 F, fun G Q e q => ask2 (K := K) (c := c) (C := c.cL) (wd := "BadLetters") (.inl ⟨rfl, txB_ok hb3.1, hb3.2⟩) (by simp [prs]) (ds_cons (d_var ⟨_, rfl, dp_extN e hx⟩) (ds_cons d_non ds_nil)) q⟩
  · exact ⟨_, l34 F, fun G Q e q => ask5 (K := K) (c := c) (C := c.cL) (wd := "BadLetters") (.inl ⟨rfl, txB_ok hb3.1, hb3.2⟩) (by simp [prs]) (ds_cons (d_var ⟨_, rfl, dp_extN e hx⟩) (ds_cons d_non (ds_cons d_non (ds_cons d_non (ds_cons d_non ds_nil))))) q⟩
  · exact ⟨_, l35 F, fun G Q e q => ask5 (K := K) (c := c) (C := c.cL) (wd := "BadLetters") (.inl ⟨rfl, txB_ok hb3.1, hb3.2⟩) (by simp [prs]) (ds_cons (d_var ⟨_, rfl, dp_extN e hx⟩) (ds_cons d_non (ds_cons d_non (ds_cons d_non (ds_cons d_non ds_nil))))) q⟩
theorem r4 (W : Wo P w K mg base c g cdg c0 PT TN) (hr : Room 11 (A.deeper (envOfC "law" (defScope sLaw) s.heap.objs.size f (.ref c0)))) : ∃ t, PS (lawX P w K mg base f (.ref c0) A outer s H0 E) (st 4) t ∧ ∀ (Dn : Ends) (S : Addr × List Int) (p : Addr) (y : Str) (ks ms : List (Str × Str)) (vk vm : V) (σ : L2.St) (H : Hp), Drawn y ks ms → Stt K (tabs2 PT TN) S p y ks ms vk vm σ H → (∀ σ' H', Stt K (tabs2 PT TN) S p y ks ms vk vm σ' H' → Dn.nx σ' H') → t Dn σ H := by
  obtain ⟨R, hb, D, TB, hn, CP, C1, C2, C3, F⟩ := W
  have hr11 : Room 11 (lawX P w K mg base f (.ref c0) A outer s H0 E).A := hr
  have hu : (lawX P w K mg base f (.ref c0) A outer s H0 E).A.units + 64 < cLine := by have := hr11.un; omega
  refine ⟨_, ps_for PassesOwn.never rfl (pi_list (pe_lst (pa_cons pe_non (pa_cons (pe_lst pa_nil) (pa_cons (pe_tup (pa_cons (pe_tup (pa_cons (pv 5) (pa_cons (pv 5) pa_nil))) pa_nil)) (pa_cons (pe_tup (pa_cons (pe_tup (pa_cons (pe_op op_mulS (pv 5) pe_int) (pa_cons pe_str pa_nil))) pa_nil)) (pa_cons (pe_tup (pa_cons (pe_tup (pa_cons pe_str (pa_cons pe_str pa_nil))) pa_nil)) (pa_cons (pe_tup (pa_cons (pe_tup (pa_cons (pv 5) (pa_cons pe_str pa_nil))) (pa_cons (pe_tup (pa_cons (pv 5) (pa_cons pe_str pa_nil))) pa_nil))) (pa_cons pe_int pa_nil))))))))) (pg_name (i := 6) sc_law.nd rfl (.inr rfl)) (pss_cons (ps_set (i := 7) sc_law.nd rfl (.inl rfl) (pe_lst (pa_cons (pe_lm0 (L := L_l40) TB rfl (List.mem_cons_self ..) rfl (hu2 hn) (lmS_by (show lmSB nLaw (defScope sLaw) L_l40 = true by decide +kernel)).free rfl rfl) (pa_cons (pe_lm1 (L := L_l41) TB rfl (List.mem_cons_self ..) rfl (hu2 hn) (lmS_by (show lmSB nLaw (defScope sLaw) L_l41 = true by decide +kernel)).free rfl rfl rfl) (pa_cons (pe_lm1 (L := L_l42) TB rfl (List.mem_cons_self ..) rfl (hu2 hn) (lmS_by (show lmSB nLaw (defScope sLaw) L_l42 = true by decide +kernel)).free rfl rfl rfl) pa_nil))))) (pss_cons (ps_set (i := 7) sc_law.nd rfl (.inl rfl) (pe_op op_cat (pv 7) (pe_lst (pa_cons (pe_lm0 (L := L_l43) TB rfl (List.mem_cons_self ..) rfl (hu2 hn) (lmS_by (show lmSB nLaw (defScope sLaw) L_l43 = true by decide +kernel)).free rfl rfl) (pa_cons (pe_lm1 (L := L_l44) TB rfl (List.mem_cons_self ..) rfl (hu2 hn) (lmS_by (show lmSB nLaw (defScope sLaw) L_l44 = true by decide +kernel)).free rfl rfl rfl) (pa_cons (pe_lm1 (L := L_l45) TB rfl (List.mem_cons_self ..) rfl (hu2 hn) (lmS_by (show lmSB nLaw (defScope sLaw) L_l45 = true by decide +kernel)).free rfl rfl rfl) pa_nil)))))) (pss_one (ps_ifBad R hb D hr11)))), fun Dn S p y ks ms vk vm σ H dr st k => ?_⟩
  obtain ⟨y1, y2, y3, y4⟩ := seven_ok y dr.my
  have h1 := len1 y dr.my
  have hl9 : (lastS y).length + ("?" : Str).length ≤ 100000 := by
    have : ("?" : Str).length = 1 := by decide
    omega
  have lot : TxL (.tuple (ks.map kD)) ∧ lotD y (.tuple (ks.map kD)) = true := ⟨tx_kinds fun q hq => ⟨(dr.os.2.2 q hq).1, (dr.os.2.2 q hq).2.1⟩, lot_ok (by have := dr.os.1; omega) dr.os.2.1 dr.os.2.2⟩
  have ty : Tx (.str y) := fun z e => by cases e; omega
  obtain ⟨x6, x7, x8, rfl, hR, hk, hm, hT⟩ := st
  have a5 : At K [some (.ref S.1), some (.ref p), some (.str y), some vk, some vm, some (.str (lastS y)), x6, x7, x8] H 5 (.str (lastS y)) := ⟨_, rfl, .str _⟩
  refine s_forE (K := K) (ds := bads4 (lastS y)) (d_lst (ds_cons d_non (ds_cons (d_lst ds_nil (Nat.le_of_ble_eq_true rfl)) (ds_cons (d_tup (ds_cons (d_tup (ds_cons (d_var a5) (ds_cons (d_var a5) ds_nil)) (Nat.le_of_ble_eq_true rfl)) ds_nil) (Nat.le_of_ble_eq_true rfl)) (ds_cons (d_tup (ds_cons (d_tup (ds_cons (d_mulS (d_var a5) d_int (mulok (n := 4) h1 (by decide) (by decide))) (ds_cons d_str ds_nil)) (Nat.le_of_ble_eq_true rfl)) ds_nil) (Nat.le_of_ble_eq_true rfl)) (ds_cons (d_tup (ds_cons (d_tup (ds_cons d_str (ds_cons d_str ds_nil)) (Nat.le_of_ble_eq_true rfl)) ds_nil) (Nat.le_of_ble_eq_true rfl)) (ds_cons (d_tup (ds_cons (d_tup (ds_cons (d_var a5) (ds_cons d_str ds_nil)) (Nat.le_of_ble_eq_true rfl)) (ds_cons (d_tup (ds_cons (d_var a5) (ds_cons d_str ds_nil)) (Nat.le_of_ble_eq_true rfl)) ds_nil)) (Nat.le_of_ble_eq_true rfl)) (ds_cons d_int ds_nil))))))) (Nat.le_of_ble_eq_true rfl)) fun H1 e1 => ⟨fun _ σ' H' => ExtN H1 H' ∧ Stt K (tabs2 PT TN) S p y ks ms vk vm σ' H', ⟨ExtN.refl H1, _, _, _, rfl, hR.ex e1, dp_ex e1 hk, dp_ex e1 hm, hT.ext e1⟩, fun j σ' H' q => q.1, fun j d x σ' H' hj hx ⟨eN, st'⟩ => ?_, fun σ' H' ⟨_, st'⟩ => k σ' H' st'⟩
  have hb3 := List.all_eq_true.mp (List.all_eq_true.mp bads4_ok y dr.my) d (List.mem_of_getElem? hj)
  rw [Bool.and_eq_true, Bool.not_eq_true'] at hb3
  obtain ⟨x6, x7, x8, rfl, hR, hk, hm, hT⟩ := st'
  dsimp only [gName]
  have bd : B2 c.cL c.cK c.cR (.str y) d c.cK := .inr ⟨y, rfl, ty, y1, txLB_ok hb3.1, .inl ⟨rfl, hb3.2⟩⟩
  have b5 : B5 c.cL c.cK c.cR c.cN c.cX (.str y) d .none .none .none c.cK := .inr ⟨y, rfl, ty, y1, txLB_ok hb3.1, .inl ⟨rfl, hb3.2⟩⟩
  have b6 : B5 c.cL c.cK c.cR c.cN c.cX (.str y) (.tuple (ks.map kD)) (.int 3) d .none c.cK := .inr ⟨y, rfl, ty, y1, lot.1, .inr ⟨lot.2, .inr ⟨by decide, .inl ⟨txLB_ok hb3.1, .inl ⟨rfl, hb3.2⟩⟩⟩⟩⟩
  refine turn2 (X := (lawX P w K mg base f (.ref c0) A outer s H0 E)) (c := c) (wd := "BadKinds") (Ts := tabs2 PT TN) (Ls := [L_l40, L_l41, L_l42]) (Ms := [L_l43, L_l44, L_l45]) hT (by show 7 < 9; decide) (by show 3 + 3 ≤ 1000; decide) (fun v L hL => ?_) fun v G e t => ⟨eN.trans e, _, _, _, rfl, row_extN e hR, dp_extN e hk, dp_extN e hm, t⟩
  simp only [List.cons_append, List.nil_append, List.mem_cons, List.not_mem_nil, or_false] at hL
  rcases hL with rfl | rfl | rfl | rfl | rfl | rfl
  · exact ⟨_, l40 F, fun G Q e q => ask3 (K := K) (c := c) (C := c.cK) (wd := "BadKinds") (.inl bd) (by simp [prs]) (ds_cons (d_var ⟨_, rfl, .str y⟩) (ds_cons (d_var ⟨_, rfl, dp_extN e hx⟩) (ds_cons d_non ds_nil))) q⟩
  · exact ⟨_, l41 F, fun G Q e q => ask3 (K := K) (c := c) (C := c.cK) (wd := "BadKinds") (.inl bd) (by simp [prs]) (ds_cons (d_var ⟨_, rfl, .str y⟩) (ds_cons (d_var ⟨_, rfl, dp_extN e hx⟩) (ds_cons d_non ds_nil))) q⟩
  · exact ⟨_, l42 F, fun G Q e q => ask2 (K := K) (c := c) (C := c.cK) (wd := "BadKinds") bd (by simp [prs]) (ds_cons (d_var ⟨_, rfl, .str y⟩) (ds_cons (d_var ⟨_, rfl, dp_extN e hx⟩) ds_nil)) q⟩
  · exact ⟨_, l43 F, fun G Q e q => ask2 (K := K) (c := c) (C := c.cK) (wd := "BadKinds") bd (by simp [prs]) (ds_cons (d_var ⟨_, rfl, .str y⟩) (ds_cons (d_var ⟨_, rfl, dp_extN e hx⟩) ds_nil)) q⟩
  · exact ⟨_, l44 F, fun G Q e q => ask5 (K := K) (c := c) (C := c.cK) (wd := "BadKinds") b5 (by simp [prs]) (ds_cons (d_var ⟨_, rfl, .str y⟩) (ds_cons (d_var ⟨_, rfl, dp_extN e hx⟩) (ds_cons d_non (ds_cons d_non (ds_cons d_non ds_nil))))) q⟩
  · exact ⟨_, l45 F, fun G Q e q => ask5 (K := K) (c := c) (C := c.cK) (wd := "BadKinds") b6 (by simp [prs]) (ds_cons (d_var ⟨_, rfl, .str y⟩) (ds_cons (d_var ⟨_, rfl, dp_extN e hk⟩) (ds_cons d_int (ds_cons (d_var ⟨_, rfl, dp_extN e hx⟩) (ds_cons d_non ds_nil))))) q⟩
theorem r8 (W : Wo P w K mg base c g cdg c0 PT TN) (hr : Room 11 (A.deeper (envOfC "law" (defScope sLaw) s.heap.objs.size f (.ref c0)))) : ∃ t, PS (lawX P w K mg base f (.ref c0) A outer s H0 E) (st 8) t ∧ ∀ (Dn : Ends) (S : Addr × List Int) (p : Addr) (y : Str) (ks ms : List (Str × Str)) (vk vm : V) (σ : L2.St) (H : Hp), Drawn y ks ms → Stt K (tabs2 PT TN) S p y ks ms vk vm σ H → (∀ σ' H', Stt K (tabs2 PT TN) S p y ks ms vk vm σ' H' → Dn.nx σ' H') → t Dn σ H := by
  obtain ⟨R, hb, D, TB, hn, CP, C1, C2, C3, F⟩ := W
  have hr11 : Room 11 (lawX P w K mg base f (.ref c0) A outer s H0 E).A := hr
  have hu : (lawX P w K mg base f (.ref c0) A outer s H0 E).A.units + 64 < cLine := by have := hr11.un; omega
  refine ⟨_, ps_for PassesOwn.never rfl (pi_list (pe_lst (pa_cons pe_non (pa_cons pe_int (pa_cons (pe_lst (pa_cons (pv 5) pa_nil)) (pa_cons (pe_op op_add_str (pv 5) pe_str) (pa_cons (pe_op op_mulS (pv 5) pe_int) pa_nil))))))) (pg_name (i := 6) sc_law.nd rfl (.inr rfl)) (pss_one (ps_if (pt_cmpR (op_neD hu) (pe_lst (pa_cons (pe_ask D (by rfl) sc_error rfl (.inl rfl) (gives_err R hb) hr11 (pe_lm0 (L := L_l80) TB rfl (List.mem_cons_self ..) rfl (hu2 hn) (lmS_by (show lmSB nLaw (defScope sLaw) L_l80 = true by decide +kernel)).free rfl rfl)) (pa_cons (pe_ask D (by rfl) sc_error rfl (.inl rfl) (gives_err R hb) hr11 (pe_lm1 (L := L_l81) TB rfl (List.mem_cons_self ..) rfl (hu2 hn) (lmS_by (show lmSB nLaw (defScope sLaw) L_l81 = true by decide +kernel)).free rfl rfl rfl)) pa_nil))) (pe_op op_rep (pe_lst (pa_cons pe_str pa_nil)) pe_int) rfl) (pss_one (ps_ret pe_bl)) pss_nil)), fun Dn S p y ks ms vk vm σ H dr st k => ?_⟩
  obtain ⟨y1, y2, y3, y4⟩ := seven_ok y dr.my
  have h1 := len1 y dr.my
  have hl9 : (lastS y).length + ("?" : Str).length ≤ 100000 := by
    have : ("?" : Str).length = 1 := by decide
    omega
  have lot : TxL (.tuple (ks.map kD)) ∧ lotD y (.tuple (ks.map kD)) = true := ⟨tx_kinds fun q hq => ⟨(dr.os.2.2 q hq).1, (dr.os.2.2 q hq).2.1⟩, lot_ok (by have := dr.os.1; omega) dr.os.2.1 dr.os.2.2⟩
  have ty : Tx (.str y) := fun z e => by cases e; omega
  obtain ⟨x6, x7, x8, rfl, hR, hk, hm, hT⟩ := st
  have a5 : At K [some (.ref S.1), some (.ref p), some (.str y), some vk, some vm, some (.str (lastS y)), x6, x7, x8] H 5 (.str (lastS y)) := ⟨_, rfl, .str _⟩
  refine s_forE (K := K) (ds := bads8 (lastS y)) (d_lst (ds_cons d_non (ds_cons d_int (ds_cons (d_lst (ds_cons (d_var a5) ds_nil) (Nat.le_of_ble_eq_true rfl)) (ds_cons (d_addS (d_var a5) d_str hl9) (ds_cons (d_mulS (d_var a5) d_int (mulok (n := 41) h1 (by decide) (by decide))) ds_nil))))) (Nat.le_of_ble_eq_true rfl)) fun H1 e1 => ⟨fun _ σ' H' => ExtN H1 H' ∧ Stt K (tabs2 PT TN) S p y ks ms vk vm σ' H', ⟨ExtN.refl H1, _, _, _, rfl, hR.ex e1, dp_ex e1 hk, dp_ex e1 hm, hT.ext e1⟩, fun j σ' H' q => q.1, fun j d x σ' H' hj hx ⟨eN, st'⟩ => ?_, fun σ' H' ⟨_, st'⟩ => k σ' H' st'⟩
  have hb3 := List.all_eq_true.mp (List.all_eq_true.mp bads8_ok y dr.my) d (List.mem_of_getElem? hj)
  rw [Bool.and_eq_true, Bool.not_eq_true'] at hb3
  obtain ⟨x6, x7, x8, rfl, hR, hk, hm, hT⟩ := st'
  dsimp only [gName]
  exact pair_if (X := (lawX P w K mg base f (.ref c0) A outer s H0 E)) (c := c) (wd := "BadText") (Ts := tabs2 PT TN) hT ⟨_, l80 F, fun G Q e q => ask3 (K := K) (c := c) (C := c.cT) (wd := "BadText") (.inr ⟨y, ms, rfl, rfl, dr.om, rfl, txB_ok hb3.1, hb3.2⟩) (by simp [prs]) (ds_cons (d_var ⟨_, rfl, .str y⟩) (ds_cons (d_var ⟨_, rfl, dp_extN e hm⟩) (ds_cons (d_var ⟨_, rfl, dp_extN e hx⟩) ds_nil))) q⟩ ⟨_, l81 F, fun G Q e q => ask3 (K := K) (c := c) (C := c.cT) (wd := "BadText") (.inr ⟨y, ms, rfl, rfl, dr.om, rfl, txB_ok hb3.1, hb3.2⟩) (by simp [prs]) (ds_cons (d_var ⟨_, rfl, .str y⟩) (ds_cons (d_var ⟨_, rfl, dp_extN e hm⟩) (ds_cons (d_var ⟨_, rfl, dp_extN e hx⟩) ds_nil))) q⟩ (by decide +kernel) fun G e t => ⟨eN.trans e, _, _, _, rfl, row_extN e hR, dp_extN e hk, dp_extN e hm, t⟩
theorem r9 (W : Wo P w K mg base c g cdg c0 PT TN) (hr : Room 11 (A.deeper (envOfC "law" (defScope sLaw) s.heap.objs.size f (.ref c0)))) : ∃ t, PS (lawX P w K mg base f (.ref c0) A outer s H0 E) (st 9) t ∧ ∀ (Dn : Ends) (S : Addr × List Int) (p : Addr) (y : Str) (ks ms : List (Str × Str)) (vk vm : V) (σ : L2.St) (H : Hp), Drawn y ks ms → Stt K (tabs2 PT TN) S p y ks ms vk vm σ H → (∀ σ' H', Stt K (tabs2 PT TN) S p y ks ms vk vm σ' H' → Dn.nx σ' H') → t Dn σ H := by
  obtain ⟨R, hb, D, TB, hn, CP, C1, C2, C3, F⟩ := W
  have hr11 : Room 11 (lawX P w K mg base f (.ref c0) A outer s H0 E).A := hr
  have hu : (lawX P w K mg base f (.ref c0) A outer s H0 E).A.units + 64 < cLine := by have := hr11.un; omega
  refine ⟨_, ps_for PassesOwn.never rfl (pi_list (pe_lst (pa_cons pe_non (pa_cons (pe_op op_sub pe_int pe_int) (pa_cons pe_int (pa_cons pe_bl (pa_cons pe_str pa_nil))))))) (pg_name (i := 6) sc_law.nd rfl (.inr rfl)) (pss_one (ps_if (pt_cmpR (op_neD hu) (pe_lst (pa_cons (pe_ask D (by rfl) sc_error rfl (.inl rfl) (gives_err R hb) hr11 (pe_lm0 (L := L_l90) TB rfl (List.mem_cons_self ..) rfl (hu2 hn) (lmS_by (show lmSB nLaw (defScope sLaw) L_l90 = true by decide +kernel)).free rfl rfl)) (pa_cons (pe_ask D (by rfl) sc_error rfl (.inl rfl) (gives_err R hb) hr11 (pe_lm1 (L := L_l91) TB rfl (List.mem_cons_self ..) rfl (hu2 hn) (lmS_by (show lmSB nLaw (defScope sLaw) L_l91 = true by decide +kernel)).free rfl rfl rfl)) pa_nil))) (pe_op op_rep (pe_lst (pa_cons pe_str pa_nil)) pe_int) rfl) (pss_one (ps_ret pe_bl)) pss_nil)), fun Dn S p y ks ms vk vm σ H dr st k => ?_⟩
  obtain ⟨y1, y2, y3, y4⟩ := seven_ok y dr.my
  have h1 := len1 y dr.my
  have hl9 : (lastS y).length + ("?" : Str).length ≤ 100000 := by
    have : ("?" : Str).length = 1 := by decide
    omega
  have lot : TxL (.tuple (ks.map kD)) ∧ lotD y (.tuple (ks.map kD)) = true := ⟨tx_kinds fun q hq => ⟨(dr.os.2.2 q hq).1, (dr.os.2.2 q hq).2.1⟩, lot_ok (by have := dr.os.1; omega) dr.os.2.1 dr.os.2.2⟩
  have ty : Tx (.str y) := fun z e => by cases e; omega
  obtain ⟨x6, x7, x8, rfl, hR, hk, hm, hT⟩ := st
  have a5 : At K [some (.ref S.1), some (.ref p), some (.str y), some vk, some vm, some (.str (lastS y)), x6, x7, x8] H 5 (.str (lastS y)) := ⟨_, rfl, .str _⟩
  refine s_forE (K := K) (ds := bads9) (d_lst (ds_cons d_non (ds_cons (d_arI (g := fun i j => i - j) d_int d_int) (ds_cons d_int (ds_cons d_bl (ds_cons d_str ds_nil))))) (Nat.le_of_ble_eq_true rfl)) fun H1 e1 => ⟨fun _ σ' H' => ExtN H1 H' ∧ Stt K (tabs2 PT TN) S p y ks ms vk vm σ' H', ⟨ExtN.refl H1, _, _, _, rfl, hR.ex e1, dp_ex e1 hk, dp_ex e1 hm, hT.ext e1⟩, fun j σ' H' q => q.1, fun j d x σ' H' hj hx ⟨eN, st'⟩ => ?_, fun σ' H' ⟨_, st'⟩ => k σ' H' st'⟩
  have hb3 := List.all_eq_true.mp bads9_ok d (List.mem_of_getElem? hj)
  rw [Bool.not_eq_true'] at hb3
  obtain ⟨x6, x7, x8, rfl, hR, hk, hm, hT⟩ := st'
  dsimp only [gName]
  exact pair_if (X := (lawX P w K mg base f (.ref c0) A outer s H0 E)) (c := c) (wd := "BadNumber") (Ts := tabs2 PT TN) hT ⟨_, l90 F, fun G Q e q => ask5 (K := K) (c := c) (C := c.cN) (wd := "BadNumber") (.inr ⟨y, rfl, ty, y1, lot.1, .inr ⟨lot.2, .inl ⟨rfl, hb3⟩⟩⟩) (by simp [prs]) (ds_cons (d_var ⟨_, rfl, .str y⟩) (ds_cons (d_var ⟨_, rfl, dp_extN e hk⟩) (ds_cons (d_var ⟨_, rfl, dp_extN e hx⟩) (ds_cons d_non (ds_cons d_non ds_nil))))) q⟩ ⟨_, l91 F, fun G Q e q => ask5 (K := K) (c := c) (C := c.cN) (wd := "BadNumber") (.inr ⟨y, rfl, ty, y1, lot.1, .inr ⟨lot.2, .inl ⟨rfl, hb3⟩⟩⟩) (by simp [prs]) (ds_cons (d_var ⟨_, rfl, .str y⟩) (ds_cons (d_var ⟨_, rfl, dp_extN e hk⟩) (ds_cons (d_var ⟨_, rfl, dp_extN e hx⟩) (ds_cons d_non (ds_cons d_non ds_nil))))) q⟩ (by decide +kernel) fun G e t => ⟨eN.trans e, _, _, _, rfl, row_extN e hR, dp_extN e hk, dp_extN e hm, t⟩
theorem r10 (W : Wo P w K mg base c g cdg c0 PT TN) (hr : Room 11 (A.deeper (envOfC "law" (defScope sLaw) s.heap.objs.size f (.ref c0)))) : ∃ t, PS (lawX P w K mg base f (.ref c0) A outer s H0 E) (st 10) t ∧ ∀ (Dn : Ends) (S : Addr × List Int) (p : Addr) (y : Str) (ks ms : List (Str × Str)) (vk vm : V) (σ : L2.St) (H : Hp), Drawn y ks ms → Stt K (tabs2 PT TN) S p y ks ms vk vm σ H → (∀ σ' H', Stt K (tabs2 PT TN) S p y ks ms vk vm σ' H' → Dn.nx σ' H') → t Dn σ H := by
  obtain ⟨R, hb, D, TB, hn, CP, C1, C2, C3, F⟩ := W
  have hr11 : Room 11 (lawX P w K mg base f (.ref c0) A outer s H0 E).A := hr
  have hu : (lawX P w K mg base f (.ref c0) A outer s H0 E).A.units + 64 < cLine := by have := hr11.un; omega
  refine ⟨_, ps_for PassesOwn.never rfl (pi_list (pe_lst (pa_cons pe_non (pa_cons (pe_lst (pa_cons (pv 5) pa_nil)) (pa_cons (pv 5) (pa_cons (pe_tup (pa_cons pe_int pa_nil)) (pa_cons (pe_tup (pa_cons (pe_op op_mulS (pv 5) pe_int) pa_nil)) (pa_cons (pe_tup (pa_cons (pe_op op_add_str (pv 5) pe_str) pa_nil)) (pa_cons (pe_op op_repT (pe_tup (pa_cons (pv 5) pa_nil)) pe_int) (pa_cons pe_int pa_nil)))))))))) (pg_name (i := 6) sc_law.nd rfl (.inr rfl)) (pss_one (ps_if (pt_cmpR (op_neD hu) (pe_lst (pa_cons (pe_ask D (by rfl) sc_error rfl (.inl rfl) (gives_err R hb) hr11 (pe_lm0 (L := L_lA0) TB rfl (List.mem_cons_self ..) rfl (hu2 hn) (lmS_by (show lmSB nLaw (defScope sLaw) L_lA0 = true by decide +kernel)).free rfl rfl)) (pa_cons (pe_ask D (by rfl) sc_error rfl (.inl rfl) (gives_err R hb) hr11 (pe_lm1 (L := L_lA1) TB rfl (List.mem_cons_self ..) rfl (hu2 hn) (lmS_by (show lmSB nLaw (defScope sLaw) L_lA1 = true by decide +kernel)).free rfl rfl rfl)) pa_nil))) (pe_op op_rep (pe_lst (pa_cons pe_str pa_nil)) pe_int) rfl) (pss_one (ps_ret pe_bl)) pss_nil)), fun Dn S p y ks ms vk vm σ H dr st k => ?_⟩
  obtain ⟨y1, y2, y3, y4⟩ := seven_ok y dr.my
  have h1 := len1 y dr.my
  have hl9 : (lastS y).length + ("?" : Str).length ≤ 100000 := by
    have : ("?" : Str).length = 1 := by decide
    omega
  have lot : TxL (.tuple (ks.map kD)) ∧ lotD y (.tuple (ks.map kD)) = true := ⟨tx_kinds fun q hq => ⟨(dr.os.2.2 q hq).1, (dr.os.2.2 q hq).2.1⟩, lot_ok (by have := dr.os.1; omega) dr.os.2.1 dr.os.2.2⟩
  have ty : Tx (.str y) := fun z e => by cases e; omega
  obtain ⟨x6, x7, x8, rfl, hR, hk, hm, hT⟩ := st
  have a5 : At K [some (.ref S.1), some (.ref p), some (.str y), some vk, some vm, some (.str (lastS y)), x6, x7, x8] H 5 (.str (lastS y)) := ⟨_, rfl, .str _⟩
  refine s_forE (K := K) (ds := bads10 (lastS y)) (d_lst (ds_cons d_non (ds_cons (d_lst (ds_cons (d_var a5) ds_nil) (Nat.le_of_ble_eq_true rfl)) (ds_cons (d_var a5) (ds_cons (d_tup (ds_cons d_int ds_nil) (Nat.le_of_ble_eq_true rfl)) (ds_cons (d_tup (ds_cons (d_mulS (d_var a5) d_int (mulok (n := 9) h1 (by decide) (by decide))) ds_nil) (Nat.le_of_ble_eq_true rfl)) (ds_cons (d_tup (ds_cons (d_addS (d_var a5) d_str hl9) ds_nil) (Nat.le_of_ble_eq_true rfl)) (ds_cons (d_repT (k := 21) (d_tup (ds_cons (d_var a5) ds_nil) (Nat.le_of_ble_eq_true rfl)) (by simp) (by decide) (by decide) (by show 1 ≤ 1000; decide)) (ds_cons d_int ds_nil)))))))) (Nat.le_of_ble_eq_true rfl)) fun H1 e1 => ⟨fun _ σ' H' => ExtN H1 H' ∧ Stt K (tabs2 PT TN) S p y ks ms vk vm σ' H', ⟨ExtN.refl H1, _, _, _, rfl, hR.ex e1, dp_ex e1 hk, dp_ex e1 hm, hT.ext e1⟩, fun j σ' H' q => q.1, fun j d x σ' H' hj hx ⟨eN, st'⟩ => ?_, fun σ' H' ⟨_, st'⟩ => k σ' H' st'⟩
  have hb3 := List.all_eq_true.mp (List.all_eq_true.mp bads10_ok y dr.my) d (List.mem_of_getElem? hj)
  rw [Bool.and_eq_true, Bool.not_eq_true'] at hb3
  obtain ⟨x6, x7, x8, rfl, hR, hk, hm, hT⟩ := st'
  dsimp only [gName]
  exact pair_if (X := (lawX P w K mg base f (.ref c0) A outer s H0 E)) (c := c) (wd := "BadTexts") (Ts := tabs2 PT TN) hT ⟨_, lA0 F, fun G Q e q => ask5 (K := K) (c := c) (C := c.cX) (wd := "BadTexts") (.inr ⟨y, rfl, ty, y1, lot.1, .inr ⟨lot.2, .inr ⟨by decide, .inr ⟨ms, rfl, dr.om, rfl, txZB_ok hb3.1, hb3.2⟩⟩⟩⟩) (by simp [prs]) (ds_cons (d_var ⟨_, rfl, .str y⟩) (ds_cons (d_var ⟨_, rfl, dp_extN e hk⟩) (ds_cons d_int (ds_cons (d_var ⟨_, rfl, dp_extN e hm⟩) (ds_cons (d_var ⟨_, rfl, dp_extN e hx⟩) ds_nil))))) q⟩ ⟨_, lA1 F, fun G Q e q => ask5 (K := K) (c := c) (C := c.cX) (wd := "BadTexts") (.inr ⟨y, rfl, ty, y1, lot.1, .inr ⟨lot.2, .inr ⟨by decide, .inr ⟨ms, rfl, dr.om, rfl, txZB_ok hb3.1, hb3.2⟩⟩⟩⟩) (by simp [prs]) (ds_cons (d_var ⟨_, rfl, .str y⟩) (ds_cons (d_var ⟨_, rfl, dp_extN e hk⟩) (ds_cons d_int (ds_cons (d_var ⟨_, rfl, dp_extN e hm⟩) (ds_cons (d_var ⟨_, rfl, dp_extN e hx⟩) ds_nil))))) q⟩ (by decide +kernel) fun G e t => ⟨eN.trans e, _, _, _, rfl, row_extN e hR, dp_extN e hk, dp_extN e hm, t⟩
end
end K26

set_option maxHeartbeats 4000000
set_option autoImplicit false
namespace K26
open PySem PySem.Spec PyProof.Rows L2 AsSort AsKit AsTry AsAct AsLcC
open Evl (Ex Ev EvT EvA)
open LamX (ExtN TabB lamCx)
open NdefX (TabsN TabN NTab)
section
variable {P : Program} {w : World} {K : PySem.W.Frag} {mg : Str → Option Value} {base : Heap} {c : Cs} {f : Addr} {A : Around} {outer : List Env} {s : Shared} {H0 : Hp} {E : XK} {c0 PT TN g : Addr} {cdg : Value}
/-- with a mender that lengthens -/
def StB (K : PySem.W.Frag) (Ts : List NTab) (S : Addr × List Int) (p : Addr) (y : Str) (ks ms ps : List (Str × Str)) (vk vm : V) (σ : L2.St) (H : Hp) : Prop := ∃ (vb : V) (x7 x8 : Option V),
  σ = [some (.ref S.1), some (.ref p), some (.str y), some vk, some vm, some (.str (lastS y)), some vb, x7, x8] ∧ Row K S H p ∧ Dp K H vk (.tuple (ks.map kD)) ∧ Dp K H vm (.tuple (ms.map kD)) ∧ TabsN Ts H ∧ Dp K H vb (.tuple (ps.map kD)) ∧ ps ∈ bads5 y (lastS y)
theorem two_refs {H : Hp} {vs : List V} {ds : List (List (Str × Str))} (h : DpAll K H vs (ds.map fun ps => .tuple (ps.map kD))) (hl : 2 ≤ ds.length) : vs ≠ [] ∧ ∀ a b c d : V, vs = [a, b, c, d] → ∀ n, b ≠ .int n := by
  match ds, hl with
  | d1 :: d2 :: ds, _ =>
    cases h with
    | cons h1 h =>
      cases h with
      | cons h2 h =>
        refine ⟨(fun z => nomatch z), fun a b c d e n z => ?_⟩
        cases e
        subst z
        cases h2
theorem r5 (W : Wo P w K mg base c g cdg c0 PT TN) (hr : Room 11 (A.deeper (envOfC "law" (defScope sLaw) s.heap.objs.size f (.ref c0)))) : ∃ t, PS (lawX P w K mg base f (.ref c0) A outer s H0 E) (st 5) t ∧ ∀ (Dn : Ends) (S : Addr × List Int) (p : Addr) (y : Str) (ks ms : List (Str × Str)) (vk vm : V) (σ : L2.St) (H : Hp), Drawn y ks ms → Stt K (tabs2 PT TN) S p y ks ms vk vm σ H → (∀ ps σ' H', StB K (tabs2 PT TN) S p y ks ms ps vk vm σ' H' → Dn.nx σ' H') → t Dn σ H := by
  obtain ⟨R, hb, D, TB, hn, CP, C1, C2, C3, F⟩ := W
  have hr11 : Room 11 (lawX P w K mg base f (.ref c0) A outer s H0 E).A := hr
  have hu : (lawX P w K mg base f (.ref c0) A outer s H0 E).A.units + 64 < cLine := by have := hr11.un; omega
  refine ⟨_, ps_set (i := 6) sc_law.nd rfl (.inr rfl) (C8.pe_c CP hr (by decide) (by rfl) (pa_cons (pv 1) (pa_cons (pe_op op_cat (pe_lst (pa_cons (pe_tup (pa_cons (pe_tup (pa_cons pe_str (pa_cons (pv 5) pa_nil))) pa_nil)) (pa_cons (pe_tup (pa_cons (pe_tup (pa_cons (pv 5) (pa_cons pe_str pa_nil))) (pa_cons (pe_tup (pa_cons pe_str (pa_cons (pv 5) pa_nil))) pa_nil))) pa_nil))) (pe_ifExp (pt_cmpR op_eq (pe_slice sl_str (pv 2) po_none (po_some pe_int)) pe_str (nomark _)) (pe_lst (pa_cons (pe_tup (pa_cons (pe_tup (pa_cons pe_str (pa_cons pe_str pa_nil))) pa_nil)) pa_nil)) (pe_lst pa_nil))) pa_nil))), fun Dn S p y ks ms vk vm σ H dr st k => ?_⟩
  obtain ⟨y1, y2, y3, y4⟩ := seven_ok y dr.my
  have h1 := len1 y dr.my
  have hl9 : (lastS y).length + ("?" : Str).length ≤ 100000 := by
    have : ("?" : Str).length = 1 := by decide
    omega
  have lot : TxL (.tuple (ks.map kD)) ∧ lotD y (.tuple (ks.map kD)) = true := ⟨tx_kinds fun q hq => ⟨(dr.os.2.2 q hq).1, (dr.os.2.2 q hq).2.1⟩, lot_ok (by have := dr.os.1; omega) dr.os.2.1 dr.os.2.2⟩
  have ty : Tx (.str y) := fun z e => by cases e; omega
  obtain ⟨x6, x7, x8, rfl, hR, hk, hm, hT⟩ := st
  have a5 : At K [some (.ref S.1), some (.ref p), some (.str y), some vk, some vm, some (.str (lastS y)), x6, x7, x8] H 5 (.str (lastS y)) := ⟨_, rfl, .str _⟩
  have a2 : At K [some (.ref S.1), some (.ref p), some (.str y), some vk, some vm, some (.str (lastS y)), x6, x7, x8] H 2 (.str y) := ⟨_, rfl, .str _⟩
  have yl : y.length ≤ 100000 := by omega
  refine ⟨.ref p, rfl, ?_⟩
  have lst := ld_cat (K := K) (ds := [.tuple [.tuple [.str "", .str (lastS y)]], .tuple [.tuple [.str (lastS y), .str ""], .tuple [.str "", .str (lastS y)]]]) (ld_lst (ds_cons (d_tup (ds_cons (d_tup (ds_cons d_str (ds_cons (d_var a5) ds_nil)) (Nat.le_of_ble_eq_true rfl)) ds_nil) (Nat.le_of_ble_eq_true rfl)) (ds_cons (d_tup (ds_cons (d_tup (ds_cons (d_var a5) (ds_cons d_str ds_nil)) (Nat.le_of_ble_eq_true rfl)) (ds_cons (d_tup (ds_cons d_str (ds_cons (d_var a5) ds_nil)) (Nat.le_of_ble_eq_true rfl)) ds_nil)) (Nat.le_of_ble_eq_true rfl)) ds_nil)) (Nat.le_of_ble_eq_true rfl))
    (ld_if (ds := [.tuple [.tuple [.str "a", .str "b"]]]) (es := []) (b := decide (cutS y none (some 2) = "ab")) (t_ofD (d_eqS (d_slS (z := y) (d_var a2) p_none (p_some d_int) yl) d_str)) (fun _ => ld_lst (ds_cons (d_tup (ds_cons (d_tup (ds_cons d_str (ds_cons d_str ds_nil)) (Nat.le_of_ble_eq_true rfl)) ds_nil) (Nat.le_of_ble_eq_true rfl)) ds_nil) (Nat.le_of_ble_eq_true rfl)) fun _ => ld_lst ds_nil (Nat.le_of_ble_eq_true rfl)) (by split <;> simp)
  refine lst H (Ex.refl H) _ fun p2 vs H1 e1 hp2 hvs => ?_
  have eds : ([.tuple [.tuple [.str "", .str (lastS y)]], .tuple [.tuple [.str (lastS y), .str ""], .tuple [.str "", .str (lastS y)]]] ++ (if decide (cutS y none (some 2) = "ab") = true then [.tuple [.tuple [.str "a", .str "b"]]] else []) : List PyData) = (bads5 y (lastS y)).map fun ps => .tuple (ps.map kD) := by
    unfold bads5
    by_cases h : cutS y none (some 2) = "ab"
    · rw [if_pos (decide_eq_true h), if_pos h]
      rfl
    · rw [if_neg (by simpa using h), if_neg h]
      rfl
  rw [eds] at hvs
  have bl : 2 ≤ (bads5 y (lastS y)).length := by unfold bads5; rw [List.length_append]; show 2 ≤ 2 + _; omega
  have bl3 : (bads5 y (lastS y)).length ≤ 3 := by
    unfold bads5
    rw [List.length_append]
    split
    · exact Nat.le_refl _
    · show 2 + 0 ≤ 3; omega
  obtain ⟨n1, n2⟩ := two_refs hvs bl
  have hR1 := hR.ex e1
  have npr : p2 ≠ p := fun e => by
    obtain ⟨a, b, c', r1, _⟩ := hR1
    rw [e, r1] at hp2
    exact n2 _ _ _ _ (HO.lst.inj (Option.some.inj hp2)).symm _ rfl
  refine ⟨p, S, p2, vs, rfl, hR1, npr, Evl.sq_of hp2, n1, by rw [dpAll_len hvs, List.length_map]; omega, fun x H2 hx b2 R2 => ?_⟩
  obtain ⟨i, hi⟩ := List.mem_iff_getElem?.mp hx
  have hil := (List.getElem?_eq_some_iff.mp hi).1
  rw [dpAll_len hvs, List.length_map] at hil
  obtain ⟨ps, hps⟩ : ∃ ps, (bads5 y (lastS y))[i]? = some ps := ⟨_, List.getElem?_eq_getElem hil⟩
  have hd : Dp K H1 x (.tuple (ps.map kD)) := dpAll_get hvs hi (by rw [List.getElem?_map, hps]; rfl)
  have himm : ∀ ps : List (Str × Str), imm (.tuple (ps.map kD)) = true := fun ps => immAll_of fun d hd => by
    obtain ⟨q, _, rfl⟩ := List.mem_map.mp hd
    rfl
  exact k ps _ _ ⟨x, _, _, rfl, R2, dp_tu (tu_bt hR1 b2) (himm _) (dp_ex e1 hk), dp_tu (tu_bt hR1 b2) (himm _) (dp_ex e1 hm), tabs_bt hR1 b2 (hT.ext e1), dp_tu (tu_bt hR1 b2) (himm _) hd, List.mem_of_getElem? hps⟩
theorem r67 (W : Wo P w K mg base c g cdg c0 PT TN) (hr : Room 11 (A.deeper (envOfC "law" (defScope sLaw) s.heap.objs.size f (.ref c0)))) : ∃ t6 t7, PS (lawX P w K mg base f (.ref c0) A outer s H0 E) (st 6) t6 ∧ PS (lawX P w K mg base f (.ref c0) A outer s H0 E) (st 7) t7 ∧ ∀ (u : TS) (Dn : Ends) (S : Addr × List Int) (p : Addr) (y : Str) (ks ms ps : List (Str × Str)) (vk vm : V) (σ : L2.St) (H : Hp), Drawn y ks ms → StB K (tabs2 PT TN) S p y ks ms ps vk vm σ H → (∀ σ' H', Stt K (tabs2 PT TN) S p y ks ms vk vm σ' H' → u Dn σ' H') → tSeq t6 (tSeq t7 u) Dn σ H := by
  obtain ⟨R, hb, D, TB, hn, CP, C1, C2, C3, F⟩ := W
  have hr11 : Room 11 (lawX P w K mg base f (.ref c0) A outer s H0 E).A := hr
  have hu : (lawX P w K mg base f (.ref c0) A outer s H0 E).A.units + 64 < cLine := by have := hr11.un; omega
  refine ⟨_, _, ps_set (i := 7) sc_law.nd rfl (.inl rfl) (pe_lst (pa_cons (pe_lm0 (L := L_l60) TB rfl (List.mem_cons_self ..) rfl (hu2 hn) (lmS_by (show lmSB nLaw (defScope sLaw) L_l60 = true by decide +kernel)).free rfl rfl) (pa_cons (pe_lm1 (L := L_l61) TB rfl (List.mem_cons_self ..) rfl (hu2 hn) (lmS_by (show lmSB nLaw (defScope sLaw) L_l61 = true by decide +kernel)).free rfl rfl rfl) (pa_cons (pe_lm1 (L := L_l62) TB rfl (List.mem_cons_self ..) rfl (hu2 hn) (lmS_by (show lmSB nLaw (defScope sLaw) L_l62 = true by decide +kernel)).free rfl rfl rfl) (pa_cons (pe_lm1 (L := L_l63) TB rfl (List.mem_cons_self ..) rfl (hu2 hn) (lmS_by (show lmSB nLaw (defScope sLaw) L_l63 = true by decide +kernel)).free rfl rfl rfl) pa_nil))))), ps_if (pt_cmpR (op_neD hu) (pe_lcE rfl sc_law.nd (pe_op op_cat (pv 7) (pe_lst (pa_cons (pe_lm0 (L := L_l70) TB rfl (List.mem_cons_self ..) rfl (hu2 hn) (lmS_by (show lmSB nLaw (defScope sLaw) L_l70 = true by decide +kernel)).free rfl rfl) pa_nil))) (blkOk_by (N := nLaw) (sc := defScope sLaw) (own := [("call", 8)]) (by decide +kernel)) (fun _ _ _ _ _ => pg_name (i := 8) sc_law.nd rfl (.inl rfl)) (test_ask D sc_error rfl (.inl rfl) (gives_err R hb) hr11 (fun _ _ _ _ _ => by rfl) (fun _ _ _ _ _ => pv 8))) (pe_lst pa_nil) rfl) (pss_one (ps_ret pe_bl)) pss_nil, fun u Dn S p y ks ms ps vk vm σ H dr st k => ?_⟩
  obtain ⟨y1, y2, y3, y4⟩ := seven_ok y dr.my
  have lot : TxL (.tuple (ks.map kD)) ∧ lotD y (.tuple (ks.map kD)) = true := ⟨tx_kinds fun q hq => ⟨(dr.os.2.2 q hq).1, (dr.os.2.2 q hq).2.1⟩, lot_ok (by have := dr.os.1; omega) dr.os.2.1 dr.os.2.2⟩
  have ty : Tx (.str y) := fun z e => by cases e; omega
  obtain ⟨vb, x7, x8, rfl, hR, hk, hm, hT, hx, hps⟩ := st
  have hb3 := List.all_eq_true.mp (List.all_eq_true.mp bads5_ok y dr.my) ps hps
  rw [Bool.and_eq_true, Bool.and_eq_true] at hb3
  have bm : BM c.cK c.cR y (.tuple (ps.map kD)) c.cR := ⟨txLB_ok hb3.1, .inr ⟨rfl, hb3.2.1, ps, rfl, hb3.2.2⟩⟩
  have bd : B2 c.cL c.cK c.cR (.str y) (.tuple (ps.map kD)) c.cR := .inr ⟨y, rfl, ty, y1, bm⟩
  have b5 : B5 c.cL c.cK c.cR c.cN c.cX (.str y) (.tuple (ks.map kD)) (.int 0) (.tuple (ps.map kD)) .none c.cR := .inr ⟨y, rfl, ty, y1, lot.1, .inr ⟨lot.2, .inr ⟨by decide, .inl bm⟩⟩⟩
  refine q_te (te := tLst (mkT (lawX P w K mg base f (.ref c0) A outer s H0 E) (tabs2 PT TN) [L_l60, L_l61, L_l62, L_l63])) (i := 7) (R := fun x G => ∃ q fs, x = V.ref q ∧ ExtN H G ∧ TabsN (tabs2 PT TN) G ∧ Made (lawX P w K mg base f (.ref c0) A outer s H0 E) G fs [L_l60, L_l61, L_l62, L_l63] ∧ G q = some (.lst (fs.map V.ref))) (fun Q k => lst_go (Ls := [L_l60, L_l61, L_l62, L_l63]) hT (by show 4 ≤ 1000; decide) fun q fs G e t m hp => k _ _ ⟨q, fs, rfl, e, t, m, hp⟩) fun x G hR1 => ?_
  obtain ⟨q7, fs, rfl, e1, t1, m1, hp1⟩ := hR1
  refine none_ifE (X := (lawX P w K mg base f (.ref c0) A outer s H0 E)) (c := c) (wd := "BadMender") (Ts := tabs2 PT TN) (D := { Dn with nx := u Dn }) (Ls := [L_l60, L_l61, L_l62, L_l63] ++ [L_l70]) (Ms := []) (p := q7) (fs := fs) (te := tOp rCat (tVar 7) (tLst (mkT (lawX P w K mg base f (.ref c0) A outer s H0 E) (tabs2 PT TN) [L_l70]))) t1 (fun Q kk => cat_go rfl hp1 m1 t1 (by show 4 + 1 ≤ 1000; decide) kk) (fun L hL => ?_) fun G2 e2 t2 => k _ _ ⟨_, _, _, rfl, row_extN (e1.trans e2) hR, dp_extN (e1.trans e2) hk, dp_extN (e1.trans e2) hm, t2⟩
  refine PL.ext ?_ e1
  simp only [List.cons_append, List.nil_append, List.mem_cons, List.not_mem_nil, or_false] at hL
  rcases hL with rfl | rfl | rfl | rfl | rfl
  · exact ⟨_, l60 F, fun G Q e q => ask3 (K := K) (c := c) (C := c.cR) (wd := "BadMender") (.inl bd) (by simp [prs]) (ds_cons (d_var ⟨_, rfl, .str y⟩) (ds_cons (d_var ⟨_, rfl, dp_extN e hx⟩) (ds_cons d_non ds_nil))) q⟩
  · exact ⟨_, l61 F, fun G Q e q => ask3 (K := K) (c := c) (C := c.cR) (wd := "BadMender") (.inl bd) (by simp [prs]) (ds_cons (d_var ⟨_, rfl, .str y⟩) (ds_cons (d_var ⟨_, rfl, dp_extN e hx⟩) (ds_cons d_non ds_nil))) q⟩
  · exact ⟨_, l62 F, fun G Q e q => ask2 (K := K) (c := c) (C := c.cR) (wd := "BadMender") bd (by simp [prs]) (ds_cons (d_var ⟨_, rfl, .str y⟩) (ds_cons (d_var ⟨_, rfl, dp_extN e hx⟩) ds_nil)) q⟩
  · exact ⟨_, l63 F, fun G Q e q => ask2 (K := K) (c := c) (C := c.cR) (wd := "BadMender") bd (by simp [prs]) (ds_cons (d_var ⟨_, rfl, .str y⟩) (ds_cons (d_var ⟨_, rfl, dp_extN e hx⟩) ds_nil)) q⟩
  · exact ⟨_, l70 F, fun G Q e q => ask5 (K := K) (c := c) (C := c.cR) (wd := "BadMender") b5 (by simp [prs]) (ds_cons (d_var ⟨_, rfl, .str y⟩) (ds_cons (d_var ⟨_, rfl, dp_extN e hk⟩) (ds_cons d_int (ds_cons (d_var ⟨_, rfl, dp_extN e hx⟩) (ds_cons d_non ds_nil))))) q⟩
theorem ask5v {K : PySem.W.Frag} {σ : L2.St} {H : Hp} {c : Cs} {ta : TA} {Q : VK} {Ts : List NTab} {y : Str} {ks ms : List (Str × Str)} {zs : List Str} (om : OkM y ms) (ok : OkS y ks) (hl : zs.length ≤ 20) (hz : ∀ z ∈ zs, TxOk y 8 z) (hT : TabsN Ts H) (h : EvDs K ta σ H [.str y, .tuple (ks.map kD), .int 0, .tuple (ms.map kD), .tuple (zs.map PyData.str)]) (q : ∀ H', ExtN H H' → TabsN Ts H' → Q (.str "") H') : TTe c (fun E H' Q' => tCall (spB5 K Ts c.cL c.cK c.cR c.cN c.cX) [] E ta σ H' Q') H Q :=
  h H (Ex.refl H) _ fun vs H1 e hv => by
    show spB5 K _ _ _ _ _ _ (vs ++ []) H1 _ _
    rw [List.append_nil]
    exact ⟨_, _, _, _, _, hv, .inr ⟨y, ks, ms, zs, rfl, rfl, rfl, rfl, rfl, om, ok, hl, hz, hT.ext e, fun u H' e' t' => q H' ((ExtN.of e).trans e') t'⟩⟩
def spOne0 (K : PySem.W.Frag) : Sp := fun vs H Q _ => ∃ (v : V) (y : Str), vs = [.str y, v] ∧ Dp K H v (.tuple []) ∧ OkM y [] ∧ y.length ≤ 4 ∧ 0 < y.length ∧ ∀ H', Ex H H' → Q (.bl true) H'
theorem c_oneway0 (D : Df K mg "is_one_way" sOneWay) (C1 : Cl P w K mg base 7 "check_letters_and_mender" (spCheckMender K) []) (C2 : Cl P w K mg base 6 "least_overlap" (spLeast0 K) []) : Cl P w K mg base 8 "is_one_way" (spOne0 K) [] := by
  refine cl_of D sc_oneway (fun vs H Q E ⟨v, y, h, _⟩ => by rw [h]; rfl) (fun _ _ _ _ _ _ us hl => match us, hl with | [_, _], _ => rfl) fun f cdv A outer s H vs Q E hr h => ?_
  obtain ⟨v, y, rfl, h0, om, y1, y2, q⟩ := h
  refine ⟨_, pss_cons (ps_expr (C8.pe_c C1 hr (by decide) (by rfl) (pa_cons (pv 0) (pa_cons (pv 1) pa_nil)))) (pss_one (ps_ret (pe_cmp (pc_isN (C8.pe_c C2 hr (by decide) (by rfl) (pa_cons (pv 0) (pa_cons (pv 1) pa_nil))))))), ?_⟩
  refine q_exprD (K := K) (d_call (ds_cons (d_var (i := 0) ⟨_, rfl, .str y⟩) (ds_cons (d_var (i := 1) ⟨_, rfl, h0⟩) ds_nil)) ⟨y, [], rfl, om⟩) fun H1 e1 => ?_
  exact ⟨.str y, rfl, v, rfl, v, y, rfl, dp_ex e1 h0, y1, y2, fun H2 e2 => q H2 (e1.trans e2)⟩
theorem four_ok : ∀ y ∈ seven, y.length ≤ 4 := by decide +kernel
theorem okm_nil (y : Str) (h : y ∈ seven) : OkM y [] := let ⟨a, b, _, d⟩ := seven_ok y h; ⟨b, d, a, by decide, List.nodup_nil, fun p hp => absurd hp List.not_mem_nil⟩
theorem r11 (W : Wo P w K mg base c g cdg c0 PT TN) (hr : Room 11 (A.deeper (envOfC "law" (defScope sLaw) s.heap.objs.size f (.ref c0)))) (CO : Cl P w K mg base 8 "is_one_way" (spOne0 K) []) : ∃ t, PS (lawX P w K mg base f (.ref c0) A outer s H0 E) (st 11) t ∧ ∀ (Dn : Ends) (S : Addr × List Int) (p : Addr) (y : Str) (ks ms : List (Str × Str)) (vk vm : V) (σ : L2.St) (H : Hp), Drawn y ks ms → Stt K (tabs2 PT TN) S p y ks ms vk vm σ H → (∀ H', Dn.rt (.bl true) H') → t Dn σ H := by
  obtain ⟨R, hb, D, TB, hn, CP, C1, C2, C3, F⟩ := W
  have hr11 : Room 11 (lawX P w K mg base f (.ref c0) A outer s H0 E).A := hr
  refine ⟨_, ps_ret (pe_and (pe_cmpR op_eq (pe_ask D (by rfl) sc_error rfl (.inl rfl) (gives_err R hb) hr11 (pe_lm0 (L := L_lR) TB rfl (List.mem_cons_self ..) rfl (hu2 hn) (lmS_by (show lmSB nLaw (defScope sLaw) L_lR = true by decide +kernel)).free rfl rfl)) pe_str (nomark _)) (pe_one (pe_cmpR op_is_bl (C8.pe_c CO hr (by decide) (by rfl) (pa_cons (pv 2) (pa_cons (pe_tup pa_nil) pa_nil))) pe_bl rfl))), fun Dn S p y ks ms vk vm σ H dr st k => ?_⟩
  obtain ⟨y1, y2, y3, y4⟩ := seven_ok y dr.my
  have h1 := len1 y dr.my
  have hl9 : (lastS y).length + ("?" : Str).length ≤ 100000 := by
    have : ("?" : Str).length = 1 := by decide
    omega
  have lot : TxL (.tuple (ks.map kD)) ∧ lotD y (.tuple (ks.map kD)) = true := ⟨tx_kinds fun q hq => ⟨(dr.os.2.2 q hq).1, (dr.os.2.2 q hq).2.1⟩, lot_ok (by have := dr.os.1; omega) dr.os.2.1 dr.os.2.2⟩
  have ty : Tx (.str y) := fun z e => by cases e; omega
  obtain ⟨x6, x7, x8, rfl, hR, hk, hm, hT⟩ := st
  have a5 : At K [some (.ref S.1), some (.ref p), some (.str y), some vk, some vm, some (.str (lastS y)), x6, x7, x8] H 5 (.str (lastS y)) := ⟨_, rfl, .str _⟩
  have he := List.all_eq_true.mp eight_ok y dr.my
  rw [Bool.and_eq_true, decide_eq_true_eq] at he
  refine ⟨hT, fun fL G e t n m => ⟨fL, _, _, rfl, rfl, m, lR F, ?_⟩⟩
  refine ask5v (K := K) (c := c) (y := y) (ks := ks) (ms := ms) (zs := List.replicate 20 (Txt.mul (lastS y) 8)) dr.om dr.os (by rw [List.length_replicate]; decide) (fun z hz => by rw [(List.mem_replicate.mp hz).2]; exact he) t ?_ fun H1 e1 t1 => ?_
  · have e20 : PyData.tuple ((List.replicate 20 (Txt.mul (lastS y) 8)).map PyData.str) = .tuple (List.replicate 20 [PyData.str (Txt.mul (lastS y) 8)]).flatten := by
      refine congrArg PyData.tuple ?_
      rw [List.map_replicate]
      rfl
    rw [e20]
    exact ds_cons (d_var ⟨_, rfl, .str y⟩) (ds_cons (d_var ⟨_, rfl, dp_extN e hk⟩) (ds_cons d_int (ds_cons (d_var ⟨_, rfl, dp_extN e hm⟩) (ds_cons (d_repT (k := 20) (d_tup (ds_cons (d_mulS (d_var (i := 5) ⟨_, rfl, .str _⟩) d_int (mulok (n := 8) h1 (by decide) (by decide))) ds_nil) (Nat.le_of_ble_eq_true rfl)) (by simp) (by decide) (by decide) (by show 1 ≤ 1000; decide)) ds_nil))))
  · refine ⟨rfl, true, by simp, ?_⟩
    refine ⟨.str y, rfl, Evl.sz_of (Nat.zero_le _), fun q0 nq => ?_⟩
    refine ⟨.ref q0, y, rfl, .tup (Evl.st_of upd_same) .nil, okm_nil y dr.my, four_ok y dr.my, y3, fun H2 e2 => ?_⟩
    exact ⟨true, true, rfl, rfl, k H2⟩
end
end K26

set_option maxHeartbeats 4000000
set_option autoImplicit false
namespace K26
open PySem PySem.Spec PyProof.Rows L2 AsSort AsKit AsTry AsAct AsLcC
open Evl (Ex Ev EvT EvA)
open LamX (ExtN TabB lamCx)
open NdefX (TabsN TabN NTab)
section
variable {P : Program} {w : World} {K : PySem.W.Frag} {mg : Str → Option Value} {base : Heap} {c : Cs} {f : Addr} {A : Around} {outer : List Env} {s : Shared} {H0 : Hp} {E : XK} {c0 PT TN g : Addr} {cdg : Value}
def spLaw (K : PySem.W.Frag) (Ts : List NTab) : Sp := fun vs H Q _ => ∃ (a : Addr) (ns : List Int), vs = [.ref a] ∧ SqL K H a (ns.map V.int) ∧ TabsN Ts H ∧ ∀ H', Q (.bl true) H'
theorem body_is : defBody sLaw = [st 0, st 1, st 2, st 3, st 4, st 5, st 6, st 7, st 8, st 9, st 10, st 11] := by kernel_rfl
theorem ok_law {f0 : Addr} {fd0 : FuncData} (F0 : FunD K "law" "law" (defArgs sLaw) (defBody sLaw) (defScope sLaw) [] [] f0 fd0) (hc : fd0.code = .ref c0) (W : Wo P w K mg base c g cdg c0 PT TN) (CO : Cl P w K mg base 8 "is_one_way" (spOne0 K) []) : FnOk P w K mg base C8.CX0 12 f0 fd0 ["script"] (spLaw K (tabs2 PT TN)) := by
  obtain ⟨oc, od, dV, kV, doc, pm, an, cdv, ct, osl, rfl, lk, hcd, _, _⟩ := F0.ex
  have e : cdv = .ref c0 := hc
  subst e
  refine fn_of lk hcd sc_law (fun vs H Q E ⟨a, ns, h, _⟩ => by rw [h]; rfl) fun A outer s H vs Q E hr h => ?_
  obtain ⟨a, ns, rfl, hS, hT, q⟩ := h
  obtain ⟨t0, t1, t2, p0, p1, p2, k012⟩ := r012 (H0 := H) (E := E) (outer := outer) W hr
  obtain ⟨t3, p3, k3⟩ := r3 (H0 := H) (E := E) (outer := outer) W hr
  obtain ⟨t4, p4, k4⟩ := r4 (H0 := H) (E := E) (outer := outer) W hr
  obtain ⟨t5, p5, k5⟩ := r5 (H0 := H) (E := E) (outer := outer) W hr
  obtain ⟨t6, t7, p6, p7, k67⟩ := r67 (H0 := H) (E := E) (outer := outer) W hr
  obtain ⟨t8, p8, k8⟩ := r8 (H0 := H) (E := E) (outer := outer) W hr
  obtain ⟨t9, p9, k9⟩ := r9 (H0 := H) (E := E) (outer := outer) W hr
  obtain ⟨t10, p10, k10⟩ := r10 (H0 := H) (E := E) (outer := outer) W hr
  obtain ⟨t11, p11, k11⟩ := r11 (H0 := H) (E := E) (outer := outer) W hr CO
  refine ⟨tSeq t0 (tSeq t1 (tSeq t2 (tSeq t3 (tSeq t4 (tSeq t5 (tSeq t6 (tSeq t7 (tSeq t8 (tSeq t9 (tSeq t10 t11)))))))))), ?_, ?_⟩
  · rw [body_is]
    exact PSs.nox (pss_cons p0 (pss_cons p1 (pss_cons p2 (pss_cons p3 (pss_cons p4 (pss_cons p5 (pss_cons p6 (pss_cons p7 (pss_cons p8 (pss_cons p9 (pss_cons p10 (pss_one p11))))))))))))
  refine k012 _ _ a ns H hS hT fun p y ks ms vk vm σ1 H1 dr st => ?_
  refine k3 _ (a, ns) p y ks ms vk vm _ _ dr st fun _ _ st => ?_
  refine k4 _ (a, ns) p y ks ms vk vm _ _ dr st fun _ _ st => ?_
  refine k5 _ (a, ns) p y ks ms vk vm _ _ dr st fun ps _ _ st => ?_
  refine k67 _ _ (a, ns) p y ks ms ps vk vm _ _ dr st fun _ _ st => ?_
  refine k8 _ (a, ns) p y ks ms vk vm _ _ dr st fun _ _ st => ?_
  refine k9 _ (a, ns) p y ks ms vk vm _ _ dr st fun _ _ st => ?_
  refine k10 _ (a, ns) p y ks ms vk vm _ _ dr st fun _ _ st => ?_
  exact k11 _ (a, ns) p y ks ms vk vm _ _ dr st q
end
end K26

set_option maxHeartbeats 0
set_option autoImplicit false
namespace K26
open PySem PySem.Spec PyProof.Rows L2 AsSort AsKit AsMax AsMin AsTry AsAct AsLcC
open Evl (Ex Ev EvT EvA)
open LamX (ExtN TabB)
open NdefX (TabsN TabN NTab NScope nscope_by NF startF)
/-! the head: what the top leaves -/
def mkD (x : Str) (st : Stmt) : He.DefD := ⟨(x, none), x, x, defArgs st, defBody st, defScope st, [], []⟩
def fn0 : List He.DefD := [mkD "is_integer" sIsInteger, mkD "is_letters" sIsLetters, mkD "is_text" sIsText, mkD "is_text_within" sIsTextWithin, mkD "is_kind" sIsKind, mkD "is_lot" sIsLot, mkD "check_letters" sCheckLetters, mkD "check_text" sCheckText, mkD "check_kinds" sCheckKinds, mkD "check_mender" sCheckMender, mkD "check_texts" sCheckTexts, mkD "check_number" sCheckNumber, mkD "text_order" sTextOrder, mkD "texts_within" sTextsWithin, mkD "kind_order" sKindOrder, mkD "deeds_on" sDeedsOn, mkD "text_behind" sTextBehind, mkD "next_deed" sNextDeed, mkD "mending_of" sMendingOf, mkD "least_overlap" sLeast, mkD "end_of" sEndOf, mkD "first_unmended" sFirst, mkD "copies_of_level" sCopiesLv, mkD "check_letters_and_mender" sCheckLM, mkD "mended" sMended, mkD "mending" sMendingX, mkD "is_one_way" sOneWay, mkD "overlap" sOverlap]
def fn1 : List He.DefD := [mkD "failing" sFailing, mkD "brings_back" sBrings, mkD "_law_taken" sTaken, mkD "_law_pick" sPick, mkD "_law_letters" sLetters, mkD "_law_text" sText, mkD "_law_kinds" sKinds, mkD "_law_mender" sMender, mkD "_law_error" sError, mkD "law" sLaw]
def fn : List He.DefD := fn0 ++ fn1
def fa0 : List He.Fa := [.glo "is_integer", .glo "is_letters", .glo "is_text", .glo "is_text_within", .glo "is_kind", .glo "is_lot", .glo "check_letters", .glo "check_text", .glo "check_kinds", .glo "check_mender", .glo "check_texts", .glo "check_number", .glo "text_order", .glo "texts_within", .glo "kind_order", .glo "deeds_on", .glo "text_behind", .glo "next_deed", .glo "mending_of", .glo "least_overlap", .glo "end_of", .glo "first_unmended", .glo "copies_of_level", .glo "check_letters_and_mender", .glo "mended", .glo "mending", .glo "is_one_way", .glo "overlap"]
def fa1 : List He.Fa := [.glo "failing", .glo "brings_back", .glo "_law_taken", .glo "_law_pick", .glo "_law_letters", .glo "_law_text", .glo "_law_kinds", .glo "_law_mender", .glo "_law_error", .glo "law"]
def faF : List He.Fa := [.free "isinstance", .free "int", .free "bool", .free "str", .free "tuple", .free "list", .free "dict", .free "len", .free "range", .free "all", .free "any", .free "set", .free "sorted", .free "max", .free "min", .int "MOST_LETTERS" 4, .int "LONGEST_TEXT" 40, .int "LONGEST_LEFT" 3, .int "LONGEST_RIGHT" 1, .int "MOST_KINDS" 12, .int "MOST_TEXTS" 20, .int "LONGEST_OF_TEXTS" 8, .int "MOST_DEEDS" 3]
def faX0 : List He.Fa := [.glo "BadLetters", .glo "BadKinds", .glo "BadMender", .glo "BadText", .glo "BadNumber", .glo "BadTexts", .glo "ScribeError", .exc "BadLetters", .exc "BadKinds", .exc "BadMender", .exc "BadText", .exc "BadNumber", .exc "BadTexts", .exm "BadLetters" "BadLetters" true, .exm "BadKinds" "BadLetters" false, .exm "BadKinds" "BadKinds" true, .exm "BadMender" "BadLetters" false, .exm "BadMender" "BadKinds" false, .exm "BadMender" "BadMender" true, .exm "BadText" "BadLetters" false, .exm "BadText" "BadKinds" false, .exm "BadText" "BadMender" false, .exm "BadText" "BadText" true, .exm "BadNumber" "BadLetters" false, .exm "BadNumber" "BadKinds" false, .exm "BadNumber" "BadMender" false, .exm "BadNumber" "BadText" false, .exm "BadNumber" "BadNumber" true]
def faX1 : List He.Fa := [.exm "BadTexts" "BadLetters" false, .exm "BadTexts" "BadKinds" false, .exm "BadTexts" "BadMender" false, .exm "BadTexts" "BadText" false, .exm "BadTexts" "BadNumber" false, .exm "BadTexts" "BadTexts" true]
def fa : List He.Fa := fa0 ++ fa1 ++ faF ++ faX0 ++ faX1
def loose0 : List Str := ["ScribeError", "BadLetters", "BadText", "BadKinds", "BadNumber", "BadMender", "BadTexts", "MOST_LETTERS", "LONGEST_TEXT", "LONGEST_LEFT", "LONGEST_RIGHT", "MOST_KINDS", "MOST_TEXTS", "LONGEST_OF_TEXTS", "is_integer", "is_letters", "is_text", "is_text_within", "is_kind", "is_lot", "check_letters", "check_text", "check_kinds", "check_mender", "check_texts", "check_number", "text_order", "texts_within"]
def loose1 : List Str := ["kind_order", "deeds_on", "text_behind", "MOST_DEEDS", "next_deed", "mending_of", "least_overlap", "end_of", "first_unmended", "copies_of_level", "check_letters_and_mender", "mended", "mending", "is_one_way", "overlap", "failing", "brings_back", "_law_taken", "_law_pick", "_law_letters", "_law_text", "_law_kinds", "_law_mender", "_law_error"]
def loose : List Str := loose0 ++ loose1
abbrev Rw : PySem.W.OpenRow := PySem.W.OpenLaw.row PySem.Challenge.rw_anyscribe_k26_menders_refused
abbrev Pg : Program := PySem.Challenge.rw_anyscribe_k26_menders_refused.prog
abbrev tf : List He.Defn := [("law", none), ("next_deed", none)]
def exK : PySem.W.Frag → Bool := fun K => decide ((He.cT K ("law", none)).2 ≠ (He.cT K ("next_deed", none)).2)
abbrev hk : PySem.W.Hook := He.hookX 6 fa fn [] tf exK
def ob (s : PySem.W.SharedT) : He.AlX := He.obsX 6 fa fn [] tf exK (HandSHeadRun.getT s)
theorem ob_eq (s : PySem.W.SharedT) : ob s = hk.obs s.abs := He.obsX_eq (HandSHeadRun.getT_eq s)
theorem run (w : World) : HandSHeadRun.RunEq Rw (PySem.W.view Rw.prog [57]) hk ob 3000 loose w := by
  intro os
  kernel_rfl
end K26

set_option maxHeartbeats 0
set_option autoImplicit false
namespace K26
open PySem PySem.Spec PyProof.Rows L2 AsSort AsKit AsMax AsMin AsTry AsAct AsLcC
open Evl (Ex Ev EvT EvA)
open LamX (ExtN TabB)
open NdefX (TabsN TabN NTab NScope nscope_by NF startF)
section
variable {P : Program} {w : World} {K : PySem.W.Frag} {mg : Str → Option Value} {h : Heap}
theorem df_of (X : K.In h) (G : h.Ns mainGlobals mg) (c : He.SaysD fa fn K) (x : Str) (st : Stmt) (h1 : mkD x st ∈ fn) (h2 : He.Fa.glo x ∈ fa) : Df K mg x st := by
  obtain ⟨fd, F⟩ := c.defs h1
  exact ⟨_, fd, F, He.glo_ok X G (c.facts h2)⟩
theorem bl_of (X : K.In h) (G : h.Ns mainGlobals mg) (c : He.SaysD fa fn K) : Bl mg := fun x hx => by
  have h2 : ∀ x ∈ blts, He.Fa.free x ∈ fa := by
    intro x hx
    simp only [blts, List.mem_cons, List.not_mem_nil, or_false] at hx
    rcases hx with rfl | rfl | rfl | rfl | rfl | rfl | rfl | rfl | rfl | rfl | rfl | rfl | rfl
    · exact (List.mem_of_getElem? (i := 38) rfl)
    · exact (List.mem_of_getElem? (i := 39) rfl)
    · exact (List.mem_of_getElem? (i := 40) rfl)
    · exact (List.mem_of_getElem? (i := 41) rfl)
    · exact (List.mem_of_getElem? (i := 42) rfl)
    · exact (List.mem_of_getElem? (i := 43) rfl)
    · exact (List.mem_of_getElem? (i := 44) rfl)
    · exact (List.mem_of_getElem? (i := 45) rfl)
    · exact (List.mem_of_getElem? (i := 46) rfl)
    · exact (List.mem_of_getElem? (i := 47) rfl)
    · exact (List.mem_of_getElem? (i := 48) rfl)
    · exact (List.mem_of_getElem? (i := 49) rfl)
    · exact (List.mem_of_getElem? (i := 50) rfl)
  exact He.free_ok X G (c.facts (h2 x hx))
theorem gn_of (X : K.In h) (G : h.Ns mainGlobals mg) (c : He.SaysD fa fn K) (x : Str) (n : Int) (h2 : He.Fa.int x n ∈ fa) : Gn mg x n := by
  obtain ⟨t, e⟩ := He.int_ok X G (c.facts h2)
  exact ⟨_, e, ⟨t, rfl⟩⟩
theorem dfc_of (X : K.In h) (G : h.Ns mainGlobals mg) (c : He.SaysD fa fn K) (x : Str) (st : Stmt) (h1 : mkD x st ∈ fn) (h2 : He.Fa.glo x ∈ fa) : Dfc K mg x st (He.codeOf K (x, none)) := by
  obtain ⟨fd, F⟩ := c.defs h1
  refine ⟨_, fd, F, He.glo_ok X G (c.facts h2), ?_⟩
  obtain ⟨oc, od, dV, kV, doc, pm, an, cdv, ct, osl, rfl, lk, hcd, _, _⟩ := F.ex
  obtain ⟨c0, rfl⟩ := He.codeIn_ref hcd
  exact congrArg Value.ref (He.codeOf_eq (p := (x, none)) lk rfl).symm
theorem ec_of (X : K.In h) (G : h.Ns mainGlobals mg) (c : He.SaysD fa fn K) (x : Str) (h1 : He.Fa.glo x ∈ fa) (h2 : He.Fa.exc x ∈ fa) : Ec K mg x (He.ga K x) := by
  obtain ⟨a1, a2, a3, a4⟩ := He.exc_ok (c.facts h2)
  exact ⟨He.glo_ok X G (c.facts h1), a1, a2, a3, a4⟩
theorem askd_of (X : K.In h) (G : h.Ns mainGlobals mg) (c : He.SaysD fa fn K) : ∃ g cdg, AskD K mg "_law_error" sError g cdg := by
  obtain ⟨fd, F⟩ := c.defs (d := mkD "_law_error" sError) (List.mem_of_getElem? (i := 36) rfl)
  have hb := F.bindsN (ps := ["call"]) (fun _ _ _ _ _ _ us hl => match us, hl with | [_], _ => rfl)
  obtain ⟨oc, od, dV, kV, doc, pm, an, cdv, ct, osl, rfl, lk, hcd, _, _⟩ := F.ex
  exact ⟨_, cdv, (He.glo_ok X G (c.facts (List.mem_of_getElem? (i := 36) rfl))), F.kp, ⟨dV, kV, doc, pm, ct, oc, an, od, osl, lk, hb⟩, hcd⟩
abbrev csOf (K : PySem.W.Frag) : Cs := ⟨He.ga K "BadLetters", He.ga K "BadKinds", He.ga K "BadMender", He.ga K "BadText", He.ga K "BadNumber", He.ga K "BadTexts", He.ga K "ScribeError"⟩
theorem ers_of (X : K.In h) (G : h.Ns mainGlobals mg) (c : He.SaysD fa fn K) : Ers K mg (csOf K) :=
  ⟨(He.glo_ok X G (c.facts (List.mem_of_getElem? (i := 61) rfl))), (He.glo_ok X G (c.facts (List.mem_of_getElem? (i := 62) rfl))), (He.glo_ok X G (c.facts (List.mem_of_getElem? (i := 63) rfl))), (He.glo_ok X G (c.facts (List.mem_of_getElem? (i := 64) rfl))), (He.glo_ok X G (c.facts (List.mem_of_getElem? (i := 65) rfl))), (He.glo_ok X G (c.facts (List.mem_of_getElem? (i := 66) rfl))), (He.glo_ok X G (c.facts (List.mem_of_getElem? (i := 67) rfl))), (He.exm_ok (c.facts (List.mem_of_getElem? (i := 74) rfl))), (He.exm_ok (c.facts (List.mem_of_getElem? (i := 75) rfl))), (He.exm_ok (c.facts (List.mem_of_getElem? (i := 76) rfl))), (He.exm_ok (c.facts (List.mem_of_getElem? (i := 77) rfl))), (He.exm_ok (c.facts (List.mem_of_getElem? (i := 78) rfl))), (He.exm_ok (c.facts (List.mem_of_getElem? (i := 79) rfl))), (He.exm_ok (c.facts (List.mem_of_getElem? (i := 80) rfl))), (He.exm_ok (c.facts (List.mem_of_getElem? (i := 81) rfl))), (He.exm_ok (c.facts (List.mem_of_getElem? (i := 82) rfl))), (He.exm_ok (c.facts (List.mem_of_getElem? (i := 83) rfl))), (He.exm_ok (c.facts (List.mem_of_getElem? (i := 84) rfl))), (He.exm_ok (c.facts (List.mem_of_getElem? (i := 85) rfl))), (He.exm_ok (c.facts (List.mem_of_getElem? (i := 86) rfl))), (He.exm_ok (c.facts (List.mem_of_getElem? (i := 87) rfl))), (He.exm_ok (c.facts (List.mem_of_getElem? (i := 88) rfl))), (He.exm_ok (c.facts (List.mem_of_getElem? (i := 89) rfl))), (He.exm_ok (c.facts (List.mem_of_getElem? (i := 90) rfl))), (He.exm_ok (c.facts (List.mem_of_getElem? (i := 91) rfl))), (He.exm_ok (c.facts (List.mem_of_getElem? (i := 92) rfl))), (He.exm_ok (c.facts (List.mem_of_getElem? (i := 93) rfl))), (He.exm_ok (c.facts (List.mem_of_getElem? (i := 94) rfl)))⟩
theorem code_of {f : Addr} (X : K.In h) (G : h.Ns mainGlobals mg) (c : He.SaysD fa fn K) (hfa : mg ("law" : Str) = some (.ref f)) : ∃ fd, FunD K "law" "law" (defArgs sLaw) (defBody sLaw) (defScope sLaw) [] [] f fd ∧ fd.code = .ref (He.codeOf K ("law", none)) := by
  obtain ⟨f1, fd, F, e1, hc⟩ := dfc_of X G c "law" sLaw (List.mem_of_getElem? (i := 37) rfl) (List.mem_of_getElem? (i := 37) rfl)
  cases hfa.symm.trans e1
  exact ⟨fd, F, hc⟩
theorem law_ok (w : World) (X : K.In h) (G : h.Ns mainGlobals mg) (c : He.SaysX fa fn [] tf exK w h K) {f : Addr} (hfa : mg ("law" : Str) = some (.ref f)) : LamX.LawAtS PySem.Challenge.rw_anyscribe_k26_menders_refused w K C8.CX0 12 63 "script" mg f h := by
  have cd : He.SaysD fa fn K := c.t.d
  obtain ⟨fd, F, hcF⟩ := code_of X G cd hfa
  have in0 : (("law", none) : He.Defn) ∈ tf := List.mem_cons_self ..
  have in1 : (("next_deed", none) : He.Defn) ∈ tf := List.mem_cons_of_mem _ (List.mem_cons_self ..)
  have two : ∀ (P : Addr × Addr → Prop), P (He.cT K ("law", none)) → P (He.cT K ("next_deed", none)) → ∀ p ∈ [He.cT K ("law", none), He.cT K ("next_deed", none)], P p := fun P a b p hp => by
    rcases List.mem_cons.mp hp with rfl | hp
    · exact a
    · rw [List.mem_singleton.mp hp]
      exact b
  have hn : (He.cT K ("law", none)).2 ≠ (He.cT K ("next_deed", none)).2 := of_decide_eq_true c.more
  refine ⟨fd, [He.cT K ("law", none), He.cT K ("next_deed", none)], spLaw K (tabs2 (He.cT K ("law", none)).2 (He.cT K ("next_deed", none)).2), two _ (c.empty _ in0) (c.empty _ in1), two _ (c.out _ in0) (c.out _ in1), two _ (PySem.W.codeHd_of_K X (c.hd _ in0)) (PySem.W.codeHd_of_K X (c.hd _ in1)), fun s u => ?_, fun H a ns hl _ hH hS => ?_, fun base Xb Gb TB => ?_⟩
  · exact FunD.bindsA (ps := ["script"]) F (fun _ _ _ _ _ _ us hl => match us, hl with | [_], _ => rfl) s [u] rfl
  · refine ⟨a, ns, rfl, hS, fun p hp => ?_, fun _ => rfl⟩
    rcases List.mem_cons.mp hp with rfl | hp
    · exact TabN.nil (hH _ (List.mem_cons_self ..))
    · rw [List.mem_singleton.mp hp]
      exact TabN.nil (hH _ (List.mem_cons_of_mem _ (List.mem_cons_self ..)))
  · have TB0 : TabB base mg (He.codeOf K ("law", none)) (He.cT K ("law", none)).2 := TB _ (List.mem_cons_self ..)
    have TB1 : TabB base mg (He.codeOf K ("next_deed", none)) (He.cT K ("next_deed", none)).2 := TB _ (List.mem_cons_of_mem _ (List.mem_cons_self ..))
    generalize (He.cT K ("law", none)).2 = T0 at hn TB0 ⊢
    generalize (He.cT K ("next_deed", none)).2 = T1 at hn TB1 ⊢
    have X := Xb
    have G := Gb
    have c := cd
    have hb : Bl mg := bl_of X G c
    have i1 := c_is_integer (P := Pg) (w := w) (base := base) (df_of X G c "is_integer" sIsInteger (List.mem_of_getElem? (i := 0) rfl) (List.mem_of_getElem? (i := 0) rfl)) hb
    have i2 := c_is_letters (P := Pg) (w := w) (base := base) (df_of X G c "is_letters" sIsLetters (List.mem_of_getElem? (i := 1) rfl) (List.mem_of_getElem? (i := 1) rfl)) hb (gn_of X G c "MOST_LETTERS" 4 (List.mem_of_getElem? (i := 53) rfl))
    have i3 := c_is_text (P := Pg) (w := w) (base := base) (df_of X G c "is_text" sIsText (List.mem_of_getElem? (i := 2) rfl) (List.mem_of_getElem? (i := 2) rfl)) hb
    have i4 := c_is_text_within (df_of X G c "is_text_within" sIsTextWithin (List.mem_of_getElem? (i := 3) rfl) (List.mem_of_getElem? (i := 3) rfl)) hb i3
    have i5 := c_is_kind (df_of X G c "is_kind" sIsKind (List.mem_of_getElem? (i := 4) rfl) (List.mem_of_getElem? (i := 4) rfl)) hb (gn_of X G c "LONGEST_LEFT" 3 (List.mem_of_getElem? (i := 55) rfl)) (gn_of X G c "LONGEST_RIGHT" 1 (List.mem_of_getElem? (i := 56) rfl)) i4
    have i6 := c_is_lot (df_of X G c "is_lot" sIsLot (List.mem_of_getElem? (i := 5) rfl) (List.mem_of_getElem? (i := 5) rfl)) hb (gn_of X G c "MOST_KINDS" 12 (List.mem_of_getElem? (i := 57) rfl)) i5
    have i7 := c_check_letters (df_of X G c "check_letters" sCheckLetters (List.mem_of_getElem? (i := 6) rfl) (List.mem_of_getElem? (i := 6) rfl)) i2
    have i9 := c_check_kinds (df_of X G c "check_kinds" sCheckKinds (List.mem_of_getElem? (i := 8) rfl) (List.mem_of_getElem? (i := 8) rfl)) i6
    have j1 := c_check_mender (df_of X G c "check_mender" sCheckMender (List.mem_of_getElem? (i := 9) rfl) (List.mem_of_getElem? (i := 9) rfl)) hb i9
    have j2 := c_text_behind (P := Pg) (w := w) (base := base) (df_of X G c "text_behind" sTextBehind (List.mem_of_getElem? (i := 16) rfl) (List.mem_of_getElem? (i := 16) rfl)) hb
    have j3 := c_next_deed (P := Pg) (w := w) (Ts := (tabs2 T0 T1)) (List.mem_cons_of_mem _ (List.mem_cons_self ..)) (hu3 hn) (dfc_of X G c "next_deed" sNextDeed (List.mem_of_getElem? (i := 17) rfl) (List.mem_of_getElem? (i := 17) rfl)) hb (He.free_ok X G (c.facts (List.mem_of_getElem? (i := 51) rfl))) TB1
    have j4 := c_mending_of (df_of X G c "mending_of" sMendingOf (List.mem_of_getElem? (i := 18) rfl) (List.mem_of_getElem? (i := 18) rfl)) hb j3 j2
    have j5 := c_check_lm (df_of X G c "check_letters_and_mender" sCheckLM (List.mem_of_getElem? (i := 23) rfl) (List.mem_of_getElem? (i := 23) rfl)) i7 j1
    have l1 := c_text_order (P := Pg) (w := w) (base := base) (df_of X G c "text_order" sTextOrder (List.mem_of_getElem? (i := 12) rfl) (List.mem_of_getElem? (i := 12) rfl)) hb
    have l2 := c_kind_order (df_of X G c "kind_order" sKindOrder (List.mem_of_getElem? (i := 14) rfl) (List.mem_of_getElem? (i := 14) rfl)) l1
    have l3 := c_deeds_on (df_of X G c "deeds_on" sDeedsOn (List.mem_of_getElem? (i := 15) rfl) (List.mem_of_getElem? (i := 15) rfl)) hb l2
    have l4 := c_copies_lv (df_of X G c "copies_of_level" sCopiesLv (List.mem_of_getElem? (i := 22) rfl) (List.mem_of_getElem? (i := 22) rfl)) hb l3 j2
    have l5 := c_end_of (df_of X G c "end_of" sEndOf (List.mem_of_getElem? (i := 20) rfl) (List.mem_of_getElem? (i := 20) rfl)) hb j3 j2
    have l6 := c_first (df_of X G c "first_unmended" sFirst (List.mem_of_getElem? (i := 21) rfl) (List.mem_of_getElem? (i := 21) rfl)) hb (He.free_ok X G (c.facts (List.mem_of_getElem? (i := 52) rfl))) l4 l5 l1
    have l7 := c_textsw (P := Pg) (w := w) (base := base) (df_of X G c "texts_within" sTextsWithin (List.mem_of_getElem? (i := 13) rfl) (List.mem_of_getElem? (i := 13) rfl)) hb
    have l8 := c_least (df_of X G c "least_overlap" sLeast (List.mem_of_getElem? (i := 19) rfl) (List.mem_of_getElem? (i := 19) rfl)) hb (He.free_ok X G (c.facts (List.mem_of_getElem? (i := 51) rfl))) l7 l3 j2
    have l9 := c_oneway0 (df_of X G c "is_one_way" sOneWay (List.mem_of_getElem? (i := 26) rfl) (List.mem_of_getElem? (i := 26) rfl)) j5 l8
    have x1 := x_check_letters (df_of X G c "check_letters" sCheckLetters (List.mem_of_getElem? (i := 6) rfl) (List.mem_of_getElem? (i := 6) rfl)) (ec_of X G c "BadLetters" (List.mem_of_getElem? (i := 61) rfl) (List.mem_of_getElem? (i := 68) rfl)) i2
    have x2 := x_check_text (df_of X G c "check_text" sCheckText (List.mem_of_getElem? (i := 7) rfl) (List.mem_of_getElem? (i := 7) rfl)) (ec_of X G c "BadText" (List.mem_of_getElem? (i := 64) rfl) (List.mem_of_getElem? (i := 71) rfl)) (gn_of X G c "LONGEST_TEXT" 40 (List.mem_of_getElem? (i := 54) rfl)) i4
    have x3 := x_check_kinds (df_of X G c "check_kinds" sCheckKinds (List.mem_of_getElem? (i := 8) rfl) (List.mem_of_getElem? (i := 8) rfl)) (ec_of X G c "BadKinds" (List.mem_of_getElem? (i := 62) rfl) (List.mem_of_getElem? (i := 69) rfl)) i6
    have x4 := x_check_number (df_of X G c "check_number" sCheckNumber (List.mem_of_getElem? (i := 11) rfl) (List.mem_of_getElem? (i := 11) rfl)) (ec_of X G c "BadNumber" (List.mem_of_getElem? (i := 65) rfl) (List.mem_of_getElem? (i := 72) rfl)) i1
    have x5 := x_check_texts (df_of X G c "check_texts" sCheckTexts (List.mem_of_getElem? (i := 10) rfl) (List.mem_of_getElem? (i := 10) rfl)) (ec_of X G c "BadTexts" (List.mem_of_getElem? (i := 66) rfl) (List.mem_of_getElem? (i := 73) rfl)) hb (gn_of X G c "MOST_TEXTS" 20 (List.mem_of_getElem? (i := 58) rfl)) (gn_of X G c "LONGEST_OF_TEXTS" 8 (List.mem_of_getElem? (i := 59) rfl)) i4
    have x6 := x_check_mender (df_of X G c "check_mender" sCheckMender (List.mem_of_getElem? (i := 9) rfl) (List.mem_of_getElem? (i := 9) rfl)) (ec_of X G c "BadMender" (List.mem_of_getElem? (i := 63) rfl) (List.mem_of_getElem? (i := 70) rfl)) hb x3
    have x7 := x_check_lm (df_of X G c "check_letters_and_mender" sCheckLM (List.mem_of_getElem? (i := 23) rfl) (List.mem_of_getElem? (i := 23) rfl)) x1 x6
    have z1 := x_mended (df_of X G c "mended" sMended (List.mem_of_getElem? (i := 24) rfl) (List.mem_of_getElem? (i := 24) rfl)) x7 x2 j4
    have z2 := x_mending (df_of X G c "mending" sMendingX (List.mem_of_getElem? (i := 25) rfl) (List.mem_of_getElem? (i := 25) rfl)) x7 x2 j4
    have z3 := x_oneway (df_of X G c "is_one_way" sOneWay (List.mem_of_getElem? (i := 26) rfl) (List.mem_of_getElem? (i := 26) rfl)) x7 l8
    have z4 := x_overlap (df_of X G c "overlap" sOverlap (List.mem_of_getElem? (i := 27) rfl) (List.mem_of_getElem? (i := 27) rfl)) x7 l8
    have z5 := x_failing (df_of X G c "failing" sFailing (List.mem_of_getElem? (i := 28) rfl) (List.mem_of_getElem? (i := 28) rfl)) (gn_of X G c "MOST_DEEDS" 3 (List.mem_of_getElem? (i := 60) rfl)) x1 x3 x4 x6 x5 l6
    have z6 := x_brings (df_of X G c "brings_back" sBrings (List.mem_of_getElem? (i := 29) rfl) (List.mem_of_getElem? (i := 29) rfl)) z5
    have k1 := c_taken (P := Pg) (w := w) (base := base) (df_of X G c "_law_taken" sTaken (List.mem_of_getElem? (i := 30) rfl) (List.mem_of_getElem? (i := 30) rfl)) hb
    have k2 := c_pick (df_of X G c "_law_pick" sPick (List.mem_of_getElem? (i := 31) rfl) (List.mem_of_getElem? (i := 31) rfl)) hb k1
    have k3 := c_letters (df_of X G c "_law_letters" sLetters (List.mem_of_getElem? (i := 32) rfl) (List.mem_of_getElem? (i := 32) rfl)) k2
    have k4 := c_text (df_of X G c "_law_text" sText (List.mem_of_getElem? (i := 33) rfl) (List.mem_of_getElem? (i := 33) rfl)) hb k1 k2
    have k5 := c_mender (df_of X G c "_law_mender" sMender (List.mem_of_getElem? (i := 35) rfl) (List.mem_of_getElem? (i := 35) rfl)) hb k1 k2 k4
    have k8 := c_kinds (df_of X G c "_law_kinds" sKinds (List.mem_of_getElem? (i := 34) rfl) (List.mem_of_getElem? (i := 34) rfl)) hb k1 k2 k4
    obtain ⟨ag, acd, AD⟩ := askd_of X G c
    exact ok_law F (hcF) (c := csOf K) ⟨ers_of X G c, hb, AD, TB0, hn, k2, k3, k8, k5, ⟨z1, z2, z3, z4, z5, z6⟩⟩ l9
end
end K26
open PySem PySem.W PyProof.Rows
theorem PySem.Challenge.cw_anyscribe_k26_menders_refused_holds : PySem.Challenge.rw_anyscribe_k26_menders_refused.Holds := by
  w_on; o_law
  refine HandSHeadRun.head_any (r := K26.Rw) (q := view K26.Rw.prog [57]) (H := K26.hk) (ob := K26.ob) (M := 3000) (loose := K26.loose) (d := HandSHeadRun.topDef K26.Rw.prog 57) (kwd := []) K26.ob_eq
    (by kernel_rfl) (fun s => by kernel_rfl) K26.run (by kernel_rfl) (by kernel_rfl) (by kernel_rfl) (by rfl) (by first | assumption | decide +kernel) (by decide +kernel) ⟨rfl, rfl, rfl, rfl, rfl, by decide +kernel⟩ ?hw ?hc
  case hw => w_witness2
  case hc =>
    refine LamX.walk_ofTsE (l := PySem.Challenge.rw_anyscribe_k26_menders_refused) (n := 63) (k := 12) (x := "script") (CX := fun _ => C8.CX0) rfl (by decide) (by kernel_rfl) ⟨rfl, by decide, by decide⟩ ?F (fun _ _ _ _ _ z => z)
    intro w mg fa h Y G hmg0
    obtain ⟨K, KX, c⟩ := Y
    have hmg : mg ("law" : PySem.Str) = some (.ref fa) := by
      have e : (HandSHeadRun.topDef K26.Rw.prog 57).name = ("law" : PySem.Str) := by kernel_rfl
      rw [← e]
      exact hmg0
    exact ⟨K, KX, K26.law_ok w KX G c hmg⟩
