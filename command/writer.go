package command

import (
	"strings"

	"tapster/api"
	"tapster/digits"
)

// writer is a Command that is laid as arguments, whether it may be or not.
type writer struct {
	told api.Command
	args []string // those that are laid
}

// name lays the Name.
func (w *writer) name() {
	w.add(w.told.Name)
}

// number lays N.
func (w *writer) number() {
	w.add(digits.Print(w.told.N))
}

// policy lays the Policy's fields, in their order.
func (w *writer) policy() {
	p := w.told.Policy
	open := 0
	if p.Open {
		open = 1
	}
	for _, field := range []int{p.Kind, p.Limit, p.Period, p.Burst, p.Cap, open} {
		w.add(digits.Print(field))
	}
}

// path lays the Path.
func (w *writer) path() {
	if len(w.told.Path) == 0 {
		w.add(noParts)
		return
	}
	w.add(strings.Join(w.told.Path, slash))
}

// wishes lays each wish as an argument.
func (w *writer) wishes() {
	w.each(func(x api.Wish) string {
		return strings.Join([]string{x.Name, digits.Print(x.Deep), digits.Print(x.Cost)}, colon)
	})
}

// most lays the Cost of the one wish, if there is one.
func (w *writer) most() {
	w.each(func(x api.Wish) string {
		return digits.Print(x.Cost)
	})
}

// each lays an argument of each wish.
func (w *writer) each(lay func(x api.Wish) string) {
	for _, x := range w.told.Wishes {
		w.add(lay(x))
	}
}

// add lays an argument.
func (w *writer) add(arg string) {
	w.args = append(w.args, arg)
}
