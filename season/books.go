package season

import (
	"cmp"
	"maps"
	"slices"

	"dugout/api"
)

// Put returns the book with a new game.
func Put(b Book, g Game) (Book, api.Errno) {
	e := first(CheckBook(b), CheckGame(g), b.checkNew(g.Name), checkVersion(g, 1), b.checkRoom())
	if e != api.OK {
		return Book{}, e
	}
	return bookOf(slices.Concat(b.Games, []Game{g})), api.OK
}

// Replace returns the book with the next version of a game.
func Replace(b Book, g Game) (Book, api.Errno) {
	if e := first(CheckBook(b), CheckGame(g), b.checkKnown(g.Name)); e != api.OK {
		return Book{}, e
	}
	at := b.find(g.Name)
	if e := checkVersion(g, b.Games[at].Version+1); e != api.OK {
		return Book{}, e
	}
	changed := slices.Clone(b.Games)
	changed[at] = g
	return bookOf(changed), api.OK
}

// Remove returns the book without a game.
func Remove(b Book, name string) (Book, api.Errno) {
	if e := first(CheckBook(b), checkNames(name), b.checkKnown(name)); e != api.OK {
		return Book{}, e
	}
	return bookOf(filter(b.Games, func(g Game) bool { return g.Name != name })), api.OK
}

// Merge returns what two books know together.
func Merge(a, b Book) (Book, api.Errno) {
	if e := first(CheckBook(a), CheckBook(b)); e != api.OK {
		return Book{}, e
	}
	known := map[string]Game{}
	for g := range games(a.Games, b.Games) {
		other, there := known[g.Name]
		if !there || g.prevails(other) {
			known[g.Name] = g
		}
	}
	if len(known) > api.MaxGames {
		return Book{}, api.ErrMany
	}
	return bookOf(slices.Collect(maps.Values(known))), api.OK
}

// Between returns the games of a book from a day to a day.
func Between(b Book, from, to int) (Book, api.Errno) {
	if e := first(CheckBook(b), checkRange(0, MaxDay, from, to)); e != api.OK {
		return Book{}, e
	}
	if to < from {
		return Book{}, api.ErrOrder
	}
	return bookOf(filter(b.Games, func(g Game) bool { return within(g.Day, from, to) })), api.OK
}

// bookOf returns the book of some games with different names, which need not be in order.
func bookOf(l []Game) Book {
	copies := transform(l, Game.copied)
	slices.SortFunc(copies, Game.compare)
	return Book{copies}
}

// copied returns a game that shares no memory with this one.
func (g Game) copied() Game {
	g.Lines = slices.Clone(g.Lines)
	return g
}

// compare compares games by their order in a book.
func (g Game) compare(other Game) int {
	return cmp.Or(cmp.Compare(g.Day, other.Day), cmp.Compare(g.Name, other.Name))
}

// prevails reports whether a game takes the place of another one with its name if two books have them.
func (g Game) prevails(other Game) bool {
	return cmp.Or(cmp.Compare(g.Version, other.Version), cmp.Compare(other.text(), g.text())) > 0
}

// find returns the index of the game with a name, or -1.
func (b Book) find(name string) int {
	return slices.IndexFunc(b.Games, func(g Game) bool { return g.Name == name })
}

func (b Book) checkKnown(name string) api.Errno {
	if b.find(name) < 0 {
		return api.ErrUnknown
	}
	return api.OK
}

// checkRoom returns ErrMany if a book can have no further game.
func (b Book) checkRoom() api.Errno {
	if len(b.Games) >= api.MaxGames {
		return api.ErrMany
	}
	return api.OK
}

func checkVersion(g Game, version int) api.Errno {
	if g.Version != version {
		return api.ErrVersion
	}
	return api.OK
}
