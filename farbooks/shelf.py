"""A shelf: for each key its values at moments."""

from farbooks.spans import has_key


class Shelf:
    """Values of keys at moments; what was put once stays."""

    def __init__(self):
        self.pages = {}

    def put(self, key, moment, value):
        """Put a value, unless the key has one of that moment."""
        page = self.pages.setdefault(key, {})
        page.setdefault(moment, value)

    def at(self, key, moment):
        """The key's value at the moment."""
        page = self.pages.get(key, {})
        moments = [known for known in page if known <= moment]
        if not moments:
            return 0
        return page[max(moments)]

    def newest(self, key):
        """The pair (moment, value) of the key's greatest moment."""
        page = self.pages.get(key, {})
        if not page:
            return (0, 0)
        moment = max(page)
        return (moment, page[moment])

    def rows(self, span):
        """The sorted list of (key, moment, value) with keys of the span."""
        found = []
        for key, page in self.pages.items():
            if has_key(span, key):
                found.extend([(key, moment, value) for moment, value in page.items()])
        return sorted(found)

    def take(self, rows):
        """Put all the rows, in their order."""
        for key, moment, value in rows:
            self.put(key, moment, value)
